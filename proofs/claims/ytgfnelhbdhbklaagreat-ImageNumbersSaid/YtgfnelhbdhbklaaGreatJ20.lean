/- Texts joined: UTP, UTC, UTM, UTR, ILO, ILQ, USH, RHD, UFW, ITA, ITL0, UTN, INM, ITL, KR9, ILZ. -/
import Derived.Test.YtgfnelhbdhbklaaGreatJ1
import Derived.Test.YtgfnelhbdhbklaaGreatJ2
import Derived.Test.YtgfnelhbdhbklaaGreatJ3
import Derived.Test.YtgfnelhbdhbklaaGreatJ5
import Derived.Test.YtgfnelhbdhbklaaGreatJ7
import Derived.Test.YtgfnelhbdhbklaaGreatJ8
import Derived.Test.YtgfnelhbdhbklaaGreatJ12
import Derived.Test.YtgfnelhbdhbklaaGreatJ14
import Derived.Test.YtgfnelhbdhbklaaGreatJ15
import Derived.Test.YtgfnelhbdhbklaaGreatJ19
import Derived.Maps.AppendAt
import Derived.Deep.AppendLies
import Derived.SizedLaws
import Derived.ProofKit
import Derived.OpenShut
import Derived.Carry
import Derived.OrdersHeld
import Derived.Deep.RegionHeld
import Derived.Deep.MidRow
import Derived.ArgAppend
namespace Go.Proofs.YtgfnelhbdhbklaaGreat
open Go.RowKit
set_option linter.unusedVariables false
set_option maxRecDepth 20000
namespace Wd
theorem UnV.k {w:World} {nv cv mv ov:Value} {U:UnitA} (h:UnV w nv cv mv ov U) (hm:U.main=6):UnK w (.agg #[nv,cv,mv,ov,.int .i64 6]) U:=by
 obtain⟨na,nc,rfl,_⟩:=h.n.ex
 obtain⟨ca,cc,rfl,_⟩:=h.c.ex
 obtain⟨ma,mc,rfl,_⟩:=h.m.ex
 obtain⟨oa,oc,rfl,_⟩:=h.o.ex
 exact⟨⟨na,nc,ca,cc,ma,mc,oa,oc,by rw[hm],h⟩⟩
theorem MeV.of {w:World} {la ca:Option Addr} {nl lc nb cc:Nat} {a t:Int} {L:List (Int × Int)} {C:List Int} (hl:PrV w (.slice la nl lc) L) (hc:ByV w (.slice ca nb cc) C) (ha:In64 a) (ht:In64 t):MeV w (.agg #[.int .i64 a,.int .i64 t,.slice la nl lc,.slice ca nb cc]) ⟨a,t,L,C⟩:=by
 obtain⟨_,_,e,_⟩:=hl.ex
 obtain⟨_,_,e2,_⟩:=hc.ex
 cases e;cases e2
 exact⟨⟨la,lc,ca,cc,rfl,hl,hc⟩,ha,ht⟩
def NumA (w:World) (ad:Option Addr) (n:Nat):Prop:=∀ k,k < n→∃ (g off:Nat) (x:Int),ad=some ⟨g,off,none⟩∧(-9223372036854775808≤x∧x≤9223372036854775807)∧w.cell? ⟨g,off+k,none⟩=some (.int .i64 x)
theorem NumA.up {w w1:World} {ad:Option Addr} {n:Nat} (h:NumA w ad n) (b:Below w.heap.size w w1):NumA w1 ad n:=fun k hk=>by
 obtain⟨g,off,x,e,h1,h2⟩:=h k hk
 exact⟨g,off,x,e,h1,cell_up b h2⟩
theorem tape_tp {w:World} {ad:Option Addr} {n cap:Nat} (h:NumA w ad n) (hn:n≤4611686018427387904):Tp (w.alloc (.cells #[.slice ad n cap,.int .i64 0] 32)) w.heap.size ad n:=by
 refine⟨⟨cap,by simp⟩,⟨0,by omega,by simp⟩,World.frozen?_alloc_new _ _ _ _,fun k hk=>?_,hn⟩
 obtain⟨g,off,x,e,b,c⟩:=h k hk
 have hg:=World.block_lt_of_cell? w _ c
 exact⟨g,off,x,e,by simp only at hg;omega,b,(World.cell?_alloc_old _ _ _ (Nat.ne_of_lt hg)).trans c⟩
theorem unit_bel {w w':World} {c:Obj} (h:Cg (fun k=>k=w.heap.size) (w.alloc c) w'):Below w.heap.size w w' :=
 ⟨h.os,h.tape,h.output,by have:=h.size;simp at this;omega,fun k hk=>(h.block k (by simp;omega) (by omega)).trans (Below.heap_alloc _ _ _ hk)⟩
structure UnT (s:Nat) (w:World) (v:Value) (U:UnitA) (g cap:Nat) (M:List (MethA × Value × Value)):Prop where
 ex:∃ na nc ca cc oa oc,v=.agg #[.slice na U.names.length nc,.slice ca U.classes.length cc,.slice (some ⟨g,0,none⟩) U.methods.length cap,.slice oa U.objects.length oc,.int .i64 U.main]
 un:∀ (G:Nat→Prop) (w2:World),Cg G w w2→(∀ k,G k→k < s)→UnK w2 v U
 mm:M.map (·.1)=U.methods
 ms:∀ (G:Nat→Prop) (w2:World),Cg G w w2→(∀ k,G k→k < s)→∀ (k:Nat) x,M[k]?=some x→w2.cell? ⟨g,k*4,none⟩=some (.int .i64 x.1.args)∧w2.cell? ⟨g,k*4+1,none⟩=some (.int .i64 x.1.temps)∧w2.cell? ⟨g,k*4+2,none⟩=some x.2.1∧w2.cell? ⟨g,k*4+3,none⟩=some x.2.2∧In64 x.1.args∧In64 x.1.temps∧PrV w2 x.2.1 x.1.lits∧ByV w2 x.2.2 x.1.code
 ta:TapeU U
theorem UnT.cg {s:Nat} {w w1:World} {v:Value} {U:UnitA} {g cap:Nat} {M:List (MethA × Value × Value)} (h:UnT s w v U g cap M) {F:Nat→Prop} (c:Cg F w w1) (hF:∀ k,F k→k < s):UnT s w1 v U g cap M :=
 ⟨h.ex,fun G w2 hG hl=>h.un (fun k=>F k∨G k) w2 ((c.mono (fun k hk=>Or.inl hk)).trans (hG.mono (fun k hk=>Or.inr hk))) (fun k hk=>hk.elim (hF k) (hl k)),h.mm,
  fun G w2 hG hl=>h.ms (fun k=>F k∨G k) w2 ((c.mono (fun k hk=>Or.inl hk)).trans (hG.mono (fun k hk=>Or.inr hk))) (fun k hk=>hk.elim (hF k) (hl k)),h.ta⟩
theorem UnT.up {s:Nat} {w w1:World} {v:Value} {U:UnitA} {g cap:Nat} {M:List (MethA × Value × Value)} (h:UnT s w v U g cap M) (b:Below w.heap.size w w1):UnT s w1 v U g cap M:=h.cg (Cg.below (fun _=>False) b) (fun _ e=>e.elim)
theorem UnT.k {s:Nat} {w:World} {v:Value} {U:UnitA} {g cap:Nat} {M:List (MethA × Value × Value)} (h:UnT s w v U g cap M):UnK w v U:=h.un (fun _=>False) w (Cg.refl _ _) (fun _ e=>e.elim)
theorem UnT.m {s:Nat} {w:World} {v:Value} {U:UnitA} {g cap:Nat} {M:List (MethA × Value × Value)} (h:UnT s w v U g cap M) {k:Nat} {x:MethA × Value × Value} (hx:M[k]?=some x):w.cell? ⟨g,k*4,none⟩=some (.int .i64 x.1.args)∧w.cell? ⟨g,k*4+1,none⟩=some (.int .i64 x.1.temps)∧w.cell? ⟨g,k*4+2,none⟩=some x.2.1∧w.cell? ⟨g,k*4+3,none⟩=some x.2.2∧In64 x.1.args∧In64 x.1.temps∧PrV w x.2.1 x.1.lits∧ByV w x.2.2 x.1.code:=h.ms (fun _=>False) w (Cg.refl _ _) (fun _ e=>e.elim) k x hx
theorem UnT.me {s:Nat} {w:World} {v:Value} {U:UnitA} {g cap:Nat} {M:List (MethA × Value × Value)} (h:UnT s w v U g cap M) {k:Nat} {x:MethA × Value × Value} (hx:M[k]?=some x):MeV w (.agg #[.int .i64 x.1.args,.int .i64 x.1.temps,x.2.1,x.2.2]) x.1:=by
 obtain⟨_,_,_,_,i1,i2,hl,hc⟩:=h.m hx
 obtain⟨la,lc,e1,_⟩:=hl.form
 obtain⟨ca,cc,e2,_⟩:=hc.form
 rw[e1] at hl ⊢
 rw[e2] at hc ⊢
 exact MeV.of hl hc i1 i2
theorem UnT.ml {s:Nat} {w:World} {v:Value} {U:UnitA} {g cap:Nat} {M:List (MethA × Value × Value)} (h:UnT s w v U g cap M):M.length=9∧U.methods.length=9:=by
 have:=h.ta.ml
 rw[← h.mm] at this
 exact⟨by simpa using this,h.ta.ml⟩
structure TapeL (L:List ClassA):Prop where
 le:L.length≤5
 ok:∀ (k:Nat) c,L[k]?=some c→clsOk L k c∧bndSub 6 c.binds
theorem TapeU.tl {U:UnitA} (h:TapeU U):TapeL U.classes:=⟨h.cl1,fun k c hc=>⟨(h.cls k c hc).1,(h.cls k c hc).2.2⟩⟩
theorem TapeL.take {L:List ClassA} (h:TapeL L) (n:Nat):TapeL (L.take n):=by
 refine⟨by rw[List.length_take];have:=h.le;omega,fun k c hc=>?_⟩
 have hk:k < n∧L[k]?=some c:=by
  rw[List.getElem?_take] at hc
  split at hc
  ·exact⟨by assumption,hc⟩
  ·cases hc
 obtain⟨a,b⟩:=h.ok k c hk.2
 refine⟨⟨a.z,a.o,a.nm,fun h2=>?_,a.fld⟩,b⟩
 rcases a.sup h2 with e | ⟨e1,e2,d,e3,e4⟩
 ·exact Or.inl e
 ·exact Or.inr ⟨e1,e2,d,by rw[List.getElem?_take,if_pos (by omega)];exact e3,e4⟩
def nmOf (k:Nat):ByteArray:=if k=0 then ⟨#[66,108,111,99,107]⟩ else if k=1 then ⟨#[65,114,114,97,121]⟩ else cName (k - 2)
theorem nm_at {L:List ClassA} {k:Nat} {c:ClassA} (h:clsOk L k c):c.nm=nmOf k:=by
 unfold nmOf
 split
 ·exact (h.z ‹_›).1
 ·split
  ·exact (h.o ‹_›).1
  ·exact h.nm (by omega)
theorem nm_apart:∀ i,i < 5→∀ j,j < i→nmOf j≠nmOf i:=by decide +kernel
theorem nm_text:∀ i,i < 5→textOk (nmOf i)=true:=by decide +kernel
theorem bnd_right {b:List (Int × Int)} (h:bndSub 6 b):bindsOk b 6 9=true:=by
 have hl:=h.len
 obtain⟨S,h1,h2,rfl⟩:=h
 unfold bindsOk
 have a:(S.map (fun (s:Nat)=>((s:Int),(s:Int)))).all (bindOk 6 9)=true:=by
  rw[List.all_eq_true]
  intro x hx
  obtain⟨s,hs,rfl⟩:=List.mem_map.1 hx
  have:=h2 s hs
  exact bindOk_of (by simp only;omega) (by simp only;omega) (by simp only;omega) (by simp only;omega)
 have d:((S.map (fun (s:Nat)=>((s:Int),(s:Int)))).map (·.1)).Nodup:=by
  rw[List.map_map,List.Nodup,List.pairwise_map]
  exact h1.imp (fun hlt e=>by simp only[Function.comp] at e;omega)
 rw[a,decide_eq_true d,decide_eq_true (by omega)]
 rfl
theorem tape_cls {L:List ClassA} (h:TapeL L) {k:Nat} {c:ClassA} (hc:L[k]?=some c):classOk L k c=true:=by
 obtain⟨a,_⟩:=h.ok k c hc
 have hk:=(List.getElem?_eq_some_iff.1 hc).1
 have hk5:=h.le
 have hd:=deep_le L (k+1) c.super
 have key:-1≤c.super∧c.super < k∧0≤c.fields∧c.fields≤62∧(c.super < 0∨superF L c.super≤c.fields):=by
  rcases (show k=0∨k=1∨2≤k by omega) with e | e | e
  ·obtain⟨_,s,f⟩:=a.z e
   rw[s,f];omega
  ·obtain⟨_,s,f⟩:=a.o e
   rw[s,f];omega
  ·obtain⟨f0,f1⟩:=a.fld e
   rcases a.sup e with e1 | ⟨e1,e2,d,e3,e4⟩
   ·omega
   ·refine⟨by omega,e2,f0,by omega,Or.inr ?_⟩
    unfold superF
    rw[e3];exact e4
 obtain⟨k1,k2,k3,k4,k5⟩:=key
 rw[classOk_eq k1 k2 k3 k4,decide_eq_true (by omega)]
 rcases k5 with k5 | k5
 ·rw[decide_eq_true k5];rfl
 ·rw[decide_eq_true k5];simp
theorem tape_from {L:List ClassA} (h:TapeL L):∀ (R:List ClassA) (i:Nat),L.drop i=R→shapeFrom L 6 9 i R=0
 | [],_,_=>rfl
 | c :: R,i,e=>by
  have hc:L[i]?=some c:=by
   have:=congrArg (fun l=>l[0]?) e
   simpa [List.getElem?_drop] using this
  have hi:=(List.getElem?_eq_some_iff.1 hc).1
  have h5:=h.le
  obtain⟨a,b⟩:=h.ok i c hc
  have hn:∀ x∈L.take i,x.nm≠c.nm:=fun x hx=>by
   obtain⟨j,hj⟩:=List.getElem?_of_mem hx
   have hji:j < i∧L[j]?=some x:=by
    rw[List.getElem?_take] at hj
    split at hj
    ·exact⟨by assumption,hj⟩
    ·cases hj
   rw[nm_at (h.ok j x hji.2).1,nm_at a]
   exact nm_apart i (by omega) j hji.1
  rw[shapeFrom,if_neg (by rw[nm_at a,nm_text i (by omega)];decide),if_neg (by rw[anyNot hn];decide),if_neg (by rw[tape_cls h hc];decide),if_neg (by rw[bnd_right b];decide)]
  refine tape_from h R (i+1) ?_
  have:=drop_next hc
  rw[e] at this
  exact (List.cons.inj this).2.symm
theorem tape_right {L:List ClassA} (h:TapeL L) (h2:2≤L.length):shapeR L 6 9=0:=by
 have h5:=h.le
 have hh:headOk L=true:=by
  obtain⟨a,ha⟩:∃ x,L[0]?=some x:=⟨L[0]'(by omega),by simp⟩
  obtain⟨b,hb⟩:∃ x,L[1]?=some x:=⟨L[1]'(by omega),by simp⟩
  rw[head_at ha hb]
  obtain⟨_,s0,f0⟩:=(h.ok 0 a ha).1.z rfl
  obtain⟨_,s1,f1⟩:=(h.ok 1 b hb).1.o rfl
  rw[s0,f0,s1,f1];rfl
 unfold shapeR
 rw[if_neg (by omega),if_neg (by rw[hh];decide)]
 exact tape_from h L 0 rfl
theorem wr8_id {x:Int} (h0:0≤x) (h1:x≤255):wr8 x=x:=by
 have e:wr8 x=x % 256:=by
  unfold wr8 IntKind.wrap
  rfl
 rw[e];omega
def insW (j n:Nat) (y:Int × Int):Prop :=
 ((y.1=0∨y.1=10)∧y.2 < 2)∨((y.1=1∨y.1=11)∧y.2 < 62)∨(y.1=2∧0≤y.2∧y.2 < 4)∨((y.1=12∨y.1=13)∧4≤y.2∧y.2 < 10)∨(y.1=20∧10≤y.2∧y.2 < 12)∨(y.1=18∧12≤y.2∧y.2 < 14)∨(y.1=17∧(j:Int)+1+y.2≤n)∨(y.1=21∧y.2≤23)∨((3≤y.1∧y.1≤9)∨y.1=14∨y.1=19)
theorem w_mk {j n:Nat} {a b:Int} (h:((a=0∨a=10)∧b < 2)∨((a=1∨a=11)∧b < 62)∨(a=2∧0≤b∧b < 4)∨((a=12∨a=13)∧4≤b∧b < 10)∨(a=20∧10≤b∧b < 12)∨(a=18∧12≤b∧b < 14)∨(a=17∧(j:Int)+1+b≤n)∨(a=21∧b≤23)∨((3≤a∧a≤9)∨a=14∨a=19)):insW j n (a,b):=h
theorem w_A {l:List (Int × Int)} (h:pkA l) {j:Nat} {z9:Int × Int} (hj:l[j]?=some z9):insW j l.length z9:=by
 obtain⟨a,ha,rfl⟩:=h
 rcases (show j=0∨j=1∨j=2 by have:=(List.getElem?_eq_some_iff.1 hj).1;simp at this;omega) with rfl | rfl | rfl
 ·obtain rfl:(wr8 7,wr8 a)=z9:=by simpa using hj
  have b9:=wr8_bd a
  rw[wr8_id (x:=7) (by omega) (by omega)]
  refine w_mk (n:=3) ?_
  omega
 ·obtain rfl:(wr8 21,wr8 10)=z9:=by simpa using hj
  have b9:=wr8_bd 10
  rw[wr8_id (x:=21) (by omega) (by omega)]
  rw[wr8_id (x:=10) (by omega) (by omega)]
  refine w_mk (n:=3) ?_
  omega
 ·obtain rfl:(wr8 8,wr8 0)=z9:=by simpa using hj
  have b9:=wr8_bd 0
  rw[wr8_id (x:=8) (by omega) (by omega)]
  refine w_mk (n:=3) ?_
  omega
theorem w_B {l:List (Int × Int)} (h:pkB l) {j:Nat} {z9:Int × Int} (hj:l[j]?=some z9):insW j l.length z9:=by
 obtain⟨s,hs,rfl⟩:=h
 rcases (show j=0∨j=1∨j=2 by have:=(List.getElem?_eq_some_iff.1 hj).1;simp at this;omega) with rfl | rfl | rfl
 ·obtain rfl:(wr8 3,wr8 0)=z9:=by simpa using hj
  have b9:=wr8_bd 0
  rw[wr8_id (x:=3) (by omega) (by omega)]
  refine w_mk (n:=3) ?_
  omega
 ·obtain rfl:(wr8 12,wr8 s)=z9:=by simpa using hj
  have b9:=wr8_bd s
  rw[wr8_id (x:=12) (by omega) (by omega)]
  rw[wr8_id (x:=s) (by omega) (by omega)]
  refine w_mk (n:=3) ?_
  omega
 ·obtain rfl:(wr8 8,wr8 0)=z9:=by simpa using hj
  have b9:=wr8_bd 0
  rw[wr8_id (x:=8) (by omega) (by omega)]
  refine w_mk (n:=3) ?_
  omega
theorem w_C {l:List (Int × Int)} (h:pkC l) {j:Nat} {z9:Int × Int} (hj:l[j]?=some z9):insW j l.length z9:=by
 obtain⟨a,x,ha,hx,rfl⟩:=h
 rcases (show j=0∨j=1∨j=2∨j=3∨j=4 by have:=(List.getElem?_eq_some_iff.1 hj).1;simp at this;omega) with rfl | rfl | rfl | rfl | rfl
 ·obtain rfl:(wr8 3,wr8 0)=z9:=by simpa using hj
  have b9:=wr8_bd 0
  rw[wr8_id (x:=3) (by omega) (by omega)]
  refine w_mk (n:=5) ?_
  omega
 ·obtain rfl:(wr8 7,wr8 a)=z9:=by simpa using hj
  have b9:=wr8_bd a
  rw[wr8_id (x:=7) (by omega) (by omega)]
  refine w_mk (n:=5) ?_
  omega
 ·obtain rfl:(wr8 12,wr8 (5+x))=z9:=by simpa using hj
  have b9:=wr8_bd (5+x)
  rw[wr8_id (x:=12) (by omega) (by omega)]
  rw[wr8_id (x:=(5+x)) (by omega) (by omega)]
  refine w_mk (n:=5) ?_
  omega
 ·obtain rfl:(wr8 21,wr8 10)=z9:=by simpa using hj
  have b9:=wr8_bd 10
  rw[wr8_id (x:=21) (by omega) (by omega)]
  rw[wr8_id (x:=10) (by omega) (by omega)]
  refine w_mk (n:=5) ?_
  omega
 ·obtain rfl:(wr8 8,wr8 0)=z9:=by simpa using hj
  have b9:=wr8_bd 0
  rw[wr8_id (x:=8) (by omega) (by omega)]
  refine w_mk (n:=5) ?_
  omega
theorem w_D {l:List (Int × Int)} (h:pkD l) {j:Nat} {z9:Int × Int} (hj:l[j]?=some z9):insW j l.length z9:=by
 obtain⟨i,a,q,hi,ha,hq,rfl⟩:=h
 rcases (show j=0∨j=1∨j=2∨j=3∨j=4 by have:=(List.getElem?_eq_some_iff.1 hj).1;simp at this;omega) with rfl | rfl | rfl | rfl | rfl
 ·obtain rfl:(wr8 2,wr8 i)=z9:=by simpa using hj
  have b9:=wr8_bd i
  rw[wr8_id (x:=2) (by omega) (by omega)]
  rw[wr8_id (x:=i) (by omega) (by omega)]
  refine w_mk (n:=5) ?_
  omega
 ·obtain rfl:(wr8 7,wr8 (a - 9))=z9:=by simpa using hj
  have b9:=wr8_bd (a - 9)
  rw[wr8_id (x:=7) (by omega) (by omega)]
  refine w_mk (n:=5) ?_
  omega
 ·obtain rfl:(wr8 21,wr8 q)=z9:=by simpa using hj
  have b9:=wr8_bd q
  rw[wr8_id (x:=21) (by omega) (by omega)]
  rw[wr8_id (x:=q) (by omega) (by omega)]
  refine w_mk (n:=5) ?_
  omega
 ·obtain rfl:(wr8 21,wr8 10)=z9:=by simpa using hj
  have b9:=wr8_bd 10
  rw[wr8_id (x:=21) (by omega) (by omega)]
  rw[wr8_id (x:=10) (by omega) (by omega)]
  refine w_mk (n:=5) ?_
  omega
 ·obtain rfl:(wr8 8,wr8 0)=z9:=by simpa using hj
  have b9:=wr8_bd 0
  rw[wr8_id (x:=8) (by omega) (by omega)]
  refine w_mk (n:=5) ?_
  omega
theorem w_E {l:List (Int × Int)} (h:pkE l) {j:Nat} {z9:Int × Int} (hj:l[j]?=some z9):insW j l.length z9:=by
 obtain⟨x,y,hx,hy,rfl⟩:=h
 rcases (show j=0∨j=1∨j=2 by have:=(List.getElem?_eq_some_iff.1 hj).1;simp at this;omega) with rfl | rfl | rfl
 ·obtain rfl:(wr8 20,wr8 (10+x))=z9:=by simpa using hj
  have b9:=wr8_bd (10+x)
  rw[wr8_id (x:=20) (by omega) (by omega)]
  rw[wr8_id (x:=(10+x)) (by omega) (by omega)]
  refine w_mk (n:=3) ?_
  omega
 ·obtain rfl:(wr8 10,wr8 y)=z9:=by simpa using hj
  have b9:=wr8_bd y
  rw[wr8_id (x:=10) (by omega) (by omega)]
  rw[wr8_id (x:=y) (by omega) (by omega)]
  refine w_mk (n:=3) ?_
  omega
 ·obtain rfl:(wr8 8,wr8 0)=z9:=by simpa using hj
  have b9:=wr8_bd 0
  rw[wr8_id (x:=8) (by omega) (by omega)]
  refine w_mk (n:=3) ?_
  omega
theorem w_F {l:List (Int × Int)} (h:pkF l) {j:Nat} {z9:Int × Int} (hj:l[j]?=some z9):insW j l.length z9:=by
 obtain⟨a,y,ha,hy,rfl⟩:=h
 rcases (show j=0∨j=1∨j=2∨j=3 by have:=(List.getElem?_eq_some_iff.1 hj).1;simp at this;omega) with rfl | rfl | rfl | rfl
 ·obtain rfl:(wr8 7,wr8 a)=z9:=by simpa using hj
  have b9:=wr8_bd a
  rw[wr8_id (x:=7) (by omega) (by omega)]
  refine w_mk (n:=4) ?_
  omega
 ·obtain rfl:(wr8 21,wr8 18)=z9:=by simpa using hj
  have b9:=wr8_bd 18
  rw[wr8_id (x:=21) (by omega) (by omega)]
  rw[wr8_id (x:=18) (by omega) (by omega)]
  refine w_mk (n:=4) ?_
  omega
 ·obtain rfl:(wr8 10,wr8 y)=z9:=by simpa using hj
  have b9:=wr8_bd y
  rw[wr8_id (x:=10) (by omega) (by omega)]
  rw[wr8_id (x:=y) (by omega) (by omega)]
  refine w_mk (n:=4) ?_
  omega
 ·obtain rfl:(wr8 8,wr8 0)=z9:=by simpa using hj
  have b9:=wr8_bd 0
  rw[wr8_id (x:=8) (by omega) (by omega)]
  refine w_mk (n:=4) ?_
  omega
theorem w_G {l:List (Int × Int)} (h:pkG l) {j:Nat} {z9:Int × Int} (hj:l[j]?=some z9):insW j l.length z9:=by
 obtain⟨x,k,s,z,hx,hk,hs,hz,rfl⟩:=h
 rcases (show j=0∨j=1∨j=2∨j=3∨j=4 by have:=(List.getElem?_eq_some_iff.1 hj).1;simp at this;omega) with rfl | rfl | rfl | rfl | rfl
 ·obtain rfl:(wr8 0,wr8 x)=z9:=by simpa using hj
  have b9:=wr8_bd x
  rw[wr8_id (x:=0) (by omega) (by omega)]
  rw[wr8_id (x:=x) (by omega) (by omega)]
  refine w_mk (n:=5) ?_
  omega
 ·obtain rfl:(wr8 7,wr8 k)=z9:=by simpa using hj
  have b9:=wr8_bd k
  rw[wr8_id (x:=7) (by omega) (by omega)]
  refine w_mk (n:=5) ?_
  omega
 ·obtain rfl:(wr8 s,wr8 z)=z9:=by simpa using hj
  have b9:=wr8_bd z
  rw[wr8_id (x:=s) (by omega) (by omega)]
  rw[wr8_id (x:=z) (by omega) (by omega)]
  refine w_mk (n:=5) ?_
  omega
 ·obtain rfl:(wr8 21,wr8 9)=z9:=by simpa using hj
  have b9:=wr8_bd 9
  rw[wr8_id (x:=21) (by omega) (by omega)]
  rw[wr8_id (x:=9) (by omega) (by omega)]
  refine w_mk (n:=5) ?_
  omega
 ·obtain rfl:(wr8 8,wr8 0)=z9:=by simpa using hj
  have b9:=wr8_bd 0
  rw[wr8_id (x:=8) (by omega) (by omega)]
  refine w_mk (n:=5) ?_
  omega
theorem w_H {l:List (Int × Int)} (h:pkH l) {j:Nat} {z9:Int × Int} (hj:l[j]?=some z9):insW j l.length z9:=by
 obtain⟨x,k,hx,hk,rfl⟩:=h
 rcases (show j=0∨j=1∨j=2∨j=3 by have:=(List.getElem?_eq_some_iff.1 hj).1;simp at this;omega) with rfl | rfl | rfl | rfl
 ·obtain rfl:(wr8 0,wr8 x)=z9:=by simpa using hj
  have b9:=wr8_bd x
  rw[wr8_id (x:=0) (by omega) (by omega)]
  rw[wr8_id (x:=x) (by omega) (by omega)]
  refine w_mk (n:=4) ?_
  omega
 ·obtain rfl:(wr8 7,wr8 k)=z9:=by simpa using hj
  have b9:=wr8_bd k
  rw[wr8_id (x:=7) (by omega) (by omega)]
  refine w_mk (n:=4) ?_
  omega
 ·obtain rfl:(wr8 21,wr8 8)=z9:=by simpa using hj
  have b9:=wr8_bd 8
  rw[wr8_id (x:=21) (by omega) (by omega)]
  rw[wr8_id (x:=8) (by omega) (by omega)]
  refine w_mk (n:=4) ?_
  omega
 ·obtain rfl:(wr8 21,wr8 10)=z9:=by simpa using hj
  have b9:=wr8_bd 10
  rw[wr8_id (x:=21) (by omega) (by omega)]
  rw[wr8_id (x:=10) (by omega) (by omega)]
  refine w_mk (n:=4) ?_
  omega
theorem w_I {l:List (Int × Int)} (h:pkI l) {j:Nat} {z9:Int × Int} (hj:l[j]?=some z9):insW j l.length z9:=by
 unfold pkI at h
 subst h
 rcases (show j=0∨j=1∨j=2 by have:=(List.getElem?_eq_some_iff.1 hj).1;simp at this;omega) with rfl | rfl | rfl
 ·obtain rfl:(wr8 18,wr8 12)=z9:=by simpa using hj
  have b9:=wr8_bd 12
  rw[wr8_id (x:=18) (by omega) (by omega)]
  rw[wr8_id (x:=12) (by omega) (by omega)]
  refine w_mk (n:=3) ?_
  omega
 ·obtain rfl:(wr8 21,wr8 11)=z9:=by simpa using hj
  have b9:=wr8_bd 11
  rw[wr8_id (x:=21) (by omega) (by omega)]
  rw[wr8_id (x:=11) (by omega) (by omega)]
  refine w_mk (n:=3) ?_
  omega
 ·obtain rfl:(wr8 8,wr8 0)=z9:=by simpa using hj
  have b9:=wr8_bd 0
  rw[wr8_id (x:=8) (by omega) (by omega)]
  refine w_mk (n:=3) ?_
  omega
theorem w_J {l:List (Int × Int)} (h:pkJ l) {j:Nat} {z9:Int × Int} (hj:l[j]?=some z9):insW j l.length z9:=by
 obtain⟨a,ha,rfl⟩:=h
 rcases (show j=0∨j=1∨j=2∨j=3 by have:=(List.getElem?_eq_some_iff.1 hj).1;simp at this;omega) with rfl | rfl | rfl | rfl
 ·obtain rfl:(wr8 18,wr8 13)=z9:=by simpa using hj
  have b9:=wr8_bd 13
  rw[wr8_id (x:=18) (by omega) (by omega)]
  rw[wr8_id (x:=13) (by omega) (by omega)]
  refine w_mk (n:=4) ?_
  omega
 ·obtain rfl:(wr8 7,wr8 a)=z9:=by simpa using hj
  have b9:=wr8_bd a
  rw[wr8_id (x:=7) (by omega) (by omega)]
  refine w_mk (n:=4) ?_
  omega
 ·obtain rfl:(wr8 21,wr8 12)=z9:=by simpa using hj
  have b9:=wr8_bd 12
  rw[wr8_id (x:=21) (by omega) (by omega)]
  rw[wr8_id (x:=12) (by omega) (by omega)]
  refine w_mk (n:=4) ?_
  omega
 ·obtain rfl:(wr8 8,wr8 0)=z9:=by simpa using hj
  have b9:=wr8_bd 0
  rw[wr8_id (x:=8) (by omega) (by omega)]
  refine w_mk (n:=4) ?_
  omega
theorem w_K {l:List (Int × Int)} (h:pkK l) {j:Nat} {z9:Int × Int} (hj:l[j]?=some z9):insW j l.length z9:=by
 obtain⟨k,hk,rfl⟩:=h
 rcases (show j=0∨j=1∨j=2∨j=3 by have:=(List.getElem?_eq_some_iff.1 hj).1;simp at this;omega) with rfl | rfl | rfl | rfl
 ·obtain rfl:(wr8 18,wr8 12)=z9:=by simpa using hj
  have b9:=wr8_bd 12
  rw[wr8_id (x:=18) (by omega) (by omega)]
  rw[wr8_id (x:=12) (by omega) (by omega)]
  refine w_mk (n:=4) ?_
  omega
 ·obtain rfl:(wr8 7,wr8 k)=z9:=by simpa using hj
  have b9:=wr8_bd k
  rw[wr8_id (x:=7) (by omega) (by omega)]
  refine w_mk (n:=4) ?_
  omega
 ·obtain rfl:(wr8 21,wr8 13)=z9:=by simpa using hj
  have b9:=wr8_bd 13
  rw[wr8_id (x:=21) (by omega) (by omega)]
  rw[wr8_id (x:=13) (by omega) (by omega)]
  refine w_mk (n:=4) ?_
  omega
 ·obtain rfl:(wr8 8,wr8 0)=z9:=by simpa using hj
  have b9:=wr8_bd 0
  rw[wr8_id (x:=8) (by omega) (by omega)]
  refine w_mk (n:=4) ?_
  omega
theorem w_L {l:List (Int × Int)} (h:pkL l) {j:Nat} {z9:Int × Int} (hj:l[j]?=some z9):insW j l.length z9:=by
 obtain⟨k,x,hk,hx,rfl⟩:=h
 rcases (show j=0∨j=1∨j=2 by have:=(List.getElem?_eq_some_iff.1 hj).1;simp at this;omega) with rfl | rfl | rfl
 ·obtain rfl:(wr8 7,wr8 k)=z9:=by simpa using hj
  have b9:=wr8_bd k
  rw[wr8_id (x:=7) (by omega) (by omega)]
  refine w_mk (n:=3) ?_
  omega
 ·obtain rfl:(wr8 21,wr8 (15+x))=z9:=by simpa using hj
  have b9:=wr8_bd (15+x)
  rw[wr8_id (x:=21) (by omega) (by omega)]
  rw[wr8_id (x:=(15+x)) (by omega) (by omega)]
  refine w_mk (n:=3) ?_
  omega
 ·obtain rfl:(wr8 8,wr8 0)=z9:=by simpa using hj
  have b9:=wr8_bd 0
  rw[wr8_id (x:=8) (by omega) (by omega)]
  refine w_mk (n:=3) ?_
  omega
theorem w_M {l:List (Int × Int)} (h:pkM l) {j:Nat} {z9:Int × Int} (hj:l[j]?=some z9):insW j l.length z9:=by
 obtain⟨s,hs,rfl⟩:=h
 rcases (show j=0∨j=1 by have:=(List.getElem?_eq_some_iff.1 hj).1;simp at this;omega) with rfl | rfl
 ·obtain rfl:(wr8 21,wr8 s)=z9:=by simpa using hj
  have b9:=wr8_bd s
  rw[wr8_id (x:=21) (by omega) (by omega)]
  rw[wr8_id (x:=s) (by omega) (by omega)]
  refine w_mk (n:=2) ?_
  omega
 ·obtain rfl:(wr8 8,wr8 0)=z9:=by simpa using hj
  have b9:=wr8_bd 0
  rw[wr8_id (x:=8) (by omega) (by omega)]
  refine w_mk (n:=2) ?_
  omega
theorem w_N {l:List (Int × Int)} (h:pkN l) {j:Nat} {z9:Int × Int} (hj:l[j]?=some z9):insW j l.length z9:=by
 obtain⟨x,a,hx,ha,rfl⟩:=h
 rcases (show j=0∨j=1∨j=2∨j=3 by have:=(List.getElem?_eq_some_iff.1 hj).1;simp at this;omega) with rfl | rfl | rfl | rfl
 ·obtain rfl:(wr8 (5+x),wr8 0)=z9:=by simpa using hj
  have b9:=wr8_bd 0
  rw[wr8_id (x:=(5+x)) (by omega) (by omega)]
  refine w_mk (n:=4) ?_
  omega
 ·obtain rfl:(wr8 17,wr8 1)=z9:=by simpa using hj
  have b9:=wr8_bd 1
  rw[wr8_id (x:=17) (by omega) (by omega)]
  rw[wr8_id (x:=1) (by omega) (by omega)]
  refine w_mk (n:=4) ?_
  omega
 ·obtain rfl:(wr8 7,wr8 a)=z9:=by simpa using hj
  have b9:=wr8_bd a
  rw[wr8_id (x:=7) (by omega) (by omega)]
  refine w_mk (n:=4) ?_
  omega
 ·obtain rfl:(wr8 8,wr8 0)=z9:=by simpa using hj
  have b9:=wr8_bd 0
  rw[wr8_id (x:=8) (by omega) (by omega)]
  refine w_mk (n:=4) ?_
  omega
theorem w_O {l:List (Int × Int)} (h:pkO l) {j:Nat} {z9:Int × Int} (hj:l[j]?=some z9):insW j l.length z9:=by
 obtain⟨k,hk,rfl⟩:=h
 rcases (show j=0∨j=1∨j=2∨j=3∨j=4 by have:=(List.getElem?_eq_some_iff.1 hj).1;simp at this;omega) with rfl | rfl | rfl | rfl | rfl
 ·obtain rfl:(wr8 0,wr8 0)=z9:=by simpa using hj
  have b9:=wr8_bd 0
  rw[wr8_id (x:=0) (by omega) (by omega)]
  refine w_mk (n:=5) ?_
  omega
 ·obtain rfl:(wr8 0,wr8 1)=z9:=by simpa using hj
  have b9:=wr8_bd 1
  rw[wr8_id (x:=0) (by omega) (by omega)]
  rw[wr8_id (x:=1) (by omega) (by omega)]
  refine w_mk (n:=5) ?_
  omega
 ·obtain rfl:(wr8 7,wr8 k)=z9:=by simpa using hj
  have b9:=wr8_bd k
  rw[wr8_id (x:=7) (by omega) (by omega)]
  refine w_mk (n:=5) ?_
  omega
 ·obtain rfl:(wr8 21,wr8 19)=z9:=by simpa using hj
  have b9:=wr8_bd 19
  rw[wr8_id (x:=21) (by omega) (by omega)]
  rw[wr8_id (x:=19) (by omega) (by omega)]
  refine w_mk (n:=5) ?_
  omega
 ·obtain rfl:(wr8 8,wr8 0)=z9:=by simpa using hj
  have b9:=wr8_bd 0
  rw[wr8_id (x:=8) (by omega) (by omega)]
  refine w_mk (n:=5) ?_
  omega
theorem w_P {l:List (Int × Int)} (h:pkP l) {j:Nat} {z9:Int × Int} (hj:l[j]?=some z9):insW j l.length z9:=by
 obtain⟨s,hs,rfl⟩:=h
 rcases (show j=0∨j=1∨j=2∨j=3 by have:=(List.getElem?_eq_some_iff.1 hj).1;simp at this;omega) with rfl | rfl | rfl | rfl
 ·obtain rfl:(wr8 0,wr8 0)=z9:=by simpa using hj
  have b9:=wr8_bd 0
  rw[wr8_id (x:=0) (by omega) (by omega)]
  refine w_mk (n:=4) ?_
  omega
 ·obtain rfl:(wr8 0,wr8 1)=z9:=by simpa using hj
  have b9:=wr8_bd 1
  rw[wr8_id (x:=0) (by omega) (by omega)]
  rw[wr8_id (x:=1) (by omega) (by omega)]
  refine w_mk (n:=4) ?_
  omega
 ·obtain rfl:(wr8 21,wr8 s)=z9:=by simpa using hj
  have b9:=wr8_bd s
  rw[wr8_id (x:=21) (by omega) (by omega)]
  rw[wr8_id (x:=s) (by omega) (by omega)]
  refine w_mk (n:=4) ?_
  omega
 ·obtain rfl:(wr8 8,wr8 0)=z9:=by simpa using hj
  have b9:=wr8_bd 0
  rw[wr8_id (x:=8) (by omega) (by omega)]
  refine w_mk (n:=4) ?_
  omega
theorem w_Q {l:List (Int × Int)} (h:pkQ l) {j:Nat} {z9:Int × Int} (hj:l[j]?=some z9):insW j l.length z9:=by
 obtain⟨x,y,hx,hy,rfl⟩:=h
 rcases (show j=0∨j=1∨j=2 by have:=(List.getElem?_eq_some_iff.1 hj).1;simp at this;omega) with rfl | rfl | rfl
 ·obtain rfl:(wr8 1,wr8 x)=z9:=by simpa using hj
  have b9:=wr8_bd x
  rw[wr8_id (x:=1) (by omega) (by omega)]
  rw[wr8_id (x:=x) (by omega) (by omega)]
  refine w_mk (n:=3) ?_
  omega
 ·obtain rfl:(wr8 11,wr8 y)=z9:=by simpa using hj
  have b9:=wr8_bd y
  rw[wr8_id (x:=11) (by omega) (by omega)]
  rw[wr8_id (x:=y) (by omega) (by omega)]
  refine w_mk (n:=3) ?_
  omega
 ·obtain rfl:(wr8 8,wr8 0)=z9:=by simpa using hj
  have b9:=wr8_bd 0
  rw[wr8_id (x:=8) (by omega) (by omega)]
  refine w_mk (n:=3) ?_
  omega
theorem w_R {l:List (Int × Int)} (h:pkR l) {j:Nat} {z9:Int × Int} (hj:l[j]?=some z9):insW j l.length z9:=by
 obtain⟨x,y,hx,hy,rfl⟩:=h
 rcases (show j=0∨j=1 by have:=(List.getElem?_eq_some_iff.1 hj).1;simp at this;omega) with rfl | rfl
 ·obtain rfl:(wr8 0,wr8 x)=z9:=by simpa using hj
  have b9:=wr8_bd x
  rw[wr8_id (x:=0) (by omega) (by omega)]
  rw[wr8_id (x:=x) (by omega) (by omega)]
  refine w_mk (n:=2) ?_
  omega
 ·obtain rfl:(wr8 11,wr8 y)=z9:=by simpa using hj
  have b9:=wr8_bd y
  rw[wr8_id (x:=11) (by omega) (by omega)]
  rw[wr8_id (x:=y) (by omega) (by omega)]
  refine w_mk (n:=2) ?_
  omega
theorem piece_w {l:List (Int × Int)} (h:pieceOk l) {j:Nat} {y:Int × Int} (hj:l[j]?=some y):insW j l.length y:=by
 rcases h with h | h | h | h | h | h | h | h | h | h | h | h | h | h | h | h | h | h
 ·exact w_A h hj
 ·exact w_B h hj
 ·exact w_C h hj
 ·exact w_D h hj
 ·exact w_E h hj
 ·exact w_F h hj
 ·exact w_G h hj
 ·exact w_H h hj
 ·exact w_I h hj
 ·exact w_J h hj
 ·exact w_K h hj
 ·exact w_L h hj
 ·exact w_M h hj
 ·exact w_N h hj
 ·exact w_O h hj
 ·exact w_P h hj
 ·exact w_Q h hj
 ·exact w_R h hj
theorem insW.in {j n o N:Nat} {y:Int × Int} (h:insW j n y) (hN:o+n < N):insW (o+j) N y∧(y.1=17→((o+j:Nat):Int)+1+y.2 < N):=by
 rcases h with h | h | h | h | h | h | ⟨h,h2⟩ | h | h
 ·exact⟨Or.inl h,fun e=>by clear hN;omega⟩
 ·exact⟨Or.inr (Or.inl h),fun e=>by clear hN;omega⟩
 ·exact⟨Or.inr (Or.inr (Or.inl h)),fun e=>by clear hN;omega⟩
 ·exact⟨Or.inr (Or.inr (Or.inr (Or.inl h))),fun e=>by clear hN;omega⟩
 ·exact⟨Or.inr (Or.inr (Or.inr (Or.inr (Or.inl h)))),fun e=>by clear hN;omega⟩
 ·exact⟨Or.inr (Or.inr (Or.inr (Or.inr (Or.inr (Or.inl h))))),fun e=>by clear hN;omega⟩
 ·exact⟨Or.inr (Or.inr (Or.inr (Or.inr (Or.inr (Or.inr (Or.inl ⟨h,by omega⟩)))))),fun e=>by omega⟩
 ·exact⟨Or.inr (Or.inr (Or.inr (Or.inr (Or.inr (Or.inr (Or.inr (Or.inl h))))))),fun e=>by clear hN;omega⟩
 ·exact⟨Or.inr (Or.inr (Or.inr (Or.inr (Or.inr (Or.inr (Or.inr (Or.inr h))))))),fun e=>by clear hN;omega⟩
theorem w_n {j n:Nat} {a b:Int} (h:(3≤a∧a≤9)∨a=14∨a=19):insW j n (a,b):=Or.inr (Or.inr (Or.inr (Or.inr (Or.inr (Or.inr (Or.inr (Or.inr h)))))))
theorem w_t {j n:Nat} {a b:Int} (h:a=0∨a=10) (h2:b < 2):insW j n (a,b):=Or.inl ⟨h,h2⟩
theorem w_s {j n:Nat} {a b:Int} (h:a=12∨a=13) (h2:4≤b) (h3:b < 10):insW j n (a,b):=Or.inr (Or.inr (Or.inr (Or.inl ⟨h,h2,h3⟩)))
def insG (N k:Nat) (y:Int × Int):Prop:=insW k N y∧(y.1=17→(k:Int)+1+y.2 < N)
theorem flatten_g:∀ (P:List (List (Int × Int))) (o N:Nat),(∀ x∈P,pieceOk x)→o+P.flatten.length < N→∀ k y,P.flatten[k]?=some y→insG N (o+k) y
 | [],_,_,_,_,k,y,hy=>by simp at hy
 | l :: P,o,N,hP,hN,k,y,hy=>by
  rw[List.flatten_cons] at hy hN
  rw[List.length_append] at hN
  by_cases hk:k < l.length
  ·rw[List.getElem?_append_left hk] at hy
   exact (piece_w (hP l (by simp)) hy).in (by omega)
  ·rw[List.getElem?_append_right (by omega)] at hy
   have:=flatten_g P (o+l.length) N (fun x hx=>hP x (by simp[hx])) (by omega) (k - l.length) y hy
   rw[show o+k=o+l.length+(k - l.length) by omega]
   exact this
theorem code_g {b:Bool} {I:List (Int × Int)} (h:codeOk b I):∀ k y,I[k]?=some y→insG I.length k y:=by
 obtain⟨P,S,q,r,l,hI,h1,h5,hP,hS,hq,hr,hl⟩:=h
 intro k y hy
 have hlen:I.length=P.flatten.length+S.length+2:=by rw[hI];simp;omega
 generalize I.length=N at *
 rw[hI,List.append_assoc] at hy
 clear hI
 by_cases hk:k < P.flatten.length
 ·rw[List.getElem?_append_left hk] at hy
  have:=flatten_g P 0 N hP (by omega) k y hy
  rwa [Nat.zero_add] at this
 rw[List.getElem?_append_right (by omega)] at hy
 generalize k - P.flatten.length=k2 at *
 clear hP h1 h5 hk
 by_cases hk2:k2 < S.length
 ·rw[List.getElem?_append_left hk2] at hy
  rcases hS with rfl | rfl
  ·simp at hk2
  ·simp only[List.length_cons,List.length_nil] at hk2
   rcases (show k2=0∨k2=1 by omega) with e | e
   ·rw[e] at hy
    obtain rfl:(wr8 3,wr8 0)=y:=by simpa using hy
    rw[wr8_id (x:=3) (by omega) (by omega)]
    exact⟨w_n (by omega),fun e=>by simp only at e;omega⟩
   ·rw[e] at hy
    obtain rfl:(wr8 13,wr8 4)=y:=by simpa using hy
    rw[wr8_id (x:=13) (by omega) (by omega),wr8_id (x:=4) (by omega) (by omega)]
    exact⟨w_s (by omega) (by omega) (by omega),fun e=>by simp only at e;omega⟩
 rw[List.getElem?_append_right (by omega)] at hy
 have hk3:=(List.getElem?_eq_some_iff.1 hy).1
 simp only[List.length_cons,List.length_nil] at hk3
 generalize k2 - S.length=k3 at *
 clear hS hk2 hlen
 rcases (show k3=0∨k3=1 by omega) with e | e
 ·rw[e] at hy
  obtain rfl:(wr8 q,wr8 r)=y:=by simpa using hy
  rw[wr8_id (x:=q) (by omega) (by omega),wr8_id (x:=r) (by omega) (by omega)]
  by_cases q0:q=0
  ·exact⟨w_t (by omega) (by omega),fun e=>by simp only at e;omega⟩
  ·exact⟨w_n (by omega),fun e=>by simp only at e;omega⟩
 ·rw[e] at hy
  obtain rfl:(wr8 l,wr8 0)=y:=by simpa using hy
  rw[wr8_id (x:=l) (by omega) (by omega),wr8_id (x:=0) (by omega) (by omega)]
  exact⟨w_n (by omega),fun e=>by simp only at e;omega⟩
theorem flat_at:∀ (I:List (Int × Int)) (k:Nat) (y:Int × Int),I[k]?=some y→byAt (flat I) (2*k)=y.1∧byAt (flat I) (2*k+1)=y.2
 | [],k,y,h=>by simp at h
 | x :: I,0,y,h=>by
  obtain rfl:x=y:=by simpa using h
  exact⟨rfl,rfl⟩
 | x :: I,k+1,y,h=>by
  have:=flat_at I k y (by simpa using h)
  rw[show 2*(k+1)=2*k+1+1 by omega,show 2*k+1+1+1=(2*k+1)+2 by omega]
  exact this
theorem lits_k {c:Int} {X:List (Int × Int)} (h:litsOk c X):X.length=14∧(∀ i:Nat,i < 4→(litAt X i).1=3)∧(∀ i:Nat,4≤i→i < 10→(litAt X i).1=5)∧(∀ i:Nat,10≤i→i < 12→(litAt X i).1=6∧1 < (litAt X i).2)∧(∀ i:Nat,12≤i→i < 14→(litAt X i).1=7):=by
 obtain⟨A,B,rfl,hA,hB,h1,h2⟩:=h
 have hS:(sels 6).length=6:=by decide
 match A,hA,B,hB with
 | [a,b,c,d],_,[e,f],_ =>
  refine⟨by simp[hS],fun i hi=>?_,fun i hi hj=>?_,fun i hi hj=>?_,fun i hi hj=>?_⟩
  ·rcases (show i=0∨i=1∨i=2∨i=3 by omega) with rfl | rfl | rfl | rfl
   ·exact (h1 a (by simp)).1
   ·exact (h1 b (by simp)).1
   ·exact (h1 c (by simp)).1
   ·exact (h1 d (by simp)).1
  ·rcases (show i=4∨i=5∨i=6∨i=7∨i=8∨i=9 by omega) with rfl | rfl | rfl | rfl | rfl | rfl <;> rfl
  ·rcases (show i=10∨i=11 by omega) with rfl | rfl
   ·obtain⟨p,q,_⟩:=h2 e (by simp)
    exact⟨p,by have:(litAt ([a,b,c,d]++sels 6++[e,f]++[(7,7),(7,8)]) ((10:Nat):Int))=e:=rfl;rw[this];omega⟩
   ·obtain⟨p,q,_⟩:=h2 f (by simp)
    exact⟨p,by have:(litAt ([a,b,c,d]++sels 6++[e,f]++[(7,7),(7,8)]) ((11:Nat):Int))=f:=rfl;rw[this];omega⟩
  ·rcases (show i=12∨i=13 by omega) with rfl | rfl <;> rfl
theorem has_at {X:List (Int × Int)} {i kind:Int} (h0:0≤i) (h1:i < (X.length:Int)) (h:(litAt X i).1=kind):hasLit X i kind=true:=by
 unfold hasLit
 rw[decide_eq_true h1,decide_eq_true h];rfl
theorem ins_ok {c:Int} {m:MethA} (hl:litsOk c m.lits) (ht:m.temps=2) (ha:0≤m.args) {k N:Nat} (hN:m.code.length=2*N) {y:Int × Int} (hy:0≤y.2) (h:insG N k y):insR m ((2*k:Nat):Int) y.1 y.2=true:=by
 obtain⟨n14,l3,l5,l6,l7⟩:=lits_k hl
 obtain⟨h,hj⟩:=h
 obtain⟨op,arg⟩:=y
 unfold insW at h
 simp only at h hj hy ⊢
 obtain⟨i,rfl⟩:∃ i:Nat,arg=i:=⟨arg.toNat,by omega⟩
 have hh3:i < 4→hasLit m.lits (i:Int) 3=true:=fun g=>has_at (by omega) (by omega) (l3 i g)
 have hh5:4≤i→i < 10→hasLit m.lits (i:Int) 5=true:=fun g g2=>has_at (by omega) (by omega) (l5 i g g2)
 have hh6:10≤i→i < 12→hasLit m.lits (i:Int) 6=true∧1 < (litAt m.lits (i:Int)).2:=fun g g2=>⟨has_at (by omega) (by omega) (l6 i g g2).1,(l6 i g g2).2⟩
 have hh7:12≤i→i < 14→hasLit m.lits (i:Int) 7=true:=fun g g2=>has_at (by omega) (by omega) (l7 i g g2)
 unfold insR
 by_cases e0:op=0∨op=10
 ·rw[if_pos e0];exact decide_eq_true (by omega)
 rw[if_neg e0]
 by_cases e1:op=1∨op=11
 ·rw[if_pos e1];exact decide_eq_true (by omega)
 rw[if_neg e1]
 by_cases e2:op=2
 ·rw[if_pos e2];exact hh3 (by omega)
 rw[if_neg e2]
 by_cases e3:op=12∨op=13
 ·rw[if_pos e3];exact hh5 (by omega) (by omega)
 rw[if_neg e3]
 by_cases e4:op=20
 ·rw[if_pos e4,(hh6 (by omega) (by omega)).1];exact decide_eq_true (hh6 (by omega) (by omega)).2
 rw[if_neg e4]
 by_cases e5:op=18
 ·rw[if_pos e5];exact hh7 (by omega) (by omega)
 rw[if_neg e5]
 by_cases e6:op=15∨op=17
 ·rw[if_pos e6,hN];exact decide_eq_true (by have:=hj (by omega);omega)
 rw[if_neg e6]
 by_cases e7:op=16
 ·omega
 rw[if_neg e7]
 by_cases e8:op=21
 ·rw[if_pos e8];exact decide_eq_true (by omega)
 rw[if_neg e8]
 exact decide_eq_true (by omega)
theorem insF_ok {m:MethA} {N:Nat}:∀ (f k:Nat),f+k=N→(∀ j,k≤j→j < N→insR m ((2*j:Nat):Int) (byAt m.code (2*j)) (byAt m.code (2*j+1))=true)→insF m f (2*k)=true
 | 0,k,_,_=>rfl
 | f+1,k,e,h=>by
  rw[insF,h k (Nat.le_refl _) (by omega),Bool.true_and,show 2*k+2=2*(k+1) by omega]
  exact insF_ok f (k+1) (by omega) (fun j hj hj2=>h j (by omega) hj2)
theorem meth_ok {c:Int} {j:Nat} {m:MethA} (h:methOk c j m) (hj:j < 9) {nn nc nm:Nat} (hn:nn=6) (hc:c=(nc:Int)) (hm:nm=9):metR m nn nc nm=0:=by
 obtain⟨I,hI,eI⟩:=h.code
 have hfl:m.code.length=2*I.length:=by rw[eI,flat_len]
 obtain⟨n14,l3,l5,l6,l7⟩:=lits_k h.lits
 have ht:=h.temps
 have ha:0≤m.args∧m.args≤2:=by
  rw[h.args]
  split
  ·exact argOf_le j
  ·split <;> omega
 have hex:=hI
 obtain⟨P,S,q,r,l,eP,h1,h5,hP,hS,hq,hr,hl⟩:=hex
 have hPl:=flatten_len P hP
 have hSl:S.length≤2:=by rcases hS with rfl | rfl <;> simp
 have hIl:I.length=P.flatten.length+S.length+2:=by rw[eP];simp;omega
 have hlast:I[I.length - 1]?=some (wr8 l,wr8 0):=by
  rw[show I.length - 1=P.flatten.length+S.length+1 by omega,eP,List.getElem?_append_right (by rw[List.length_append];omega),List.length_append,show P.flatten.length+S.length+1 - (P.flatten.length+S.length)=1 by omega]
  rfl
 have hby:=flat_at I _ _ hlast
 rw[← eI,show 2*(I.length - 1)=m.code.length - 2 by omega,show wr8 l=l from wr8_id (by omega) (by omega)] at hby
 unfold metR
 rw[if_neg (by omega),if_neg (by omega),if_neg (by rw[hby.1];omega)]
 have hall:m.lits.all (fun x=>litR x nn nc nm)=true:=by
  rw[List.all_eq_true]
  intro x hx
  obtain⟨A,B,e,hA,hB,g1,g2⟩:=h.lits
  rw[e] at hx
  simp only[List.mem_append] at hx
  rcases hx with ((hx | hx) | hx) | hx
  ·obtain⟨p,p2⟩:=g1 x hx
   obtain⟨a,b⟩:=x
   simp only at p p2
   subst p
   show num30 b=true
   unfold num30
   rcases p2 with rfl | rfl | rfl | rfl | rfl <;> decide
  ·unfold sels at hx
   obtain⟨i,hi,rfl⟩:=List.mem_map.1 hx
   have:=List.mem_range.1 hi
   refine (lit_sel _ _ _ _).trans ?_
   unfold inN
   rw[decide_eq_true (by omega),decide_eq_true (by omega)];rfl
  ·obtain⟨p,p2,p3⟩:=g2 x hx
   obtain⟨a,b⟩:=x
   simp only at p p2 p3
   subst p
   refine (lit_cls _ _ _ _).trans ?_
   unfold inN
   rw[decide_eq_true (by omega),decide_eq_true (by omega)];rfl
  ·simp only[List.mem_cons,List.not_mem_nil,or_false] at hx
   subst hm
   rcases hx with rfl | rfl <;> rfl
 rw[hall,if_neg (by decide)]
 have hins:insF m (m.code.length / 2) 0=true:=by
  rw[show m.code.length / 2=I.length by omega]
  refine insF_ok (N:=I.length) I.length 0 (by omega) (fun k _ hk=>?_)
  obtain⟨y,hy⟩:∃ y,I[k]?=some y:=⟨I[k],by simp⟩
  obtain⟨e1,e2⟩:=flat_at I k y hy
  rw[← eI] at e1 e2
  rw[e1,e2]
  exact ins_ok h.lits ht ha.1 hfl ((codeOk_by hI y (List.mem_of_getElem? hy)).2.1) (code_g hI k y hy)
 rw[hins,if_neg (by decide)]
theorem first_skip:∀ (A B:List Int),(∀ x∈A,x=0)→firstE (A++B)=firstE B
 | [],B,_=>rfl
 | x :: A,B,h=>by
  rw[List.cons_append,firstE,if_pos (h x (by simp))]
  exact first_skip A B (fun y hy=>h y (by simp[hy]))
theorem first_one (x:Int):firstE [x]=x:=by
 unfold firstE
 split
 ·next e=>rw[e];rfl
 ·rfl
def ups:Nat→Nat→List (List Nat)
 | 0,_=>[[]]
 | f+1,k=>ups f (k+1)++(ups f (k+1)).map (k :: ·)
theorem ups_mem:∀ (f k:Nat) (S:List Nat),S.Pairwise (· < ·)→(∀ s∈S,k≤s∧s < k+f)→S∈ups f k
 | 0,k,[],_,_=>by simp[ups]
 | 0,k,s :: S,_,h=>by have:=h s (by simp);omega
 | f+1,k,[],_,_=>by
  unfold ups
  exact List.mem_append_left _ (ups_mem f (k+1) [] List.Pairwise.nil (by simp))
 | f+1,k,s :: S,hp,h=>by
  unfold ups
  have hs:=h s (by simp)
  have hS:=List.pairwise_cons.1 hp
  by_cases e:s=k
  ·subst e
   exact List.mem_append_right _ (List.mem_map_of_mem (ups_mem f (s+1) S hS.2 (fun x hx=>by have:=hS.1 x hx;have:=h x (by simp[hx]);omega)))
  ·refine List.mem_append_left _ (ups_mem f (k+1) (s :: S) hp (fun x hx=>?_))
   have h2:=h x hx
   rcases List.mem_cons.1 hx with e1 | e1
   ·subst e1;omega
   ·have:=hS.1 x e1;omega
theorem ups_fit:∀ S∈ups 6 0,eBinds (S.map (fun (s:Nat)=>((s:Int),(s:Int))))=0:=by decide +kernel
theorem bnd_fit {B:List (Int × Int)} (h:bndSub 6 B):eBinds B=0:=by
 obtain⟨S,h1,h2,rfl⟩:=h
 exact ups_fit S (ups_mem 6 0 S h1 (fun s hs=>by have:=h2 s hs;omega))
theorem name_args:∀ s:Nat,s < 6→argsR (nmAt nameL (s:Int))=argOf s:=by decide +kernel
theorem name_ok:namesB nameL=true:=by decide +kernel
theorem eArgs_zero {U:UnitA}:∀ (C:List ClassA),(∀ c∈C,∀ b∈c.binds,eArg U b=0)→∀ x∈eArgs U C,x=0
 | [],_,x,hx=>by simp[eArgs] at hx
 | c :: C,h,x,hx=>by
  unfold eArgs at hx
  rcases List.mem_append.1 hx with hx | hx
  ·obtain⟨b,hb,rfl⟩:=List.mem_map.1 hx
   exact h c (by simp) b hb
  ·exact eArgs_zero C (fun c hc=>h c (by simp[hc])) x hx
structure TapeM (T U:UnitA):Prop where
 ta:TapeU T
 n:U.names=T.names
 c:U.classes=T.classes
 m:U.methods=T.methods
 o1:1≤U.objects.length
 o2:U.objects.length≤40
 ob:∀ x∈U.objects,objB x U.classes U.objects.length=true
theorem TapeM.unit {T U:UnitA} (h:TapeM T U):unitR U=mainE U:=by
 have hn:U.names=nameL:=h.n.trans h.ta.names
 have hml:U.methods.length=9:=by rw[h.m];exact h.ta.ml
 have hlong:longB U=false:=by
  unfold longB
  rw[hn,hml]
  rw[decide_eq_false (show ¬ 48 < nameL.length by decide),decide_eq_false (show ¬ 9 < 1 by decide),decide_eq_false (show ¬ 32 < 9 by decide),decide_eq_false (show ¬ U.objects.length < 1 by have:=h.o1;omega),decide_eq_false (show ¬ 40 < U.objects.length by have:=h.o2;omega)]
  rfl
 have hsh:shapeR U.classes U.names.length U.methods.length=0:=by
  rw[hn,hml,h.c]
  exact tape_right h.ta.tl (by have:=h.ta.cl0;omega)
 unfold unitR
 rw[firstE,if_pos (by rw[hlong];rfl),firstE,if_pos (by rw[hn,name_ok];rfl),firstE,if_pos hsh]
 unfold restC
 rw[List.drop_zero,first_skip _ _ (fun x hx=>?_)]
 ·unfold restM
  rw[List.drop_zero,first_skip _ _ (fun x hx=>?_)]
  ·unfold restA
   rw[List.drop_zero,first_skip _ _ (eArgs_zero _ (fun c hc b hb=>?_))]
   ·unfold restO
    rw[List.drop_zero,first_skip _ _ (fun x hx=>?_),first_one]
    obtain⟨y,hy,rfl⟩:=List.mem_map.1 hx
    rw[if_pos (h.ob y hy)]
   ·rw[h.c] at hc
    obtain⟨k,hk⟩:=List.getElem?_of_mem hc
    obtain⟨_,_,S,_,h2,e⟩:=h.ta.cls k c hk
    rw[e] at hb
    obtain⟨s,hs,rfl⟩:=List.mem_map.1 hb
    have hs6:=h2 s hs
    unfold eArg
    rw[if_pos]
    simp only
    rw[hn,name_args s hs6]
    obtain⟨x,hx⟩:∃ x,T.methods[s]?=some x:=⟨T.methods[s]'(by rw[h.ta.ml];omega),by simp⟩
    unfold agAt
    rw[h.m,Int.toNat_natCast,hx]
    simp only
    rw[(h.ta.mts s x hx).args,if_pos hs6]
  ·obtain⟨y,hy,rfl⟩:=List.mem_map.1 hx
   rw[h.m] at hy
   obtain⟨k,hk⟩:=List.getElem?_of_mem hy
   have hk9:=(List.getElem?_eq_some_iff.1 hk).1
   rw[h.ta.ml] at hk9
   exact meth_ok (h.ta.mts k y hk) hk9 (by rw[hn];decide) (by rw[h.c]) hml
 ·obtain⟨y,hy,rfl⟩:=List.mem_map.1 hx
  rw[h.c] at hy
  obtain⟨k,hk⟩:=List.getElem?_of_mem hy
  exact bnd_fit (h.ta.cls k y hk).2.2
theorem val_ok {N:Nat} {v:Int × Int} (h:valOk N v):fldOk v N=true:=by
 obtain⟨a,b⟩:=v
 rcases h with h | h | h | ⟨h,h1,h2⟩ | ⟨h,h1,h2⟩
 ·cases h;rfl
 ·cases h;rfl
 ·cases h;rfl
 ·simp only at h h1 h2
  subst h
  rw[fld_3];unfold num30
  rw[decide_eq_true (by omega),decide_eq_true (by omega)];rfl
 ·simp only at h h1 h2
  subst h
  rw[fld_4];unfold inN
  rw[decide_eq_true (by omega),decide_eq_true (by omega)];rfl
theorem obj_len {T:UnitA} (h:TapeU T) {k:Nat} {x:ObjA} (hx:T.objects[k]?=some x):x.flds.length≤8∧1≤x.cls∧x.cls < (T.classes.length:Int)∧(1 < x.cls→(x.flds.length:Int)=clsF T.classes x.cls):=by
 have hc0:=h.cl0
 have hc1:=h.cl1
 rcases (h.obs k x hx).cls with ⟨h2,d,hd,e⟩ | ⟨_,e,h8⟩
 ·obtain⟨j,hj⟩:∃ j:Nat,x.cls=j:=⟨x.cls.toNat,by omega⟩
  rw[hj,Int.toNat_natCast] at hd
  have hjl:=(List.getElem?_eq_some_iff.1 hd).1
  have hf:=((h.cls j d hd).1.fld (by omega))
  refine⟨by omega,by omega,by omega,fun _=>?_⟩
  rw[hj,clsF_at hd]
  exact e
 ·exact⟨h8,by omega,by omega,fun g=>by omega⟩
theorem obj_ok {T:UnitA} (h:TapeU T) {x:ObjA} (hx:x∈T.objects):objB x T.classes T.objects.length=true:=by
 obtain⟨k,hk⟩:=List.getElem?_of_mem hx
 obtain⟨h8,g1,g2,g3⟩:=obj_len h hk
 rw[objB_yes (head_ok (by omega) (fun g=>g.2 (g3 g.1)) (by omega)),List.all_eq_true]
 exact fun v hv=>val_ok ((h.obs k x hk).flds v hv)
theorem TapeU.m {T:UnitA} (h:TapeU T):TapeM T T:=⟨h,rfl,rfl,rfl,h.ob0,by have:=h.ob1;omega,fun x hx=>obj_ok h hx⟩
theorem TapeU.setm {T:UnitA} (h:TapeU T) (k:Int):TapeM T { T with main:=k }:=⟨h,rfl,rfl,rfl,h.ob0,by have:=h.ob1;simp only;omega,fun x hx=>obj_ok h hx⟩
theorem main_six {T U:UnitA} (h:TapeU T) (hm:U.methods=T.methods) (h6:U.main=6):mainE U=0:=by
 obtain⟨x,hx⟩:∃ x,T.methods[6]?=some x:=⟨T.methods[6]'(by rw[h.ml];omega),by simp⟩
 unfold mainE
 rw[if_pos]
 rw[hm,h6,h.ml]
 refine⟨by decide,by decide,?_⟩
 unfold agAt
 rw[show (6:Int).toNat=6 from rfl,hx]
 simp only
 rw[(h.mts 6 x hx).args];rfl
theorem TapeU.right {T:UnitA} (h:TapeU T):unitR T=0:=h.m.unit.trans (main_six h rfl h.main)
theorem meth_size {c:Int} {j:Nat} {x:MethA} (h:methOk c j x):x.code.length≤300∧x.lits.length≤20:=by
 refine⟨?_,?_⟩
 ·obtain⟨I,⟨⟨P,S,q,r,l,hI,h1,h5,hP,hS,_⟩⟩,e⟩:=h.code
  have hfl:=flatten_len P hP
  rw[e,flat_len,hI]
  have hSl:S.length≤2:=by
   rcases hS with rfl | rfl <;> simp
  simp only[List.length_append,List.length_cons,List.length_nil]
  omega
 ·have:=(lits_k h.lits).1
  omega
theorem TapeU.zb {T:UnitA} (h:TapeU T):Zb 300 T:=by
 have hc0:=h.cl0
 have hc1:=h.cl1
 have ho0:=h.ob0
 have ho1:=h.ob1
 have hm:=h.ml
 refine⟨by rw[h.names];decide,by omega,by omega,by omega,by omega,by omega,by omega,fun x hx=>?_,fun x hx=>?_,fun x hx=>?_,by rw[h.names];decide,fun x hx=>?_⟩
 ·obtain⟨k,hk⟩:=List.getElem?_of_mem hx
  have:=(h.cls k x hk).2.2.len
  omega
 ·obtain⟨k,hk⟩:=List.getElem?_of_mem hx
  have:=meth_size (h.mts k x hk)
  omega
 ·obtain⟨k,hk⟩:=List.getElem?_of_mem hx
  have:=(obj_len h hk).1
  omega
 ·obtain⟨k,hk⟩:=List.getElem?_of_mem hx
  have hk5:k < 5:=by have:=(List.getElem?_eq_some_iff.1 hk).1;omega
  have hc:=(h.cls k x hk).1
  rcases (show k=0∨k=1∨2≤k by omega) with rfl | rfl | h2
  ·rw[(hc.z rfl).1];decide
  ·rw[(hc.o rfl).1];decide
  ·rw[hc.nm h2]
   rcases (show k=2∨k=3∨k=4 by omega) with rfl | rfl | rfl <;> decide
structure UQ (w:World) (q:Nat) (x0 x1 x2 x3 x4:Value) (U:UnitA):Prop where
 c0:w.cell? ⟨q,0,none⟩=some x0
 c1:w.cell? ⟨q,1,none⟩=some x1
 c2:w.cell? ⟨q,2,none⟩=some x2
 c3:w.cell? ⟨q,3,none⟩=some x3
 c4:w.cell? ⟨q,4,none⟩=some x4
 un:UnK w (.agg #[x0,x1,x2,x3,x4]) U
theorem UQ.up {w w1:World} {q:Nat} {x0 x1 x2 x3 x4:Value} {U:UnitA} (h:UQ w q x0 x1 x2 x3 x4 U) (b:Below w.heap.size w w1):UQ w1 q x0 x1 x2 x3 x4 U :=
 ⟨cell_up b h.c0,cell_up b h.c1,cell_up b h.c2,cell_up b h.c3,cell_up b h.c4,h.un.up b⟩
theorem UQ.born {w:World} {x0 x1 x2 x3 x4:Value} {U:UnitA} (h:UnK w (.agg #[x0,x1,x2,x3,x4]) U):UQ (w.alloc (.cells #[x0,x1,x2,x3,x4] 27)) w.heap.size x0 x1 x2 x3 x4 U:=by
 have e:=heap_alloc_new w (.cells #[x0,x1,x2,x3,x4] 27)
 exact⟨cells_at e rfl,cells_at e rfl,cells_at e rfl,cells_at e rfl,cells_at e rfl,h.up ((Below.refl w.heap.size w).alloc (Nat.le_refl _) _)⟩
theorem UQ.five {w:World} {q:Nat} {x0 x1 x2 x3 x4:Value} {U:UnitA} (h:UQ w q x0 x1 x2 x3 x4 U):w.cell? ⟨q,0,none⟩=some x0∧w.cell? ⟨q,1,none⟩=some x1∧w.cell? ⟨q,2,none⟩=some x2∧w.cell? ⟨q,3,none⟩=some x3∧w.cell? ⟨q,4,none⟩=some x4:=⟨h.c0,h.c1,h.c2,h.c3,h.c4⟩
end Wd
end Go.Proofs.YtgfnelhbdhbklaaGreat
namespace Go.Proofs.YtgfnelhbdhbklaaGreat
open Go.ChangeShapes Go.WideShapes Go.ChangeAt Go.RowKit
set_option linter.unusedVariables false
set_option maxRecDepth 100000
namespace Wd
variable {H:Type} {enc:TypeId × Value→H} {W:World}
end Wd
end Go.Proofs.YtgfnelhbdhbklaaGreat
namespace Go.Proofs.YtgfnelhbdhbklaaGreat
set_option linter.unusedVariables false
namespace Wd
section
variable {P:Program} {ops:Array Oper} {Q:Exit→Act→World→Prop} {md:Region.Mode} {S:World→Prop} {d:Nat}
def wpAnyD (P:Program) (md:Region.Mode) (ops:Array Oper) (Q:Exit→Act→World→Prop) (S:World→Prop) (d:Nat):Nat→Array Bool→Act→World→Prop
 | 0,listed,a,w=>Region.ready md ops listed=[]∧Q .normal a w
 | fuel+1,listed,a,w =>
  (Region.ready md ops listed=[]→Q .normal a w) ∧
  ∀ i∈Region.ready md ops listed,wpOp P ops Q i (fun a' w'=>((listed.setIfInBounds i true).getD d true=false→S w')∧wpAnyD P md ops Q S d fuel (listed.setIfInBounds i true) a' w') a w
def waits (md:Region.Mode) (ops:Array Oper) (d i:Nat):Bool:=((ops[d]?).map (fun o=>o.after.any fun e=>Region.binds md e && (e.on == i))).getD false && !(i == d)
def AllReadyD (P:Program) (md:Region.Mode) (ops:Array Oper) (Q:Exit→Act→World→Prop) (S:World→Prop) (d fuel:Nat) (listed:Array Bool) (a:Act) (w:World) (rs:List Nat):Prop :=
 ∀ i∈rs,wpOp P ops Q i (fun a' w'=>((listed.setIfInBounds i true).getD d true=false→S w')∧wpAnyD P md ops Q S d fuel (listed.setIfInBounds i true) a' w') a w
theorem AllReadyD.nil {fuel:Nat} {listed:Array Bool} {a:Act} {w:World}:AllReadyD P md ops Q S d fuel listed a w []:=fun _ h=>by cases h
theorem AllReadyD.cons {fuel:Nat} {listed:Array Bool} {a:Act} {w:World} {i:Nat} {o:Oper} {rs:List Nat} (ho:ops[i]?=some o)
  (h:∀ K':Act→World→Prop,Shut (∀ a w,((listed.setIfInBounds i true).getD d true=false→S w)→wpAnyD P md ops Q S d fuel (listed.setIfInBounds i true) a w→K' a w)→if Region.wanted o (yielded ops a.tmps)=true then Oper.wp P o a w K' Q else K' (a.put o.dst undef) w)
  (hs:AllReadyD P md ops Q S d fuel listed a w rs):AllReadyD P md ops Q S d fuel listed a w (i :: rs):=fun j hj=>by
 rcases List.mem_cons.1 hj with rfl | hj
 ·exact wpOp_step ho (fun K' hK=>h K' (fun a w hS hW=>hK a w ⟨hS,hW⟩))
 ·exact hs j hj
end
end Wd
end Go.Proofs.YtgfnelhbdhbklaaGreat
namespace Go.Proofs.YtgfnelhbdhbklaaGreat
open Go.RowKit
set_option linter.unusedVariables false
set_option maxRecDepth 20000
namespace Wd
theorem take_get {α:Type} {L:List α} {n k:Nat} {x:α} (h:(L.take n)[k]?=some x):L[k]?=some x:=by
 rw[List.getElem?_take] at h
 split at h
 ·exact h
 ·cases h
section
variable {w:World} {ad:Option Addr} {m cap:Nat}
theorem NmV.cut {L:List ByteArray} (h:NmV w (.slice ad m cap) L) (n:Nat):NmV w (.slice ad (L.take n).length cap) (L.take n):=by
 obtain⟨ad',cap',e,h1,h2,h3⟩:=h.ex
 cases e
 exact⟨ad,cap,rfl,by rw[List.length_take];omega,h2,fun k x hx=>h3 k x (take_get hx)⟩
theorem ClV.cut {L:List ClassA} (h:ClV w (.slice ad m cap) L) (n:Nat):ClV w (.slice ad (L.take n).length cap) (L.take n):=by
 obtain⟨ad',cap',e,h1,h2,h3⟩:=h.ex
 cases e
 exact⟨ad,cap,rfl,by rw[List.length_take];omega,h2,fun k x hx=>h3 k x (take_get hx)⟩
theorem MtV.cut {L:List MethA} (h:MtV w (.slice ad m cap) L) (n:Nat):MtV w (.slice ad (L.take n).length cap) (L.take n):=by
 obtain⟨ad',cap',e,h1,h2,h3⟩:=h.ex
 cases e
 exact⟨ad,cap,rfl,by rw[List.length_take];omega,h2,fun k x hx=>h3 k x (take_get hx)⟩
theorem ObV.cut {L:List ObjA} (h:ObV w (.slice ad m cap) L) (n:Nat):ObV w (.slice ad (L.take n).length cap) (L.take n):=by
 obtain⟨ad',cap',e,h1,h2,h3⟩:=h.ex
 cases e
 exact⟨ad,cap,rfl,by rw[List.length_take];omega,h2,fun k x hx=>h3 k x (take_get hx)⟩
end
end Wd
end Go.Proofs.YtgfnelhbdhbklaaGreat
namespace Go.Proofs.YtgfnelhbdhbklaaGreat
open Go.ChangeShapes Go.WideShapes Go.ChangeAt Go.RowKit
set_option linter.unusedVariables false
set_option maxRecDepth 20000
namespace Wd
theorem xor_u8 (a b:Int):0≤bits .xor .u8 a b∧bits .xor .u8 a b≤255:=wr8_bd _
theorem byv_set {w:World} {g n cap:Nat} {L:List Int} (h:ByV w (.slice (some ⟨g,0,none⟩) n cap) L) {k:Nat} (hk:k < L.length) {z:Int} (hz:0≤z∧z≤255):ByV (w.setCell ⟨g,k,none⟩ (.int .u8 z)) (.slice (some ⟨g,0,none⟩) n cap) (L.set k z):=by
 obtain⟨ad,cap',e,h1,h2,h3⟩:=h
 cases e
 refine⟨_,_,by rw[List.length_set],by rw[List.length_set];exact h1,h2,fun j x hx=>?_⟩
 rw[List.getElem?_set] at hx
 by_cases e:k=j
 ·subst e
  rw[if_pos rfl,if_pos hk] at hx
  obtain rfl:=Option.some.inj hx
  obtain⟨y,hy⟩:∃ y,L[k]?=some y:=⟨L[k],by simp⟩
  obtain⟨_,g',o',e',c⟩:=h3 k y hy
  cases e'
  refine⟨hz,g,0,rfl,?_⟩
  rw[Nat.zero_add] at c ⊢
  exact World.cell?_setCell_same _ _ _ c
 ·rw[if_neg e] at hx
  obtain⟨b,g',o',e',c⟩:=h3 j x hx
  cases e'
  refine⟨b,g,0,rfl,?_⟩
  rw[Nat.zero_add] at c ⊢
  exact (World.cell?_setCell_other _ _ _ _ (fun q=>e (by cases q;rfl))).trans c
theorem slF_own {w:World} {base n:Nat} {e:TypeId} {v:Value} {xs:List Value} (h:w.ownsRow base e 1 v n xs):SlF v:=by
 rcases h.2 with ⟨rfl,h0⟩ | ⟨g,cap,cur,rfl,_⟩
 ·exact Or.inl ⟨_,rfl⟩
 ·exact Or.inr ⟨_,_,_,_,rfl⟩
theorem run_app_full {w:World} {g off n:Nat} {bv:Value} {A B:List Int} (hA:ByV w (.slice (some ⟨g,off,none⟩) n n) A) (hB:ByV w bv B) (h63:A.length+B.length≤140737488355328) :
  ∃ v' w',(Builtin.append_ #[36,36] 36 #[.slice (some ⟨g,off,none⟩) n n,bv]).run Tryz.prog w=.ok v' w'∧ByV w' v' (A++B)∧SlF v'∧Below w.heap.size w w':=by
 obtain⟨i0,hi0,hz0,hz1,hz2⟩:=info_parts infoB8
 have hn:n=A.length:=by obtain⟨_,_,e,_⟩:=hA;cases e;rfl
 have hmx:140737488355328≤maxLen:=by decide
 have hba:=bys_ln A
 have hbb:=bys_ln B
 rcases hB.rd with ⟨c,rfl,hm,hn0⟩ | ⟨ad,c,rfl,hc⟩
 ·have:B=[]:=List.length_eq_zero_iff.1 hm
  subst this
  exact⟨.slice (some ⟨g,off,none⟩) n n,w,by simp[Builtin.append_,run_underlying Tryz.underlying36,sizeOf,typeInfo,hi0,Builtin.lenOf,Builtin.firstCells,storeCells],by rw[List.append_nil];exact hA,Or.inr ⟨_,_,_,_,rfl⟩,Below.refl _ _⟩
 ·by_cases hB0:B.length=0
  ·have:B=[]:=List.length_eq_zero_iff.1 hB0
   subst this
   have hr:=run_append_room_cells (P:=Tryz.prog) w 36 36 5 i0 Tryz.underlying36 hi0 g off n n ad 0 c [] (by simp) (fun j u h=>by simp at h) (fun u h=>by cases h) (by omega) (fun j h=>by simp at h) (fun j h=>by simp at h)
   refine⟨_,_,hr,?_,Or.inr ⟨_,_,_,_,rfl⟩,?_⟩
   ·rw[List.append_nil];exact hA
   ·exact Below.refl _ _
  ·obtain⟨v',w',hr,hown,hg⟩:=run_append_arg_grows (P:=Tryz.prog) w 36 36 5 i0 (.int .u8 0) 1 1 Tryz.underlying36 hi0 hz0 hz1 hz2 rfl (by decide) ⟨g,off,none⟩ n n (bys A) (by omega) hA.news ad B.length c (bys B) (by omega) hc (by omega) (by omega) (by omega)
   rw[← bys_cat] at hown
   refine⟨v',w',hr,ByV.own (e:=5) (base:=w.heap.size) (by rw[List.length_append,← hn];exact hown) (fun x hx=>?_),slF_own hown,⟨hg.os,hg.tape,hg.output,hg.size,fun k hk=>hg.block k hk (by simp)⟩⟩
   rcases List.mem_append.1 hx with h | h
   ·exact hA.bd x h
   ·exact hB.bd x h
theorem wpList_app_own {w:World} {ops:Array Oper} {rest:List Oper} {o:Oper} {a:Act} {Q:Exit→Act→World→Prop} (hw:Region.wanted o (yielded ops a.tmps)=true) (s x:Operand) (hty:o.type=36)
  (ho:o.op=.call { callee:=.builtin .append,args:=#[s,x],argTypes:=#[36,36] })
  (base:Nat) (sv bv:Value) (A B:List Int) (hs:a.eval s=sv) (hx:a.eval x=bv) (hA:w.ownsRow base 5 1 sv A.length (bys A)) (hA8:Bd8 A) (hB:ByV w bv B) (h63:A.length+B.length≤140737488355328) (hbase:base≤w.heap.size)
  (h:∀ v' w',w'.ownsRow base 5 1 v' (A++B).length (bys (A++B))→ByV w' v' (A++B)→SlF v'→w.grownBy w' sv.ownBlock→wpList Tryz.prog ops Q rest (a.put o.dst v') w'):wpList Tryz.prog ops Q (o :: rest) a w:=by
 obtain⟨i0,hi0,hz0,hz1,hz2⟩:=info_parts infoB8
 have hmx:140737488355328≤maxLen:=by decide
 refine BigFrame.wpList_want hw fun K hK=>?_
 obtain⟨v',w',hr,h2,h3,h5⟩:=run_app_any (P:=Tryz.prog) w base 36 36 5 i0 (.int .u8 0) 1 1 Tryz.underlying36 hi0 hz0 hz1 hz2 rfl (by decide) sv bv A.length B.length (bys A) (bys B) hA hB.rd (by rw[bys_ln,Nat.mul_one]) (bys_one _) (by omega) (by omega) hbase
 rw[← bys_cat,← List.length_append] at h2
 unfold Oper.wp execOp
 simp only[ho,hty,resolve,invoke,builtin,Sem.run_bind,Sem.run_pure,Result.andThen_ok,List.map_toArray,List.map_cons,List.map_nil,hs,hx,hr]
 exact hK _ _ (h v' w' h2 (ByV.own h2 (fun x hx=>by
  rcases List.mem_append.1 hx with h | h
  ·exact hA8 x h
  ·exact hB.bd x h)) (slF_own h2) h3)
section
variable {H:Type} {enc:TypeId × Value→H} {W:World}
end
end Wd
end Go.Proofs.YtgfnelhbdhbklaaGreat
namespace Go.Proofs.YtgfnelhbdhbklaaGreat
open Go.RowKit
set_option linter.unusedVariables false
set_option maxRecDepth 20000
namespace Wd
theorem tape_le {U:UnitA} (hT:TapeU U):(bytesU U).length≤4096:=by
 have h:=right_u hT.right
 have a1:(rowB txt U.names).length≤4+6*20:=rowB_le (by rw[hT.names];decide) (fun s hs=>by unfold txt;rw[List.length_append,b4_len,tby_len];have:=h.ns s hs;omega)
 have a2:(rowB clB U.classes).length≤4+5*160:=rowB_le hT.cl1 (fun c hc=>by
  obtain⟨q1,_,_,_,_,q2,_⟩:=h.cs c hc
  have e:=rowP_le q2
  unfold clB txt
  simp only[List.length_append,b4_len,tby_len]
  omega)
 have a3:(rowB mtB U.methods).length≤4+9*272:=rowB_le (by rw[hT.ml];exact Nat.le_refl _) (fun c hc=>by
  obtain⟨_,_,_,_,q1,_,q2⟩:=h.ms c hc
  have e:=rowP_le q1
  unfold mtB
  simp only[List.length_append,b4_len]
  omega)
 have a4:(rowB obB U.objects).length≤4+5*72:=rowB_le hT.ob1 (fun c hc=>by
  obtain⟨k,hk⟩:=List.getElem?_of_mem hc
  have e:=rowP_le (obj_len hT hk).1
  unfold obB
  simp only[List.length_append,b4_len]
  omega)
 unfold bytesU bodyU
 simp only[List.length_append,b4_len]
 simp
 omega
theorem byv_cap {w:World} {ad:Option Addr} {n cap:Nat} {L:List Int} (h:ByV w (.slice ad n cap) L):ByV w (.slice ad n n) L:=by
 obtain⟨ad',cap',e,h1,h2,h3⟩:=h
 cases e
 exact⟨_,_,rfl,Nat.le_refl _,Nat.le_trans h1 h2,h3⟩
theorem own_some {w:World} {base n:Nat} {e:TypeId} {v:Value} {xs:List Value} (h:w.ownsRow base e 1 v n xs) (h0:0 < n):∃ g cap,v=.slice (some ⟨g,0,none⟩) n cap∧base≤g∧∀ o,w.frozen? ⟨g,o,none⟩=false:=by
 rcases h.2 with ⟨rfl,h1⟩ | ⟨g,cap,cur,rfl,h1,h2,_⟩
 ·omega
 ·exact⟨g,cap,rfl,h1,fun o=>loose_at h2 o⟩
structure TN (w:World) (i:Nat) (v:Value) (wr:World) (L:List Int):Prop where
 own:wr.ownsRow w.heap.size 3 1 v i (ints L)
 len:L.length=i
 bd:∀ x∈L,-9223372036854775808≤x∧x≤9223372036854775807
 bel:Below w.heap.size w wr
theorem TN.num {w wr:World} {i:Nat} {a:Option Addr} {c:Nat} {L:List Int} (h:TN w i (.slice a i c) wr L):NumA wr a i:=fun k hk=>by
 have hkl:k < L.length:=by have:=h.len;omega
 have hx:L[k]?=some L[k]:=by simp[hkl]
 obtain⟨g,rfl⟩:=row_some h.own (by omega)
 exact⟨g,0,L[k],rfl,h.bd _ (List.getElem_mem hkl),by rw[Nat.zero_add];exact row_cell (own_base h.own) hx⟩
theorem TN.next {w wr w4:World} {i:Nat} {v v4:Value} {L:List Int} {z:Int} {o:Obj} (h:TN w i v wr L) (ho:w4.ownsRow w.heap.size 3 1 v4 (i+1) (ints L++ints [z])) (hg:(wr.alloc o).grownBy w4 v.ownBlock) (hz:-9223372036854775808≤z∧z≤9223372036854775807):TN w (i+1) v4 w4 (L++[z]):=by
 have hA:Below wr.heap.size wr (wr.alloc o):=(Below.refl _ _).alloc (Nat.le_refl _) _
 refine⟨by simpa [ints] using ho,by simp[h.len],fun x hx=>?_,(h.bel.trans (hA.mono h.bel.size)).grown hg (Nat.le_trans h.bel.size hA.size) (fun k e=>(h.own.lt k e).1)⟩
 rcases List.mem_append.1 hx with hx | hx
 ·exact h.bd x hx
 ·rw[List.mem_singleton.1 hx];exact hz
set_option maxHeartbeats 16000000 in
theorem tape_c {w:World} (k:Nat) (hk:k < 40) :
  Calls Tryz.prog 8 #[.int .i64 k] w fun e w'=>∃ a c,e=.returned (.slice a 900 c)∧NumA w' a 900∧Below w.heap.size w w':=by
 obtain⟨i0,hi0,hz0,hz1,hz2⟩:=info_parts info3
 have hmx:100000≤maxLen:=by decide
 have S0:TN w 0 (.slice none 0 0) w []:=⟨by simpa [ints] using World.ownsRow_nil _ _ _ _,rfl,fun x hx=>(by cases hx),Below.refl _ _⟩
 replace S0:=HD S0
 go_enter Tryz.func8,Tryz.ntmps8
 go_wp2
 go_loopw [3,4] (fun v3 v4 wr=>∃ (i:Nat) (L:List Int),i≤900∧v4=.int .i64 i∧Hid (TN w i v3 wr L)) (fun _ v4 _=>900 - (intOf v4).toNat)
 case atStart=>exact⟨0,[],by omega,rfl,S0⟩
 case round =>
  clear S0
  obtain⟨i,L,hi,rfl,hR⟩:=hrel
  obtain⟨a,c,rfl⟩:=row_shape hR.out.own
  by_cases hlt:i < 900
  ·have d1:decide ((i:Int) < 900)=true:=by simp;omega
   have hwi:IntKind.i64.wrap ((i:Int)+1)=(i:Int)+1:=by rw[IntKind.wrap_i64];omega
   obtain⟨q,hq⟩:∃ q:Nat,q=i*i:=⟨_,rfl⟩
   obtain⟨s,hs⟩:∃ s:Nat,s=i*k:=⟨_,rfl⟩
   have hq1:q≤810000:=by rw[hq];exact Nat.mul_le_mul (by omega:i≤900) (by omega:i≤900)
   have hs1:s≤36000:=by rw[hs];exact Nat.mul_le_mul (by omega:i≤900) (by omega:k≤40)
   have m1:IntKind.i64.wrap ((i:Int)*(i:Int))=(q:Int):=by rw[← Int.natCast_mul,← hq,IntKind.wrap_i64];omega
   have m2:IntKind.i64.wrap ((q:Int)*7)=(q:Int)*7:=by rw[IntKind.wrap_i64];omega
   have m3:IntKind.i64.wrap ((k:Int)*43)=(k:Int)*43:=by rw[IntKind.wrap_i64];omega
   have m4:IntKind.i64.wrap ((q:Int)*7+(k:Int)*43)=(q:Int)*7+(k:Int)*43:=by rw[IntKind.wrap_i64];omega
   have m5:IntKind.i64.wrap ((i:Int)*(k:Int))=(s:Int):=by rw[← Int.natCast_mul,← hs,IntKind.wrap_i64];omega
   have m6:IntKind.i64.wrap ((q:Int)*7+(k:Int)*43+(s:Int))=(q:Int)*7+(k:Int)*43+(s:Int):=by rw[IntKind.wrap_i64];omega
   have m7:IntKind.i64.wrap (((q:Int)*7+(k:Int)*43+(s:Int)).tmod 211)=((q:Int)*7+(k:Int)*43+(s:Int)).tmod 211:=by
    rw[IntKind.wrap_i64]
    have h1:=Int.tmod_lt_of_pos ((q:Int)*7+(k:Int)*43+(s:Int)) (show (0:Int) < 211 by omega)
    have h2:=Int.tmod_nonneg 211 (show 0≤(q:Int)*7+(k:Int)*43+(s:Int) by omega)
    omega
   have hzb:-9223372036854775808≤((q:Int)*7+(k:Int)*43+(s:Int)).tmod 211∧((q:Int)*7+(k:Int)*43+(s:Int)).tmod 211≤9223372036854775807:=by
    have h1:=Int.tmod_lt_of_pos ((q:Int)*7+(k:Int)*43+(s:Int)) (show (0:Int) < 211 by omega)
    have h2:=Int.tmod_nonneg 211 (show 0≤(q:Int)*7+(k:Int)*43+(s:Int) by omega)
    omega
   clear hq hs
   generalize hz:((q:Int)*7+(k:Int)*43+(s:Int)).tmod 211=z at *
   go_wp2_with (first | (at_builtin;refine wpList_append_lies _ rfl (.tmp 9) (.tmp 22) 29 rfl w.heap.size 3 i0 (.int .i64 0) 1 8 Tryz.underlying29 hi0 hz0 hz1 hz2 rfl (by decide) (.slice a i c) i _ (by simp[Act.eval]) (hR.out.own.alloc _) ⟨wr.heap.size,0,none⟩ 1 1 (ints [z]) (by simp[Act.eval]) (by simp[ints]) (one_at ((World.cell?_alloc_new _ _ _ 0).trans rfl)) (ints_one _) (by omega) (by omega) (by omega) (by simp only[World.size_alloc];have:=hR.out.bel.size;omega) _ rfl ?_;intro g4 cap4 w4 hown4 hgrow4 hat4 hlt4))
   have hN:=HD (hR.out.next hown4 hgrow4 hzb)
   clear hown4 hgrow4 hat4 hlt4 hR
   go_roundw
   case rel=>exact⟨i+1,_,by omega,by go_num,hN⟩
   case measure=>simp[intOf];omega
  ·obtain rfl:i=900:=by omega
   have hn:=HD hR.out.num
   have hb:=HD hR.out.bel
   clear hR
   go_wp2
   go_ret
   exact⟨a,c,rfl,hn.out,hb.out⟩
theorem step_app_full {w:World} {ops:Array Oper} {o:Oper} {a:Act} {K:Act→World→Prop} {Q:Exit→Act→World→Prop} {E:Prop} (hw:Region.wanted o (yielded ops a.tmps)=true) (s x:Operand) (hty:o.type=36)
  (ho:o.op=.call { callee:=.builtin .append,args:=#[s,x],argTypes:=#[36,36] })
  (g off n:Nat) (bv:Value) (A B:List Int) (hs:a.eval s=.slice (some ⟨g,off,none⟩) n n) (hx:a.eval x=bv) (hA:ByV w (.slice (some ⟨g,off,none⟩) n n) A) (hB:ByV w bv B) (h63:A.length+B.length≤140737488355328)
  (h:∀ v' w',ByV w' v' (A++B)→SlF v'→Below w.heap.size w w'→K (a.put o.dst v') w') :
  if Region.wanted o (yielded ops a.tmps)=true then Oper.wp Tryz.prog o a w K Q else E:=by
 rw[if_pos hw]
 obtain⟨v',w',hr,h2,h3,h5⟩:=run_app_full hA hB h63
 unfold Oper.wp execOp
 simp only[ho,hty,resolve,invoke,builtin,Sem.run_bind,Sem.run_pure,Result.andThen_ok,List.map_toArray,List.map_cons,List.map_nil,hs,hx,hr]
 exact h v' w' h2 h3 h5
set_option maxHeartbeats 64000000 in
theorem inumbers_any (K:RdK) (w:World):Calls Tryz.prog 3 #[] w fun e w'=>e=.returned (.bool true)∧Below w.heap.size w w':=by
 have PN:=HD (fun w=>iknown_c w)
 have hS0:Hid (Below w.heap.size w w):=HD (Below.refl _ _)
 have hmx:140737488355328≤maxLen:=by decide
 go_enter Tryz.func3,Tryz.ntmps3
 go_wp2
 go_loopw [1] (fun i1 wr=>∃ k:Nat,k≤30∧i1=.int .i64 k∧Hid (Below w.heap.size w wr)) (fun i1 _=>30 - (intOf i1).toNat)
 case atStart=>exact⟨0,by omega,rfl,hS0⟩
 case round =>
  clear hS0
  obtain⟨k,hk,rfl,hb⟩:=hrel
  by_cases hk30:k < 30
  ·have d1:decide ((k:Int) < 30)=true:=by simp;omega
   have PT:=HD (tape_c (w:=wr) k (by omega))
   have hm9:Int.tmod (k:Int) 9=((k % 9:Nat):Int):=by
    show Int.tmod _ ((9:Nat):Int)=_
    rw[← Int.ofNat_tmod]
   have hq9:k % 9 < 9:=Nat.mod_lt _ (by omega)
   generalize k % 9=k9 at *
   have wm9:IntKind.i64.wrap ((k9:Int) - 1)=(k9:Int) - 1:=by rw[IntKind.wrap_i64];omega
   have hm5:Int.tmod (k:Int) 5=((k % 5:Nat):Int):=by
    show Int.tmod _ ((5:Nat):Int)=_
    rw[← Int.ofNat_tmod]
   have hq5:k % 5 < 5:=Nat.mod_lt _ (by omega)
   generalize k % 5=k5 at *
   go_wp2_with fail
   with_reducible refine PT.out.mono ?_
   rintro e wt ⟨ta,tc,rfl,hN,h8⟩
   replace hb:=HD (hb.out.trans (h8.mono hb.out.size))
   have PU:=HD (unit_c (tape_tp (cap:=tc) hN (by omega)))
   clear PT h8 hN
   go_wp2_with fail
   with_reducible refine PU.out.mono ?_
   rintro e wu ⟨nv,cv,mv,ov,rfl,U,hU,hT,_,hcg,_⟩
   have hBu:=unit_bel hcg
   obtain⟨na,nc,ka,kc,ma,mc,oa,oc,rfl,rfl,rfl,rfl⟩:=UnV.forms hU
   have hk6:=UnV.k hU hT.main
   clear PU hcg hU
   replace hb:=HD ((hb.out.trans (hBu.mono hb.out.size)).alloc (Nat.le_trans hb.out.size hBu.size) (.cells #[.slice na U.names.length nc,.slice ka U.classes.length kc,.slice ma U.methods.length mc,.slice oa U.objects.length oc,.int .i64 6] 27))
   have hzu:=HD hT.zb
   have hl4:(bytesU U).length≤4096:=tape_le hT
   have hA:=HD (UQ.born hk6)
   have hbd:=HD (bytes_bdK hk6)
   replace hT:=HD hT
   clear hk6 hBu
   go_upto_region 5 with fail
   generalize wu.alloc (.cells #[.slice na U.names.length nc,.slice ka U.classes.length kc,.slice ma U.methods.length mc,.slice oa U.objects.length oc,.int .i64 6] 27)=W1 at *
   generalize wu.heap.size=Q at *
   go_wp2
   go_loopw [3] (fun i3 wr=>∃ m:Nat,m≤14∧i3=.int .i64 m∧Hid (UQ wr Q (.slice na U.names.length nc) (.slice ka U.classes.length kc) (.slice ma U.methods.length mc) (.slice oa U.objects.length oc) (.int .i64 6) U)∧Hid (Below w.heap.size w wr)) (fun i3 _=>14 - (intOf i3).toNat)
   case atStart=>exact⟨0,by omega,rfl,hA,hb⟩
   case round =>
    clear hA hb
    obtain⟨m,hm,rfl,hA,hb⟩:=hrel
    by_cases hm14:m < 14
    ·have d2:decide ((m:Int) < 14)=true:=by simp;omega
     have wkm:IntKind.i64.wrap ((k:Int)+(m:Int))=(k:Int)+(m:Int):=by rw[IntKind.wrap_i64];omega
     obtain⟨a0,a1,a2,a3,a4⟩:=hA.out.five
     have P:=HD (oddu_c hA.out.un hzu.out (by omega) (m:Int) ((k:Int)+(m:Int)) ((k9:Int) - 1) (in64_of (by omega) (by omega)) (in64_of (by omega) (by omega)) (in64_of (by omega) (by omega)))
     go_wp2_with fail
     with_reducible refine P.out.mono ?_
     rintro e y1 ⟨v,V,rfl,hv,_,h8⟩
     replace hA:=HD (hA.out.up h8)
     replace hb:=HD (hb.out.trans (h8.mono hb.out.size))
     clear a0 a1 a2 a3 a4 P h8
     have P:=HD (isame_c K hv)
     clear hv
     go_wp2_with fail
     with_reducible refine P.out.mono ?_
     rintro e y2 ⟨rfl,h8⟩
     replace hA:=HD (hA.out.up h8)
     replace hb:=HD (hb.out.trans (h8.mono hb.out.size))
     clear P h8
     go_wp2
     go_roundw
     case rel=>exact⟨m+1,by omega,by go_num,hA,hb⟩
     case measure=>simp[intOf];omega
    ·have d2:decide ((m:Int) < 14)=false:=by simp;omega
     obtain⟨a0,a1,a2,a3,a4⟩:=hA.out.five
     have P:=HD (wbytes_c hA.out.un (by omega))
     go_wp2_with fail
     with_reducible refine P.out.mono ?_
     rintro e1 w5 ⟨v8,rfl,hrb,h8⟩
     obtain⟨g,gcap,rfl,gc1,gc2⟩:=hrb.form
     have hbyx:=hrb.byv2 hbd.out
     replace hA:=HD (hA.out.up h8)
     replace hb:=HD (hb.out.trans (h8.mono hb.out.size))
     clear a0 a1 a2 a3 a4 P h8 hrb
     obtain⟨X,hX⟩:∃ X,X=bytesU U:=⟨_,rfl⟩
     rw[← hX] at hbyx gc1 hl4 hbd ⊢
     clear hX
     obtain⟨nn,hnn⟩:∃ n,n=X.length:=⟨_,rfl⟩
     rw[← hnn] at hbyx gc1 hl4 ⊢
     replace hnn:=HD hnn
     replace hbyx:=HD hbyx
     go_wp2
     go_loopw [5] (fun i5 wr=>∃ i:Nat,i≤5000∧i5=.int .i64 i∧Hid (UQ wr Q (.slice na U.names.length nc) (.slice ka U.classes.length kc) (.slice ma U.methods.length mc) (.slice oa U.objects.length oc) (.int .i64 6) U)∧Hid (ByV wr (.slice (some ⟨g,0,none⟩) nn gcap) X)∧Hid (Below w.heap.size w wr)) (fun i5 _=>6000 - (intOf i5).toNat)
     case atStart=>exact⟨k5,by omega,rfl,hA,hbyx,hb⟩
     case round =>
      clear hA hbyx hb
      obtain⟨i,hi,rfl,hA,hbyx,hb⟩:=hrel
      by_cases hin:i < nn
      ·have d3:decide ((i:Int) < (nn:Int))=true:=by simp;omega
       have wik:IntKind.i64.wrap ((i:Int)+(k:Int))=(i:Int)+(k:Int):=by rw[IntKind.wrap_i64];omega
       obtain⟨r8,hr8,hr80⟩:∃ r:Nat,Int.tmod ((i:Int)+(k:Int)) 8=(r:Int)∧r < 8:=⟨(i+k) % 8,by
        rw[← Int.natCast_add]
        show Int.tmod _ ((8:Nat):Int)=_
        rw[← Int.ofNat_tmod],Nat.mod_lt _ (by omega)⟩
       obtain⟨h2,hh2,hh20⟩:∃ r:Nat,Int.tdiv (i:Int) 2=(r:Int)∧r≤i:=⟨i / 2,by
        show Int.tdiv _ ((2:Nat):Int)=_
        rw[← Int.ofNat_tdiv],Nat.div_le_self _ _⟩
       have hbe:=(Below.refl wr.heap.size wr).alloc (Nat.le_refl _) (.cells #[] 5)
       have hbx0:=HD (hbyx.out.up hbe)
       go_upto_region 16 with (first | (at_builtin;refine wpList_app_own (by rfl) (.tmp 41) (.tmp 42) rfl rfl wr.heap.size (.slice (some ⟨wr.heap.size,0,none⟩) 0 0) (.slice (some ⟨g,0,none⟩) nn gcap) [] X (by simp[Act.eval]) (by simp[Act.eval]) (made_none wr 5 1 _ (Nat.le_refl _)) (fun x hx=>by cases hx) hbx0.out (by rw[← hnn.out];simp;omega) (by simp) ?_;intro v1 w6 hown hbyY hsl hgr;rw[List.nil_append] at hown hbyY;rw[← hnn.out] at hown;obtain⟨gy,cy,rfl,hyb,hyf⟩:=own_some hown (by omega);obtain⟨av,hav⟩:∃ a,X[i]?=some a:=⟨X[i]'(by rw[← hnn.out];exact hin),by simp⟩;have cav:=(hbyY.at hav).2;obtain⟨_,_,eav,cav⟩:=cav;cases eav;rw[Nat.zero_add] at cav;have fav:=hyf i;have blY:=grow_new hgr;clear hown hsl hgr hyf))
       have hyY:=HD (byv_set hbyY (k:=i) (by rw[← hnn.out];exact hin) (xor_u8 av (2 ^ r8 % 256)))
       have hbs:=blY.trans ((Below.refl wr.heap.size w6).setCell (p:=⟨gy,i,none⟩) hyb (.int .u8 (bits .xor .u8 av (2 ^ r8 % 256))))
       replace hA:=HD (hA.out.up hbs)
       replace hbyx:=HD (hbyx.out.up hbs)
       replace hb:=HD (hb.out.trans (hbs.mono hb.out.size))
       clear hbs hbyY hyb cav fav blY hbe hbx0
       generalize hY:X.set i (bits .xor .u8 av (2 ^ r8 % 256))=Y at *
       clear hY
       generalize w6.setCell ⟨gy,i,none⟩ (.int .u8 (bits .xor .u8 av (2 ^ r8 % 256)))=W7 at *
       have hic:i≤gcap:=by omega
       have hhc:h2≤gcap:=by omega
       have hhn:h2≤nn:=by omega
       have hne:¬ gcap=h2:=by omega
       have wh2:IntKind.i64.wrap (h2:Int)=(h2:Int):=by rw[IntKind.wrap_i64];omega
       have hd:Below W7.heap.size W7 W7.drew:=(Below.refl _ _).drew
       replace hA:=HD (hA.out.up hd)
       replace hbyx:=HD (hbyx.out.up hd)
       replace hyY:=HD (hyY.out.up hd)
       replace hb:=HD (hb.out.trans (hd.mono hb.out.size))
       clear hd
       refine wp_region_held_drew (S:=(fun y=>UQ y Q (.slice na U.names.length nc) (.slice ka U.classes.length kc) (.slice ma U.methods.length mc) (.slice oa U.objects.length oc) (.int .i64 6) U∧ByV y (.slice (some ⟨g,0,none⟩) nn gcap) X∧ByV y (.slice (some ⟨gy,0,none⟩) nn cy) Y)) (by kernel_rfl) ?_ (fun hHeld=>?_)
       ·(try dsimp only);exact⟨hA.out,hbyx.out,hyY.out⟩
       try simp only[nA]
       generalize W7.drew=y0 at *
       refine tk (i:=0) (oi:=⟨some 56,.move (.tmp 6),36,"law.go:115",#[],none⟩) (hy:=by intro w hSw;(try dsimp only at hSw);obtain⟨sA,s5,s6⟩:=hSw;go_simp <;> with_reducible rfl) ?_
       try simp only[nA]
       refine wpAnyH_ready (rs:=[1]) (by kernel_rfl) (by simp) ?_
       refine AllReadyH.cons (o:=⟨some 57,.call { callee:=.value (.func 13),args:=#[.tmp 56],argTypes:=#[36] },4,"law.go:115",#[⟨0,.data⟩],none⟩) rfl (fun K9 hK=>?_) AllReadyH.nil
       go_simp
       with_reducible refine (reads_c K hyY.out (slF_some ..)).mono ?_
       rintro e y1 ⟨rfl,h8⟩
       replace hA:=HD (hA.out.up h8)
       replace hbyx:=HD (hbyx.out.up h8)
       replace hyY:=HD (hyY.out.up h8)
       replace hb:=HD (hb.out.trans (h8.mono hb.out.size))
       clear h8
       go_wp2_with fail
       refine hK.out _ _ ?_ ?_
       ·(try dsimp only);exact⟨hA.out,hbyx.out,hyY.out⟩
       clear hK K9 hHeld;intro hHeld
       try simp only[nA]
       refine tk (i:=2) (oi:=⟨some 58,.unOp .not 4 (.tmp 57),4,"law.go:115",#[⟨1,.data⟩],none⟩) (hy:=by intro w hSw;(try dsimp only at hSw);obtain⟨sA,s5,s6⟩:=hSw;go_simp <;> with_reducible rfl) ?_
       try simp only[nA]
       refine tk (i:=3) (oi:=⟨some 59,.move (.tmp 58),4,"law.go:115",#[⟨2,.data⟩,⟨1,.chain⟩],none⟩) (hy:=by intro w hSw;(try dsimp only at hSw);obtain⟨sA,s5,s6⟩:=hSw;go_simp <;> with_reducible rfl) ?_
       try simp only[nA]
       refine tk (i:=4) (oi:=⟨some 60,.move (.tmp 4),36,"law.go:115",#[⟨3,.guard⟩],some (3,false)⟩) (hy:=by intro w hSw;(try dsimp only at hSw);obtain⟨sA,s5,s6⟩:=hSw;go_simp <;> with_reducible rfl) ?_
       try simp only[nA]
       refine tk (i:=5) (oi:=⟨some 61,.move (.tmp 5),3,"law.go:115",#[⟨3,.guard⟩],some (3,false)⟩) (hy:=by intro w hSw;(try dsimp only at hSw);obtain⟨sA,s5,s6⟩:=hSw;go_simp <;> with_reducible rfl) ?_
       try simp only[nA]
       refine tk (i:=6) (oi:=⟨some 62,.slice 36 (.tmp 60) none (some (.tmp 61)) none,36,"law.go:115",#[⟨4,.data⟩,⟨5,.data⟩,⟨3,.guard⟩],some (3,false)⟩) (hy:=by intro w hSw;(try dsimp only at hSw);obtain⟨sA,s5,s6⟩:=hSw;go_simp <;> with_reducible rfl) ?_
       try simp only[nA]
       refine wpAnyH_ready (rs:=[7]) (by kernel_rfl) (by simp) ?_
       refine AllReadyH.cons (o:=⟨some 63,.call { callee:=.value (.func 13),args:=#[.tmp 62],argTypes:=#[36] },4,"law.go:115",#[⟨6,.data⟩,⟨3,.chain⟩,⟨3,.guard⟩],some (3,false)⟩) rfl (fun K9 hK=>?_) AllReadyH.nil
       go_simp
       have hT1:=HD (ByV.take hbyx.out i (by rw[← hnn.out];omega))
       with_reducible refine (reads_c K hT1.out (slF_some ..)).mono ?_
       rintro e y2 ⟨rfl,h8⟩
       replace hA:=HD (hA.out.up h8)
       replace hbyx:=HD (hbyx.out.up h8)
       replace hyY:=HD (hyY.out.up h8)
       replace hb:=HD (hb.out.trans (h8.mono hb.out.size))
       clear h8
       go_wp2_with fail
       refine hK.out _ _ ?_ ?_
       ·(try dsimp only);exact⟨hA.out,hbyx.out,hyY.out⟩
       clear hK K9 hHeld;intro hHeld
       try simp only[nA]
       refine tk (i:=8) (oi:=⟨some 64,.unOp .not 4 (.tmp 63),4,"law.go:115",#[⟨7,.data⟩,⟨3,.guard⟩],some (3,false)⟩) (hy:=by intro w hSw;(try dsimp only at hSw);obtain⟨sA,s5,s6⟩:=hSw;go_simp <;> with_reducible rfl) ?_
       try simp only[nA]
       refine tk (i:=9) (oi:=⟨some 65,.pick (.tmp 59) (.const (.bool true)) (.tmp 64),4,"law.go:115",#[⟨3,.data⟩,⟨8,.data⟩],none⟩) (hy:=by intro w hSw;(try dsimp only at hSw);obtain⟨sA,s5,s6⟩:=hSw;go_simp <;> with_reducible rfl) ?_
       try simp only[nA]
       refine tk (i:=10) (oi:=⟨some 66,.move (.tmp 65),4,"law.go:115",#[⟨9,.data⟩,⟨7,.chain⟩],none⟩) (hy:=by intro w hSw;(try dsimp only at hSw);obtain⟨sA,s5,s6⟩:=hSw;go_simp <;> with_reducible rfl) ?_
       try simp only[nA]
       refine tk (i:=11) (oi:=⟨some 67,.move (.tmp 4),36,"law.go:115",#[⟨10,.guard⟩],some (10,false)⟩) (hy:=by intro w hSw;(try dsimp only at hSw);obtain⟨sA,s5,s6⟩:=hSw;go_simp <;> with_reducible rfl) ?_
       try simp only[nA]
       refine tk (i:=12) (oi:=⟨some 68,.move (.tmp 5),3,"law.go:115",#[⟨10,.guard⟩],some (10,false)⟩) (hy:=by intro w hSw;(try dsimp only at hSw);obtain⟨sA,s5,s6⟩:=hSw;go_simp <;> with_reducible rfl) ?_
       try simp only[nA]
       refine tk (i:=13) (oi:=⟨some 69,.move (.tmp 5),3,"law.go:115",#[⟨10,.guard⟩],some (10,false)⟩) (hy:=by intro w hSw;(try dsimp only at hSw);obtain⟨sA,s5,s6⟩:=hSw;go_simp <;> with_reducible rfl) ?_
       try simp only[nA]
       refine tk (i:=14) (oi:=⟨some 70,.slice 36 (.tmp 67) none (some (.tmp 68)) (some (.tmp 69)),36,"law.go:115",#[⟨11,.data⟩,⟨12,.data⟩,⟨13,.data⟩,⟨10,.guard⟩],some (10,false)⟩) (hy:=by intro w hSw;(try dsimp only at hSw);obtain⟨sA,s5,s6⟩:=hSw;go_simp <;> with_reducible rfl) ?_
       try simp only[nA]
       refine tk (i:=15) (oi:=⟨some 71,.move (.tmp 4),36,"law.go:115",#[⟨10,.guard⟩],some (10,false)⟩) (hy:=by intro w hSw;(try dsimp only at hSw);obtain⟨sA,s5,s6⟩:=hSw;go_simp <;> with_reducible rfl) ?_
       try simp only[nA]
       refine tk (i:=16) (oi:=⟨some 72,.move (.tmp 5),3,"law.go:115",#[⟨10,.guard⟩],some (10,false)⟩) (hy:=by intro w hSw;(try dsimp only at hSw);obtain⟨sA,s5,s6⟩:=hSw;go_simp <;> with_reducible rfl) ?_
       try simp only[nA]
       refine tk (i:=17) (oi:=⟨some 73,.binOp .quo 3 (.tmp 72) (.const (.int .i64 2)) 3,3,"law.go:115",#[⟨16,.data⟩,⟨10,.guard⟩],some (10,false)⟩) (hy:=by intro w hSw;(try dsimp only at hSw);obtain⟨sA,s5,s6⟩:=hSw;go_simp <;> with_reducible rfl) ?_
       try simp only[nA]
       refine tk (i:=18) (oi:=⟨some 74,.slice 36 (.tmp 71) (some (.tmp 73)) none none,36,"law.go:115",#[⟨15,.data⟩,⟨17,.data⟩,⟨10,.guard⟩],some (10,false)⟩) (hy:=by intro w hSw;(try dsimp only at hSw);obtain⟨sA,s5,s6⟩:=hSw;go_simp <;> with_reducible rfl) ?_
       try simp only[nA]
       refine wpAnyH_ready (rs:=[19]) (by kernel_rfl) (by simp) ?_
       refine AllReadyH.cons (o:=⟨some 75,.call { callee:=.builtin .append,args:=#[.tmp 70,.tmp 74],argTypes:=#[36,36] },36,"law.go:115",#[⟨14,.data⟩,⟨18,.data⟩,⟨10,.chain⟩,⟨10,.guard⟩],some (10,false)⟩) rfl (fun K9 hK=>?_) AllReadyH.nil
       have hT0:=HD (byv_cap (ByV.take hbyx.out i (by rw[← hnn.out];omega)))
       have hD:=HD (ByV.drop hbyx.out h2 hhn)
       rw[Nat.zero_add] at hD
       refine step_app_full (by rfl) (.tmp 70) (.tmp 74) rfl rfl g 0 i (.slice (some ⟨g,h2,none⟩) (nn - h2) (gcap - h2)) (X.take i) (X.drop h2) (by simp[Act.eval]) (by simp[Act.eval]) hT0.out hD.out (by rw[List.length_take,List.length_drop,← hnn.out];omega) ?_
       intro v9 y9 hby9 hsl9 h8
       replace hA:=HD (hA.out.up h8)
       replace hbyx:=HD (hbyx.out.up h8)
       replace hyY:=HD (hyY.out.up h8)
       replace hb:=HD (hb.out.trans (h8.mono hb.out.size))
       clear h8 hT0 hD
       refine hK.out _ _ ?_ ?_
       ·(try dsimp only);exact⟨hA.out,hbyx.out,hyY.out⟩
       clear hK K9 hHeld;intro hHeld
       try simp only[nA]
       refine wpAnyH_ready (rs:=[20]) (by kernel_rfl) (by simp) ?_
       refine AllReadyH.cons (o:=⟨some 76,.call { callee:=.value (.func 13),args:=#[.tmp 75],argTypes:=#[36] },4,"law.go:115",#[⟨19,.data⟩,⟨19,.chain⟩,⟨10,.guard⟩],some (10,false)⟩) rfl (fun K9 hK=>?_) AllReadyH.nil
       go_simp
       with_reducible refine (reads_c K hby9 hsl9).mono ?_
       rintro e y3 ⟨rfl,h8⟩
       replace hA:=HD (hA.out.up h8)
       replace hbyx:=HD (hbyx.out.up h8)
       replace hyY:=HD (hyY.out.up h8)
       replace hb:=HD (hb.out.trans (h8.mono hb.out.size))
       clear h8
       go_wp2_with fail
       refine hK.out _ _ ?_ ?_
       ·(try dsimp only);exact⟨hA.out,hbyx.out,hyY.out⟩
       clear hK K9 hHeld;intro hHeld
       try simp only[nA]
       refine tk (i:=21) (oi:=⟨some 77,.unOp .not 4 (.tmp 76),4,"law.go:115",#[⟨20,.data⟩,⟨10,.guard⟩],some (10,false)⟩) (hy:=by intro w hSw;(try dsimp only at hSw);obtain⟨sA,s5,s6⟩:=hSw;go_simp <;> with_reducible rfl) ?_
       try simp only[nA]
       refine tk (i:=22) (oi:=⟨some 78,.pick (.tmp 66) (.const (.bool true)) (.tmp 77),4,"law.go:115",#[⟨10,.data⟩,⟨21,.data⟩],none⟩) (hy:=by intro w hSw;(try dsimp only at hSw);obtain⟨sA,s5,s6⟩:=hSw;go_simp <;> with_reducible rfl) ?_
       try simp only[nA]
       refine wpAnyH_done (by kernel_rfl) ?_ _
       go_wp2
       go_roundw
       case rel=>exact⟨i+23,by omega,by go_num,hA,hbyx,hb⟩
       case measure=>simp[intOf];omega
      ·have d3:decide ((i:Int) < (nn:Int))=false:=by simp;omega
       obtain⟨a0,a1,a2,a3,a4⟩:=hA.out.five
       have P:=HD (isame_c K hA.out.un)
       go_wp2_with fail
       with_reducible refine P.out.mono ?_
       rintro e y1 ⟨rfl,h8⟩
       replace hbyx:=HD (hbyx.out.up h8)
       replace hb:=HD (hb.out.trans (h8.mono hb.out.size))
       clear P h8 a0 a1 a2 a3 a4 hA
       have hbe:=(Below.refl y1.heap.size y1).alloc (Nat.le_refl _) (.cells #[] 5)
       have hbx0:=HD (hbyx.out.up hbe)
       have hl31:X.length≤5000:=by rw[← hnn.out];omega
       go_wp2_with (first | (at_builtin;refine wpList_app_own (by rfl) (.tmp 83) (.tmp 84) rfl rfl y1.heap.size (.slice (some ⟨y1.heap.size,0,none⟩) 0 0) (.slice (some ⟨g,0,none⟩) nn gcap) [] X (by simp[Act.eval]) (by simp[Act.eval]) (made_none y1 5 1 _ (Nat.le_refl _)) (fun x hx=>by cases hx) hbx0.out (by simp only[List.length_nil];omega) (by simp) ?_;intro v1 y2 hown hby1 hsl1 hgr;rw[List.nil_append] at hown hby1;have bl1:=grow_new hgr;obtain⟨a8,c8,rfl⟩:=row_shape hown;have T1:=HD (row_bel hown ((Below.refl y2.heap.size y2).alloc (Nat.le_refl _) (.cells #[.int .u8 0] 5)));have T2:Hid (ByV (y2.alloc (.cells #[.int .u8 0] 5)) (.slice (some ⟨y2.heap.size,0,none⟩) 1 1) [0]):=HD (ByV.own (World.ownsRow_lit (base:=y1.heap.size) (e:=5) (size:=1) y2 #[.int .u8 0] 1 bl1.size (by omega) rfl) (fun x hx=>by rw[List.mem_singleton.1 hx];omega));have hownlt:=hown.lt;clear hown hby1 hsl1 hgr hbx0) | (at_builtin;refine wpList_app_own (by rfl) (.tmp 85) (.tmp 86) rfl rfl y1.heap.size (.slice a8 X.length c8) (.slice (some ⟨y2.heap.size,0,none⟩) 1 1) X [0] (by simp[Act.eval]) (by simp[Act.eval]) T1.out hbd.out T2.out (by simp only[List.length_cons,List.length_nil];omega) (by simp only[World.size_alloc];exact Nat.le_succ_of_le bl1.size) ?_;intro v2 y3 hown2 hby2 hsl2 hgr2;have bl2:=(bl1.alloc bl1.size (.cells #[.int .u8 0] 5)).grown hgr2 (by simp only[World.size_alloc];exact Nat.le_succ_of_le bl1.size) (fun k hk=>(hownlt k hk).1);clear hown2 hgr2))
       have P:=HD (reads_c K hby2 hsl2)
       with_reducible refine P.out.mono ?_
       rintro e y4 ⟨rfl,h8⟩
       replace hb:=HD (hb.out.trans ((bl2.trans (h8.mono bl2.size)).mono hb.out.size))
       clear P h8 bl1 bl2 hby2 hsl2 T1 T2 hbe
       go_wp2
       go_roundw
       case rel=>exact⟨k+1,by omega,by go_num,hb⟩
       case measure=>simp[intOf];omega
  ·have d1:decide ((k:Int) < 30)=false:=by simp;omega
   go_wp2_with fail
   with_reducible refine (PN.out _).mono ?_
   rintro e1 y15 ⟨rfl,h8⟩
   go_wp2
   go_ret
   exact⟨rfl,hb.out.trans (h8.mono hb.out.size)⟩
end Wd
end Go.Proofs.YtgfnelhbdhbklaaGreat
namespace Go.Proofs.YtgfnelhbdhbklaaGreat
open Go.RowKit
namespace Wd
theorem KR9:RdK:=⟨rread_c⟩
theorem numbers_s (w:World):Calls Tryz.prog 3 #[] w fun e w'=>e=.returned (.bool true)∧Below w.heap.size w w':=inumbers_any KR9 w
end Wd
end Go.Proofs.YtgfnelhbdhbklaaGreat
