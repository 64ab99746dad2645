/- Texts joined: UCW, UKN, ILK0, ILK, ILN. -/
import Derived.Test.YtgfnelhbdhbklaaGreatJ1
import Derived.Test.YtgfnelhbdhbklaaGreatJ12
import Derived.Test.YtgfnelhbdhbklaaGreatJ13
import Derived.Laws.MakeOwn
namespace Go.Proofs.YtgfnelhbdhbklaaGreat
open Go.RowKit
set_option linter.unusedVariables false
set_option maxRecDepth 20000
namespace Wd
def Alk (v v':Value):Prop:=v'=v∨(∃ x y,v=.int .i64 x∧v'=.int .i64 y∧In64 y)∨(∃ x y,v=.int .u8 x∧v'=.int .u8 y∧0≤y∧y≤255)∨∃ s t,v=.string s∧v'=.string t
theorem Alk.trans {a b c:Value} (h:Alk a b) (k:Alk b c):Alk a c:=by
 rcases h with rfl | ⟨x,y,rfl,rfl,h⟩ | ⟨x,y,rfl,rfl,h⟩ | ⟨s,t,rfl,rfl⟩
 ·exact k
 ·rcases k with rfl | ⟨x',y',e,rfl,h'⟩ | ⟨x',y',e,rfl,h'⟩ | ⟨s,t,e,rfl⟩
  ·exact Or.inr (Or.inl ⟨x,y,rfl,rfl,h⟩)
  ·exact Or.inr (Or.inl ⟨x,y',rfl,rfl,h'⟩)
  ·cases e
  ·cases e
 ·rcases k with rfl | ⟨x',y',e,rfl,h'⟩ | ⟨x',y',e,rfl,h'⟩ | ⟨s,t,e,rfl⟩
  ·exact Or.inr (Or.inr (Or.inl ⟨x,y,rfl,rfl,h⟩))
  ·cases e
  ·exact Or.inr (Or.inr (Or.inl ⟨x,y',rfl,rfl,h'⟩))
  ·cases e
 ·rcases k with rfl | ⟨x',y',e,rfl,h'⟩ | ⟨x',y',e,rfl,h'⟩ | ⟨s',t',e,rfl⟩
  ·exact Or.inr (Or.inr (Or.inr ⟨s,t,rfl,rfl⟩))
  ·cases e
  ·cases e
  ·exact Or.inr (Or.inr (Or.inr ⟨s,t',rfl,rfl⟩))
structure SK (w w':World):Prop where
 cell:∀ b v,w.cell? b=some v→∃ v',w'.cell? b=some v'∧Alk v v'
 fz:∀ b,w'.frozen? b=w.frozen? b
section
variable {w w1 w2:World}
theorem SK.refl (w:World):SK w w:=⟨fun b v h=>⟨v,h,Or.inl rfl⟩,fun _=>rfl⟩
theorem SK.trans (h:SK w w1) (k:SK w1 w2):SK w w2 :=
 ⟨fun b v hb=>by
  obtain⟨v1,c1,a1⟩:=h.cell b v hb
  obtain⟨v2,c2,a2⟩:=k.cell b v1 c1
  exact⟨v2,c2,a1.trans a2⟩,fun b=>(k.fz b).trans (h.fz b)⟩
theorem SK.set {a:Addr} {u x:Value} (ha:w.cell? a=some u) (hx:Alk u x):SK w (w.setCell a x) :=
 ⟨fun b v hb=>by
  by_cases e:a=b
  ·subst e
   rw[ha] at hb
   cases hb
   exact⟨x,World.cell?_setCell_same _ _ _ ha,hx⟩
  ·exact⟨v,(World.cell?_setCell_other _ _ _ _ e).trans hb,Or.inl rfl⟩,fun b=>World.frozen?_setCell _ _ _ _⟩
theorem SK.drew (h:SK w w1):SK w w1.drew:=⟨h.cell,h.fz⟩
theorem SK.keep (h:SK w w1) (b:Below w1.heap.size w1 w2) (hf:∀ p,w2.frozen? p=w1.frozen? p):SK w w2 :=
 ⟨fun p v hp=>by
  obtain⟨v',c,a⟩:=h.cell p v hp
  exact⟨v',cell_up b c,a⟩,fun p=>(hf p).trans (h.fz p)⟩
theorem SK.int (h:SK w w1) {b:Addr} {x:Int} (hb:w.cell? b=some (.int .i64 x)) (hx:In64 x):∃ y,In64 y∧w1.cell? b=some (.int .i64 y):=by
 obtain⟨v',c,a⟩:=h.cell _ _ hb
 rcases a with rfl | ⟨_,y,_,rfl,hy⟩ | ⟨_,_,e,_⟩ | ⟨_,_,e,_⟩
 ·exact⟨x,hx,c⟩
 ·exact⟨y,hy,c⟩
 ·cases e
 ·cases e
theorem SK.byte (h:SK w w1) {b:Addr} {x:Int} (hb:w.cell? b=some (.int .u8 x)) (hx:0≤x∧x≤255):∃ y,(0≤y∧y≤255)∧w1.cell? b=some (.int .u8 y):=by
 obtain⟨v',c,a⟩:=h.cell _ _ hb
 rcases a with rfl | ⟨_,_,e,_⟩ | ⟨_,y,_,rfl,hy⟩ | ⟨_,_,e,_⟩
 ·exact⟨x,hx,c⟩
 ·cases e
 ·exact⟨y,hy,c⟩
 ·cases e
theorem SK.sl (h:SK w w1) {b:Addr} {ad:Option Addr} {n c:Nat} (hb:w.cell? b=some (.slice ad n c)):w1.cell? b=some (.slice ad n c):=by
 obtain⟨v',c',a⟩:=h.cell _ _ hb
 rcases a with rfl | ⟨_,_,e,_⟩ | ⟨_,_,e,_⟩ | ⟨_,_,e,_⟩
 ·exact c'
 ·cases e
 ·cases e
 ·cases e
end
def kU:UnitA:=⟨[],[⟨⟨#[66]⟩,-1,4,[]⟩,⟨⟨#[65]⟩,-1,0,[]⟩,⟨⟨#[67]⟩,-1,1,[]⟩],[⟨0,0,[],[3,0,14,0]⟩],[⟨2,[(3,5)]⟩],0⟩
def zU:UnitA:=⟨[],[],[],[],0⟩
theorem zU_right:unitR zU=3:=by decide +kernel
theorem zU_k (w:World):UnK w (.agg #[.slice none 0 0,.slice none 0 0,.slice none 0 0,.slice none 0 0,.int .i64 0]) zU :=
 ⟨⟨none,0,none,0,none,0,none,0,rfl,⟨⟨none,0,rfl,by decide,by decide,fun k x h=>by simp[zU] at h⟩,⟨none,0,rfl,by decide,by decide,fun k x h=>by simp[zU] at h⟩,⟨none,0,rfl,by decide,by decide,fun k x h=>by simp[zU] at h⟩,⟨none,0,rfl,by decide,by decide,fun k x h=>by simp[zU] at h⟩⟩⟩⟩
theorem i64s {x:Int} (h0:-1000≤x) (h1:x≤1000):In64 x:=in64_of (by omega) (by omega)
structure KnA (w0 wr:World) (s s2 s3 s4 q:Nat):Prop where
 b:UnB wr q (.agg #[.slice none 0 0,.slice (some ⟨s,0,none⟩) 3 3,.slice (some ⟨s2,0,none⟩) 1 1,.slice (some ⟨s4,0,none⟩) 1 1,.int .i64 0]) kU none (some ⟨s,0,none⟩) (some ⟨s2,0,none⟩) (some ⟨s4,0,none⟩) 0 3 1 1
 f0:wr.cell? ⟨s4,1,none⟩=some (.slice (some ⟨s3,0,none⟩) 1 1)
 f1:wr.cell? ⟨s3,1,none⟩=some (.int .i64 5)
 bel:Below w0.heap.size w0 wr
theorem KnA.up {w0 w w1:World} {s s2 s3 s4 q:Nat} (h:KnA w0 w s s2 s3 s4 q) (b:Below w.heap.size w w1):KnA w0 w1 s s2 s3 s4 q:=⟨h.b.up b,cell_up b h.f0,cell_up b h.f1,h.bel.trans (b.mono h.bel.size)⟩
theorem KnA.box {w0 w:World} {s s2 s3 s4 q:Nat} (h:KnA w0 w s s2 s3 s4 q):w.cell? ⟨q,0,none⟩=some (.slice none 0 0)∧w.cell? ⟨q,1,none⟩=some (.slice (some ⟨s,0,none⟩) 3 3)∧w.cell? ⟨q,2,none⟩=some (.slice (some ⟨s2,0,none⟩) 1 1)∧w.cell? ⟨q,3,none⟩=some (.slice (some ⟨s4,0,none⟩) 1 1)∧w.cell? ⟨q,4,none⟩=some (.int .i64 0):=⟨h.b.c0,h.b.c1,h.b.c2,h.b.c3,h.b.c4⟩
structure KnB (w0 wr:World) (s s2 s3 s4 q Q:Nat) (na ka ma oa:Option Addr) (nc kc mc oc:Nat) (V:UnitA):Prop where
 a:KnA w0 wr s s2 s3 s4 q
 v:UnK wr (.agg #[.slice na 0 nc,.slice ka 3 kc,.slice ma 1 mc,.slice oa 1 oc,.int .i64 0]) V
 y0:wr.cell? ⟨Q,0,none⟩=some (.slice na 0 nc)
 y1:wr.cell? ⟨Q,1,none⟩=some (.slice ka 3 kc)
 y2:wr.cell? ⟨Q,2,none⟩=some (.slice ma 1 mc)
 y3:wr.cell? ⟨Q,3,none⟩=some (.slice oa 1 oc)
 y4:wr.cell? ⟨Q,4,none⟩=some (.int .i64 0)
theorem KnB.up {w0 w w1:World} {s s2 s3 s4 q Q:Nat} {na ka ma oa:Option Addr} {nc kc mc oc:Nat} {V:UnitA} (h:KnB w0 w s s2 s3 s4 q Q na ka ma oa nc kc mc oc V) (b:Below w.heap.size w w1):KnB w0 w1 s s2 s3 s4 q Q na ka ma oa nc kc mc oc V :=
 ⟨h.a.up b,h.v.up b,cell_up b h.y0,cell_up b h.y1,cell_up b h.y2,cell_up b h.y3,cell_up b h.y4⟩
theorem alloc6 (w:World) (o0 o1 o2 o3 o4 o5:Obj):((((((w.alloc o0).alloc o1).alloc o2).alloc o3).alloc o4).alloc o5).heap[w.heap.size]?=some o0∧((((((w.alloc o0).alloc o1).alloc o2).alloc o3).alloc o4).alloc o5).heap[w.heap.size+1]?=some o1∧((((((w.alloc o0).alloc o1).alloc o2).alloc o3).alloc o4).alloc o5).heap[w.heap.size+1+1]?=some o2∧((((((w.alloc o0).alloc o1).alloc o2).alloc o3).alloc o4).alloc o5).heap[w.heap.size+1+1+1]?=some o3∧((((((w.alloc o0).alloc o1).alloc o2).alloc o3).alloc o4).alloc o5).heap[w.heap.size+1+1+1+1]?=some o4∧((((((w.alloc o0).alloc o1).alloc o2).alloc o3).alloc o4).alloc o5).heap[w.heap.size+1+1+1+1+1]?=some o5∧Below w.heap.size w ((((((w.alloc o0).alloc o1).alloc o2).alloc o3).alloc o4).alloc o5):=by
 have z1:(w.alloc o0).heap.size=w.heap.size+1:=World.size_alloc _ _
 have z2:((w.alloc o0).alloc o1).heap.size=w.heap.size+1+1:=by rw[World.size_alloc,z1]
 have z3:(((w.alloc o0).alloc o1).alloc o2).heap.size=w.heap.size+1+1+1:=by rw[World.size_alloc,z2]
 have z4:((((w.alloc o0).alloc o1).alloc o2).alloc o3).heap.size=w.heap.size+1+1+1+1:=by rw[World.size_alloc,z3]
 have z5:(((((w.alloc o0).alloc o1).alloc o2).alloc o3).alloc o4).heap.size=w.heap.size+1+1+1+1+1:=by rw[World.size_alloc,z4]
 refine⟨?_,?_,?_,?_,?_,?_,?_⟩
 ·rw[Below.heap_alloc _ _ _ (by omega),Below.heap_alloc _ _ _ (by omega),Below.heap_alloc _ _ _ (by omega),Below.heap_alloc _ _ _ (by omega),Below.heap_alloc _ _ _ (by omega)]
  exact heap_alloc_new _ _
 ·rw[Below.heap_alloc _ _ _ (by omega),Below.heap_alloc _ _ _ (by omega),Below.heap_alloc _ _ _ (by omega),Below.heap_alloc _ _ _ (by omega),← z1]
  exact heap_alloc_new _ _
 ·rw[Below.heap_alloc _ _ _ (by omega),Below.heap_alloc _ _ _ (by omega),Below.heap_alloc _ _ _ (by omega),← z2]
  exact heap_alloc_new _ _
 ·rw[Below.heap_alloc _ _ _ (by omega),Below.heap_alloc _ _ _ (by omega),← z3]
  exact heap_alloc_new _ _
 ·rw[Below.heap_alloc _ _ _ (by omega),← z4]
  exact heap_alloc_new _ _
 ·rw[← z5]
  exact heap_alloc_new _ _
 ·exact (((((Below.refl _ _).alloc (Nat.le_refl _) _).alloc (by omega) _).alloc (by omega) _).alloc (by omega) _).alloc (by omega) _ |>.alloc (by omega) _
structure RdK:Prop where
 read:∀ {w:World} {bv:Value} {b:List Int},ByV w bv b→Calls Tryz.prog 29 #[bv] w fun e w'=>RdA w' b e∧Below w.heap.size w w'
theorem rdA_any {w1:World} {b:List Int} {e1:Ending} (h1:RdA w1 b e1):∃ (U:UnitA) (na ka ma oa:Option Addr) (nc kc mc oc:Nat) (m:Int),e1=.returned (.tuple #[.agg #[.slice na U.names.length nc,.slice ka U.classes.length kc,.slice ma U.methods.length mc,.slice oa U.objects.length oc,.int .i64 U.main],.int .i64 m])∧UnK w1 (.agg #[.slice na U.names.length nc,.slice ka U.classes.length kc,.slice ma U.methods.length mc,.slice oa U.objects.length oc,.int .i64 U.main]) U∧(∀ w2 e2,RdA w2 b e2→∃ (pa qa ra sa:Option Addr) (pc qc rc sc:Nat),e2=.returned (.tuple #[.agg #[.slice pa U.names.length pc,.slice qa U.classes.length qc,.slice ra U.methods.length rc,.slice sa U.objects.length sc,.int .i64 U.main],.int .i64 m])∧UnK w2 (.agg #[.slice pa U.names.length pc,.slice qa U.classes.length qc,.slice ra U.methods.length rc,.slice sa U.objects.length sc,.int .i64 U.main]) U):=by
 rcases h1 with ⟨U,v,g,rfl,k⟩ | ⟨n,rfl⟩
 ·obtain⟨na,nc,ca,cc,ma,mc,oa,oc,rfl,_⟩:=k.ex
  refine⟨U,na,ca,ma,oa,nc,cc,mc,oc,0,rfl,k,fun w2 e2 h2=>?_⟩
  rcases h2 with ⟨V,v2,g2,rfl,k2⟩ | ⟨n,_⟩
  ·obtain rfl:=good_one g g2
   obtain⟨pa,pc,qa,qc,ra,rc,sa,sc,rfl,_⟩:=k2.ex
   exact⟨pa,qa,ra,sa,pc,qc,rc,sc,rfl,k2⟩
  ·exact absurd g (n U)
 ·refine⟨zU,none,none,none,none,0,0,0,0,errB b,rfl,zU_k _,fun w2 e2 h2=>?_⟩
  rcases h2 with ⟨V,v2,g2,_,_⟩ | ⟨_,rfl⟩
  ·exact absurd g2 (n V)
  ·exact⟨none,none,none,none,0,0,0,0,rfl,zU_k _⟩
set_option maxHeartbeats 16000000 in
theorem reads_c (K:RdK) {w:World} {bv:Value} {b:List Int} (hb:ByV w bv b) (hf:SlF bv) :
  Calls Tryz.prog 13 #[bv] w fun e w'=>e=.returned (.bool true)∧Below w.heap.size w w':=by
 have P1:=HD (iread_c hb hf)
 replace hb:=HD hb
 clear hf
 go_enter Tryz.func13,Tryz.ntmps13
 go_wp2_with fail
 with_reducible refine P1.out.mono ?_
 rintro e1 w1 ⟨h1,hb1⟩
 obtain⟨U,na,ka,ma,oa,nc,kc,mc,oc,m,rfl,hk,h2⟩:=rdA_any h1
 have hB:=HD (UnB.born hk)
 have hbx:=(Below.refl w1.heap.size w1).alloc (Nat.le_refl _) (.cells #[.slice na U.names.length nc,.slice ka U.classes.length kc,.slice ma U.methods.length mc,.slice oa U.objects.length oc,.int .i64 U.main] 27)
 have hbW:=hb1.trans (hbx.mono hb1.size)
 have P2:=HD (K.read (hb.out.up hbW))
 replace h2:=HD h2
 clear P1 h1 hk hbx hb hb1
 go_upto_region 2 with fail
 obtain⟨Q1,hQ1⟩:∃ Q,w1.heap.size=Q:=⟨_,rfl⟩
 generalize w1.alloc (.cells #[.slice na U.names.length nc,.slice ka U.classes.length kc,.slice ma U.methods.length mc,.slice oa U.objects.length oc,.int .i64 U.main] 27)=W1 at *
 try simp only[hQ1]
 rw[hQ1] at hB
 clear hQ1
 go_wp2_with fail
 with_reducible refine P2.out.mono ?_
 rintro e2 w2 ⟨h3,hb2⟩
 obtain⟨pa,qa,ra,sa,pc,qc,rc,sc,rfl,hk2⟩:=h2.out _ _ h3
 have hB2:=HD (UnB.born hk2)
 have hbx:=(Below.refl w2.heap.size w2).alloc (Nat.le_refl _) (.cells #[.slice pa U.names.length pc,.slice qa U.classes.length qc,.slice ra U.methods.length rc,.slice sa U.objects.length sc,.int .i64 U.main] 27)
 replace hB:=HD (hB.out.up (hb2.trans (hbx.mono hb2.size)))
 replace hbW:=hbW.trans ((hb2.trans (hbx.mono hb2.size)).mono hbW.size)
 clear P2 h3 hk2 hbx h2 hb2
 go_upto_region 3 with fail
 obtain⟨Q2,hQ2⟩:∃ Q,w2.heap.size=Q:=⟨_,rfl⟩
 generalize w2.alloc (.cells #[.slice pa U.names.length pc,.slice qa U.classes.length qc,.slice ra U.methods.length rc,.slice sa U.objects.length sc,.int .i64 U.main] 27)=W2 at *
 try simp only[hQ2]
 rw[hQ2] at hB2
 clear hQ2
 have a0:=hB.out.c0
 have a1:=hB.out.c1
 have a2:=hB.out.c2
 have a3:=hB.out.c3
 have a4:=hB.out.c4
 have b0:=hB2.out.c0
 have b1:=hB2.out.c1
 have b2:=hB2.out.c2
 have b3:=hB2.out.c3
 have b4:=hB2.out.c4
 have P3:=rsame_c hB.out.un hB2.out.un
 rw[sameU_self] at P3
 replace P3:=HD P3
 go_wp2_with (first | (go_at_call 19;((with_reducible refine P3.out.mono ?_);rintro e1 w3 ⟨rfl,hb3⟩)))
 go_ret
 exact⟨rfl,hbW.trans (hb3.mono hbW.size)⟩
theorem slF_some (g off n cap:Nat):SlF (.slice (some ⟨g,off,none⟩) n cap):=Or.inr ⟨_,_,_,_,rfl⟩
theorem RB.byv2 {w:World} {base:Nat} {v:Value} {T:List Int} (h:RB w base 5 v (bys T)) (hb:Bd8 T):ByV w v T:=by
 obtain⟨g,cap,cur,fr,rfl,_,hg,_,hc,hm,_,_⟩:=h.ex
 have hl:=bys_ln T
 refine⟨some ⟨g,0,none⟩,cap,by rw[hl],by rw[← hl];exact hc,hm,fun k x hx=>⟨hb x (List.mem_of_getElem? hx),g,0,rfl,?_⟩⟩
 have:=h.cells k (.int .u8 x) (by unfold bys;rw[List.getElem?_map,hx];rfl)
 rw[Addr.add_lit] at this
 simpa using this
theorem RB.form {w:World} {base:Nat} {v:Value} {T:List Int} (h:RB w base 5 v (bys T)):∃ g cap,v=.slice (some ⟨g,0,none⟩) T.length cap∧T.length≤cap∧cap≤maxLen:=by
 obtain⟨g,cap,cur,fr,rfl,_,_,_,hc,hm,_,_⟩:=h.ex
 have hl:=bys_ln T
 exact⟨g,cap,by rw[hl],by omega,hm⟩
theorem bytes_bdK {w:World} {v:Value} {U:UnitA} (h:UnK w v U):Bd8 (bytesU U):=by
 have hc:∀ m∈U.methods,Bd8 m.code:=fun m hm=>by
  obtain⟨na,nc,ca,cc,ma,mc,oa,oc,_,hU⟩:=h.ex
  obtain⟨k,hk⟩:=List.getElem?_of_mem hm
  obtain⟨ad,cap,_,_,_,h3⟩:=hU.m.ex
  obtain⟨_,_,_,_,_,_,_,_,_,_,_,_,q⟩:=h3 k m hk
  intro x hx
  obtain⟨i,hi⟩:=List.getElem?_of_mem hx
  obtain⟨ad',cap',e,_,_,h4⟩:=q.ex
  exact (h4 i x hi).1
 have app:∀ {A B:List Int},Bd8 A→Bd8 B→Bd8 (A++B):=fun h g x hx=>(List.mem_append.1 hx).elim (h x) (g x)
 have flat:∀ {T:Type} {f:T→List Int} (L:List T),(∀ x∈L,Bd8 (f x))→Bd8 ((L.map f).flatten):=fun L h x hx=>by
  obtain⟨l,hl,hxl⟩:=List.mem_flatten.1 hx
  obtain⟨y,hy,rfl⟩:=List.mem_map.1 hl
  exact h y hy x hxl
 have row:∀ {T:Type} {f:T→List Int} (L:List T),(∀ x∈L,Bd8 (f x))→Bd8 (rowB f L):=fun L h=>app (b4_bd _) (flat L h)
 have tx:∀ s,Bd8 (txt s):=fun s=>app (b4_bd _) (tby_bd _)
 have rp:∀ L,Bd8 (rowP L):=fun L=>by rw[rowP_eq];exact row L (fun x _=>app (b4_bd _) (b4_bd _))
 unfold bytesU bodyU
 refine app ?_ (app (app (app (app (row _ (fun s _=>tx s)) (row _ (fun c _=>app (app (app (tx _) (b4_bd _)) (b4_bd _)) (rp _)))) (row _ (fun m hm=>app (app (app (b4_bd _) (b4_bd _)) (rp _)) (app (b4_bd _) (hc m hm))))) (row _ (fun o _=>app (b4_bd _) (rp _)))) (b4_bd _))
 intro x hx
 simp only[List.mem_cons,List.not_mem_nil,or_false] at hx
 omega
set_option maxHeartbeats 32000000 in
theorem isame_c (K:RdK) {w:World} {u:Value} {U:UnitA} (hu:UnK w u U) :
  Calls Tryz.prog 10 #[u] w fun e w'=>e=.returned (.bool true)∧Below w.heap.size w w':=by
 have hbd:=HD (bytes_bdK hu)
 obtain⟨na,nc,ca,cc,ma,mc,oa,oc,l1,l2,l3,l4,rfl,hS,j1,j2,j3,j4⟩:=hu.v1
 clear hu
 have PB:=HD (fun (w':World) (h:UnK w' (.agg #[.slice na l1 nc,.slice ca l2 cc,.slice ma l3 mc,.slice oa l4 oc,.int .i64 U.main]) U)=>ibytes_c h)
 have PU:=HD (fun (w':World) (h:UnK w' (.agg #[.slice na l1 nc,.slice ca l2 cc,.slice ma l3 mc,.slice oa l4 oc,.int .i64 U.main]) U)=>runit_c h)
 have PS:=HD (fun (w':World) (h:UnK w' (.agg #[.slice na l1 nc,.slice ca l2 cc,.slice ma l3 mc,.slice oa l4 oc,.int .i64 U.main]) U)=>isize_c h)
 have PW:=HD (fun (w':World) (h:UnK w' (.agg #[.slice na l1 nc,.slice ca l2 cc,.slice ma l3 mc,.slice oa l4 oc,.int .i64 U.main]) U) (hz:(bytesU U).length≤500000)=>wbytes_c h hz)
 replace hS:=HD hS
 go_enter Tryz.func10,Tryz.ntmps10
 go_upto_region 1 with fail
 generalize w.alloc (.cells #[.slice na l1 nc,.slice ca l2 cc,.slice ma l3 mc,.slice oa l4 oc,.int .i64 U.main] 27)=W at *
 obtain⟨a0,a1,a2,a3,a4⟩:=hS.out.cells
 go_wp2_with fail
 with_reducible refine (PB.out _ hS.out.unk).mono ?_
 rintro e1 w2 ⟨h1,h2,hb2⟩
 replace hS:=HD (hS.out.up hb2)
 clear hb2 a0 a1 a2 a3 a4 PB
 obtain⟨a0,a1,a2,a3,a4⟩:=hS.out.cells
 by_cases hr:unitR U=0
 ·obtain⟨v',rfl,hrb⟩:=h1 hr
  obtain⟨g,cap,rfl,hc1,hc2⟩:=hrb.form
  have hby:=HD (hrb.byv2 hbd.out)
  have hz8:(bytesU U).length≤500000:=Nat.le_trans (bytes_le (right_u hr)) (by decide)
  have es:=HD (szU_y hr)
  have PS0:=HD (fun w' h=>by have:=PS.out w' h;rw[es.out] at this;exact this)
  have PU0:=HD (fun w' h=>by have:=PU.out w' h;rw[hr] at this;exact this)
  clear h1 h2 hr hrb PS PU
  go_upto_region 3 with (first | (go_at_call 25;((with_reducible refine (PU0.out _ hS.out.unk).mono ?_);rintro e1 w3 ⟨rfl,hb3⟩)))
  replace hS:=HD (hS.out.up hb3)
  replace hby:=HD (hby.out.up hb3)
  clear hb3 a0 a1 a2 a3 a4 PU0
  obtain⟨n,hn⟩:∃ n,n=(bytesU U).length:=⟨_,rfl⟩
  rw[← hn] at hby hc1
  have PS1:=HD (fun w' h=>by have:=PS0.out w' h;rw[← hn] at this;exact this)
  simp only[← hn]
  replace hn:=HD hn
  clear PS0
  go_upto_region 7 with fail
  have et:((textOf (bytesU U)).toList == (textOf (bytesU U)).toList)=true:=bl_eq rfl
  replace hS:=HD hS.out.drew
  replace hby:=HD (hby.out.up (Below.refl _ _).drew)
  refine wp_region_held_drew (S:=(fun y=>y.cell? ⟨w.heap.size,0,none⟩=some (.slice na l1 nc)∧y.cell? ⟨w.heap.size,1,none⟩=some (.slice ca l2 cc)∧y.cell? ⟨w.heap.size,2,none⟩=some (.slice ma l3 mc)∧y.cell? ⟨w.heap.size,3,none⟩=some (.slice oa l4 oc)∧y.cell? ⟨w.heap.size,4,none⟩=some (.int .i64 U.main)∧ByV y (.slice (some ⟨g,0,none⟩) n cap) (bytesU U))) (by kernel_rfl) ?_ (fun hHeld=>?_)
  ·(try dsimp only);exact⟨hS.out.cells.1,hS.out.cells.2.1,hS.out.cells.2.2.1,hS.out.cells.2.2.2.1,hS.out.cells.2.2.2.2,hby.out⟩
  try simp only[nA]
  generalize w3.drew=y0 at *
  refine tk (i:=0) (oi:=⟨some 26,.move (.tmp 3),36,"law.go:99",#[],none⟩) (hy:=by intro w hSw;(try dsimp only at hSw);obtain⟨s0,s1,s2,s3,s4,s5⟩:=hSw;go_simp <;> with_reducible rfl) ?_
  try simp only[nA]
  refine tk (i:=2) (oi:=⟨some 28,.load 27 (.tmp 1),27,"law.go:99",#[],none⟩) (hy:=by intro w hSw;(try dsimp only at hSw);obtain⟨s0,s1,s2,s3,s4,s5⟩:=hSw;go_simp <;> with_reducible rfl) ?_
  try simp only[nA]
  refine tk (i:=1) (oi:=⟨some 27,.convert 36 9 (.tmp 26),9,"law.go:99",#[⟨0,.data⟩],none⟩) (hy:=by intro w hSw;(try dsimp only at hSw);obtain⟨s0,s1,s2,s3,s4,s5⟩:=hSw;have s8:=by_text s5;go_simp <;> with_reducible rfl) ?_
  try simp only[nA]
  refine wpAnyH_ready (rs:=[3]) (by kernel_rfl) (by simp) ?_
  refine AllReadyH.cons (o:=⟨some 29,.call { callee:=.value (.func 12),args:=#[.tmp 28],argTypes:=#[27] },36,"law.go:99",#[⟨2,.data⟩],none⟩) rfl (fun K9 hK=>?_) AllReadyH.nil
  go_simp
  with_reducible refine (PW.out _ hS.out.unk hz8).mono ?_
  rintro e y1 ⟨v8,rfl,hrb8,hb8⟩
  have PT:=by_text (hrb8.byv2 hbd.out)
  replace hS:=HD (hS.out.up hb8)
  replace hby:=HD (hby.out.up hb8)
  clear PW hb8 hrb8
  go_wp2_with fail
  refine hK.out _ _ ?_ ?_
  ·(try dsimp only);exact⟨hS.out.cells.1,hS.out.cells.2.1,hS.out.cells.2.2.1,hS.out.cells.2.2.2.1,hS.out.cells.2.2.2.2,hby.out⟩
  clear hK K9 hHeld;intro hHeld
  try simp only[nA]
  refine wpAnyH_ready (rs:=[4]) (by kernel_rfl) (by simp) ?_
  refine AllReadyH.cons (o:=⟨some 30,.convert 36 9 (.tmp 29),9,"law.go:99",#[⟨3,.data⟩],none⟩) rfl (fun K9 hK=>?_) AllReadyH.nil
  go_simp
  refine hK.out _ _ ?_ ?_
  ·(try dsimp only);exact⟨hS.out.cells.1,hS.out.cells.2.1,hS.out.cells.2.2.1,hS.out.cells.2.2.2.1,hS.out.cells.2.2.2.2,hby.out⟩
  clear hK K9 hHeld;intro hHeld
  try simp only[nA]
  refine tk (i:=5) (oi:=⟨some 31,.binOp .eql 9 (.tmp 27) (.tmp 30) 9,4,"law.go:99",#[⟨1,.data⟩,⟨4,.data⟩],none⟩) (hy:=by intro w hSw;(try dsimp only at hSw);obtain⟨s0,s1,s2,s3,s4,s5⟩:=hSw;go_simp <;> with_reducible rfl) ?_
  try simp only[nA]
  refine tk (i:=6) (oi:=⟨some 32,.move (.tmp 31),4,"law.go:99",#[⟨5,.data⟩,⟨3,.chain⟩],none⟩) (hy:=by intro w hSw;(try dsimp only at hSw);obtain⟨s0,s1,s2,s3,s4,s5⟩:=hSw;go_simp <;> with_reducible rfl) ?_
  try simp only[nA]
  refine tk (i:=7) (oi:=⟨some 33,.load 27 (.tmp 1),27,"law.go:99",#[⟨6,.guard⟩],some (6,true)⟩) (hy:=by intro w hSw;(try dsimp only at hSw);obtain⟨s0,s1,s2,s3,s4,s5⟩:=hSw;go_simp <;> with_reducible rfl) ?_
  try simp only[nA]
  refine tk (i:=9) (oi:=⟨some 35,.move (.tmp 3),36,"law.go:99",#[⟨6,.guard⟩],some (6,true)⟩) (hy:=by intro w hSw;(try dsimp only at hSw);obtain⟨s0,s1,s2,s3,s4,s5⟩:=hSw;go_simp <;> with_reducible rfl) ?_
  try simp only[nA]
  refine tk (i:=10) (oi:=⟨some 36,.call { callee:=.builtin .len,args:=#[.tmp 35],argTypes:=#[36] },3,"law.go:99",#[⟨9,.data⟩,⟨6,.guard⟩],some (6,true)⟩) (hy:=by intro w hSw;(try dsimp only at hSw);obtain⟨s0,s1,s2,s3,s4,s5⟩:=hSw;go_simp <;> with_reducible rfl) ?_
  try simp only[nA]
  refine wpAnyH_ready (rs:=[8]) (by kernel_rfl) (by simp) ?_
  refine AllReadyH.cons (o:=⟨some 34,.call { callee:=.value (.func 20),args:=#[.tmp 33],argTypes:=#[27] },3,"law.go:99",#[⟨7,.data⟩,⟨6,.chain⟩,⟨6,.guard⟩],some (6,true)⟩) rfl (fun K9 hK=>?_) AllReadyH.nil
  go_simp
  with_reducible refine (PS1.out _ hS.out.unk).mono ?_
  rintro e y2 ⟨rfl,hb9⟩
  replace hS:=HD (hS.out.up hb9)
  replace hby:=HD (hby.out.up hb9)
  clear PS1 hb9
  go_wp2_with fail
  refine hK.out _ _ ?_ ?_
  ·(try dsimp only);exact⟨hS.out.cells.1,hS.out.cells.2.1,hS.out.cells.2.2.1,hS.out.cells.2.2.2.1,hS.out.cells.2.2.2.2,hby.out⟩
  clear hK K9 hHeld;intro hHeld
  try simp only[nA]
  refine tk (i:=11) (oi:=⟨some 37,.binOp .eql 3 (.tmp 34) (.tmp 36) 3,4,"law.go:99",#[⟨8,.data⟩,⟨10,.data⟩,⟨6,.guard⟩],some (6,true)⟩) (hy:=by intro w hSw;(try dsimp only at hSw);obtain⟨s0,s1,s2,s3,s4,s5⟩:=hSw;go_simp <;> with_reducible rfl) ?_
  try simp only[nA]
  refine tk (i:=12) (oi:=⟨some 38,.pick (.tmp 32) (.tmp 37) (.const (.bool false)),4,"law.go:99",#[⟨6,.data⟩,⟨11,.data⟩],none⟩) (hy:=by intro w hSw;(try dsimp only at hSw);obtain⟨s0,s1,s2,s3,s4,s5⟩:=hSw;go_simp <;> with_reducible rfl) ?_
  try simp only[nA]
  refine tk (i:=13) (oi:=⟨some 39,.move (.tmp 38),4,"law.go:99",#[⟨12,.data⟩,⟨8,.chain⟩],none⟩) (hy:=by intro w hSw;(try dsimp only at hSw);obtain⟨s0,s1,s2,s3,s4,s5⟩:=hSw;go_simp <;> with_reducible rfl) ?_
  try simp only[nA]
  refine tk (i:=14) (oi:=⟨some 40,.move (.tmp 3),36,"law.go:99",#[⟨13,.guard⟩],some (13,true)⟩) (hy:=by intro w hSw;(try dsimp only at hSw);obtain⟨s0,s1,s2,s3,s4,s5⟩:=hSw;go_simp <;> with_reducible rfl) ?_
  try simp only[nA]
  refine wpAnyH_ready (rs:=[15]) (by kernel_rfl) (by simp) ?_
  refine AllReadyH.cons (o:=⟨some 41,.call { callee:=.value (.func 13),args:=#[.tmp 40],argTypes:=#[36] },4,"law.go:99",#[⟨14,.data⟩,⟨13,.chain⟩,⟨13,.guard⟩],some (13,true)⟩) rfl (fun K9 hK=>?_) AllReadyH.nil
  go_simp
  with_reducible refine (reads_c K hby.out (slF_some ..)).mono ?_
  rintro e y3 ⟨rfl,hb10⟩
  replace hS:=HD (hS.out.up hb10)
  replace hby:=HD (hby.out.up hb10)
  clear hb10
  go_wp2_with fail
  refine hK.out _ _ ?_ ?_
  ·(try dsimp only);exact⟨hS.out.cells.1,hS.out.cells.2.1,hS.out.cells.2.2.1,hS.out.cells.2.2.2.1,hS.out.cells.2.2.2.2,hby.out⟩
  clear hK K9 hHeld;intro hHeld
  try simp only[nA]
  refine tk (i:=16) (oi:=⟨some 42,.pick (.tmp 39) (.tmp 41) (.const (.bool false)),4,"law.go:99",#[⟨13,.data⟩,⟨15,.data⟩],none⟩) (hy:=by intro w hSw;(try dsimp only at hSw);obtain⟨s0,s1,s2,s3,s4,s5⟩:=hSw;go_simp <;> with_reducible rfl) ?_
  try simp only[nA]
  refine tk (i:=17) (oi:=⟨some 2,.assign (.tmp 42),4,"law.go:99",#[⟨16,.data⟩,⟨15,.chain⟩,⟨0,.phase⟩,⟨1,.phase⟩,⟨2,.phase⟩,⟨3,.phase⟩,⟨4,.phase⟩,⟨5,.phase⟩,⟨6,.phase⟩,⟨7,.phase⟩,⟨8,.phase⟩,⟨9,.phase⟩,⟨10,.phase⟩,⟨11,.phase⟩,⟨12,.phase⟩,⟨13,.phase⟩,⟨14,.phase⟩,⟨15,.phase⟩,⟨16,.phase⟩],none⟩) (hy:=by intro w hSw;(try dsimp only at hSw);obtain⟨s0,s1,s2,s3,s4,s5⟩:=hSw;go_simp <;> with_reducible rfl) ?_
  try simp only[nA]
  refine wpAnyH_done (by kernel_rfl) ?_ _
  go_wp2
  go_ret
  exact⟨rfl,hS.out.bel⟩
 ·obtain rfl:=h2 hr
  have es:=HD (szU_n hr)
  have PS0:=HD (fun w' h=>by have:=PS.out w' h;rw[es.out] at this;exact this)
  have hr0:(unitR U != 0)=true:=by simpa using hr
  clear h1 h2 hr PS PW
  go_upto_region 3 with (first | (go_at_call 25;((with_reducible refine (PU.out _ hS.out.unk).mono ?_);rintro e1 w3 ⟨rfl,hb3⟩)))
  replace hS:=HD (hS.out.up hb3)
  clear hb3 a0 a1 a2 a3 a4 PU
  obtain⟨a0,a1,a2,a3,a4⟩:=hS.out.cells
  go_wp2_with (first | (go_at_call 20;((with_reducible refine (PS0.out _ hS.out.unk).mono ?_);rintro e1 w4 ⟨rfl,hb4⟩)))
  go_ret
  exact⟨rfl,(hS.out.up hb4).bel⟩
def kV:UnitA:=⟨[],[⟨⟨#[66]⟩,-1,4,[]⟩,⟨⟨#[65]⟩,-1,0,[]⟩],[⟨0,0,[],[3,0,14,0]⟩],[⟨1,[]⟩],0⟩
theorem kV_right:unitR kV=0:=by decide +kernel
theorem kV_len:4 < (bytesU kV).length:=by decide +kernel
theorem kV_four:(bytesU kV).take 4=[84,87,49,0]:=by decide +kernel
theorem kV_born {w:World} {s s1 s2 s3:Nat} (h0:w.heap[s]?=some (.cells #[.string ⟨#[66]⟩,.int .i64 (-1),.int .i64 4,.slice none 0 0,.string ⟨#[65]⟩,.int .i64 (-1),.int .i64 0,.slice none 0 0] 60 (0,0))) (h1:w.heap[s1]?=some (.cells #[.int .u8 3,.int .u8 0,.int .u8 14,.int .u8 0] 5 (0,0))) (h2:w.heap[s2]?=some (.cells #[.int .i64 0,.int .i64 0,.slice none 0 0,.slice (some ⟨s1,0,none⟩) 4 4] 63 (0,0))) (h3:w.heap[s3]?=some (.cells #[.int .i64 1,.slice none 0 0] 55 (0,0))):UnK w (.agg #[.slice none 0 0,.slice (some ⟨s,0,none⟩) 2 2,.slice (some ⟨s2,0,none⟩) 1 1,.slice (some ⟨s3,0,none⟩) 1 1,.int .i64 0]) kV:=by
 have hb:ByV w (.slice (some ⟨s1,0,none⟩) 4 4) [3,0,14,0]:=by
  refine⟨_,4,rfl,by simp,by decide,fun k x hx=>?_⟩
  have hk:k < 4:=by have:=(List.getElem?_eq_some_iff.1 hx).1;simpa using this
  rcases (show k=0∨k=1∨k=2∨k=3 by omega) with rfl | rfl | rfl | rfl <;> (simp at hx;subst hx;exact⟨by omega,_,0,rfl,cell_in h1 rfl⟩)
 have hn:∀ u:World,PrV u (.slice none 0 0) []:=fun u=>⟨none,0,rfl,by simp,by decide,fun k x hx=>by simp at hx⟩
 refine⟨⟨none,0,some ⟨s,0,none⟩,2,some ⟨s2,0,none⟩,1,some ⟨s3,0,none⟩,1,rfl,?_⟩⟩
 refine⟨⟨none,0,rfl,by decide,by decide,fun k x h=>by simp[kV] at h⟩,⟨_,2,rfl,by decide,by decide,fun k x hx=>?_⟩,⟨_,1,rfl,by decide,by decide,fun k x hx=>?_⟩,⟨_,1,rfl,by decide,by decide,fun k x hx=>?_⟩⟩
 ·have hk:k < 2:=by have:=(List.getElem?_eq_some_iff.1 hx).1;simpa [kV] using this
  rcases (show k=0∨k=1 by omega) with rfl | rfl <;> (simp[kV] at hx;subst hx;exact⟨i64s (by simp) (by simp),i64s (by simp) (by simp),_,0,_,rfl,cell_in h0 rfl,cell_in h0 rfl,cell_in h0 rfl,cell_in h0 rfl,hn _⟩)
 ·have hk:k < 1:=by have:=(List.getElem?_eq_some_iff.1 hx).1;simpa [kV] using this
  obtain rfl:k=0:=by omega
  simp[kV] at hx;subst hx
  exact⟨i64s (by simp) (by simp),i64s (by simp) (by simp),_,0,_,_,rfl,cell_in h2 rfl,cell_in h2 rfl,cell_in h2 rfl,cell_in h2 rfl,hn _,hb⟩
 ·have hk:k < 1:=by have:=(List.getElem?_eq_some_iff.1 hx).1;simpa [kV] using this
  obtain rfl:k=0:=by omega
  simp[kV] at hx;subst hx
  exact⟨i64s (by simp) (by simp),_,0,_,rfl,cell_in h3 rfl,cell_in h3 rfl,hn _⟩
theorem alloc5 (w:World) (o0 o1 o2 o3 o4:Obj):(((((w.alloc o0).alloc o1).alloc o2).alloc o3).alloc o4).heap[w.heap.size]?=some o0∧(((((w.alloc o0).alloc o1).alloc o2).alloc o3).alloc o4).heap[w.heap.size+1]?=some o1∧(((((w.alloc o0).alloc o1).alloc o2).alloc o3).alloc o4).heap[w.heap.size+1+1]?=some o2∧(((((w.alloc o0).alloc o1).alloc o2).alloc o3).alloc o4).heap[w.heap.size+1+1+1]?=some o3∧(((((w.alloc o0).alloc o1).alloc o2).alloc o3).alloc o4).heap[w.heap.size+1+1+1+1]?=some o4∧Below w.heap.size w (((((w.alloc o0).alloc o1).alloc o2).alloc o3).alloc o4):=by
 obtain⟨e0,e1,e2,e3,e4,_,hb⟩:=alloc6 w o0 o1 o2 o3 o4 o4
 have b5:=(Below.refl (((((w.alloc o0).alloc o1).alloc o2).alloc o3).alloc o4).heap.size (((((w.alloc o0).alloc o1).alloc o2).alloc o3).alloc o4)).alloc (Nat.le_refl _) o4
 have hz:(((((w.alloc o0).alloc o1).alloc o2).alloc o3).alloc o4).heap.size=w.heap.size+1+1+1+1+1:=by simp
 refine⟨(b5.block _ (by omega)).symm.trans e0,(b5.block _ (by omega)).symm.trans e1,(b5.block _ (by omega)).symm.trans e2,(b5.block _ (by omega)).symm.trans e3,(b5.block _ (by omega)).symm.trans e4,?_⟩
 exact ((((Below.refl _ _).alloc (Nat.le_refl _) _).alloc (by simp only[World.size_alloc];omega) _).alloc (by simp only[World.size_alloc];omega) _).alloc (by simp only[World.size_alloc];omega) _ |>.alloc (by simp only[World.size_alloc];omega) _
theorem rdA_good {w:World} {b:List Int} {e:Ending} {U:UnitA} (h:RdA w b e) (g:Good b U):∃ na nc ka kc ma mc oa oc,e=.returned (.tuple #[.agg #[.slice na U.names.length nc,.slice ka U.classes.length kc,.slice ma U.methods.length mc,.slice oa U.objects.length oc,.int .i64 U.main],.int .i64 0])∧UnK w (.agg #[.slice na U.names.length nc,.slice ka U.classes.length kc,.slice ma U.methods.length mc,.slice oa U.objects.length oc,.int .i64 U.main]) U:=by
 rcases h with ⟨V,v,g2,rfl,k⟩ | ⟨n,_⟩
 ·obtain rfl:=good_one g g2
  obtain⟨na,nc,ca,cc,ma,mc,oa,oc,rfl,_⟩:=k.ex
  exact⟨na,nc,ca,cc,ma,mc,oa,oc,rfl,k⟩
 ·exact absurd g (n U)
theorem rdA_none {w:World} {b:List Int} {e:Ending} (h:RdA w b e) (n:∀ U,¬ Good b U):e=.returned (.tuple #[zUv,.int .i64 (errB b)]):=by
 rcases h with ⟨V,v,g2,_,_⟩ | ⟨_,e⟩
 ·exact absurd g2 (n V)
 ·exact e
theorem bs_nil:∀ U,¬ Good [] U:=fun U h=>by
 have h2:=h.2
 unfold bytesU at h2
 cases h2
theorem z65_no:∀ U,¬ Good (List.replicate 65537 0) U:=fun U h=>by
 have:=good_le h
 rw[List.length_replicate] at this
 omega
theorem z65_err:errB (List.replicate 65537 0)=3:=errB_long (by rw[List.length_replicate];omega)
theorem made_byv {w:World} {n:Nat} (hn:n≤maxLen):ByV (w.alloc (.cells (madeCells (.int .u8 0:Value).cells (n*1)) 5)) (.slice (some ⟨w.heap.size,0,none⟩) n n) (List.replicate n 0):=by
 refine⟨some ⟨w.heap.size,0,none⟩,n,by rw[List.length_replicate],by rw[List.length_replicate];exact Nat.le_refl _,hn,fun k x hx=>?_⟩
 have hk:k < n:=by have:=(List.getElem?_eq_some_iff.1 hx).1;rwa [List.length_replicate] at this
 rw[List.getElem?_replicate,if_pos hk] at hx
 obtain rfl:=Option.some.inj hx
 refine⟨by omega,w.heap.size,0,rfl,?_⟩
 rw[Nat.zero_add]
 refine (World.cell?_alloc_new _ _ _ k).trans ?_
 unfold madeCells
 simp[Value.cells,hk,Nat.mod_one]
theorem run_mk65 (w:World):(Instr.makeSlice 36 (.int .i64 65537) (.int .i64 65537)).run Tryz.prog w=.ok (.slice (some ⟨w.heap.size,0,none⟩) 65537 65537) (w.alloc (.cells (madeCells (.int .u8 0:Value).cells (65537*1)) 5)):=by
 obtain⟨i0,hi0,hz0,hz1,hz2⟩:=info_parts infoB8
 have h:=run_makeSlice (P:=Tryz.prog) w 36 5 i0 (.int .u8 0) Tryz.underlying36 hi0 hz0 .i64 .i64 65537 65537 (by omega) (by omega) (by rw[hz1];decide) (by rw[hz2];decide) (by decide)
 rw[hz1] at h
 exact h
theorem mk65 (w:World):∃ w' b,(Instr.makeSlice 36 (.int .i64 65537) (.int .i64 65537)).run Tryz.prog w=.ok (.slice (some ⟨w.heap.size,0,none⟩) 65537 65537) w'∧ByV w' (.slice (some ⟨w.heap.size,0,none⟩) 65537 65537) b∧Below w.heap.size w w'∧(∀ U,¬ Good b U)∧errB b=3 :=
 ⟨_,_,run_mk65 w,made_byv (by decide),(Below.refl w.heap.size w).alloc (Nat.le_refl _) _,z65_no,z65_err⟩
abbrev KnV (w:World) (s s2 s3 q:Nat):Prop:=UnB w q (.agg #[.slice none 0 0,.slice (some ⟨s,0,none⟩) 2 2,.slice (some ⟨s2,0,none⟩) 1 1,.slice (some ⟨s3,0,none⟩) 1 1,.int .i64 0]) kV none (some ⟨s,0,none⟩) (some ⟨s2,0,none⟩) (some ⟨s3,0,none⟩) 0 2 1 1
set_option maxHeartbeats 32000000 in
theorem iknown_c (w:World):Calls Tryz.prog 14 #[] w fun e w'=>e=.returned (.bool true)∧Below w.heap.size w w':=by
 obtain⟨e0,e1,e2,e3,e4,hb⟩:=alloc5 w (.cells #[.string ⟨#[66]⟩,.int .i64 (-1),.int .i64 4,.slice none 0 0,.string ⟨#[65]⟩,.int .i64 (-1),.int .i64 0,.slice none 0 0] 60) (.cells #[.int .u8 3,.int .u8 0,.int .u8 14,.int .u8 0] 5) (.cells #[.int .i64 0,.int .i64 0,.slice none 0 0,.slice (some ⟨w.heap.size+1,0,none⟩) 4 4] 63) (.cells #[.int .i64 1,.slice none 0 0] 55) (.cells #[.slice none 0 0,.slice (some ⟨w.heap.size,0,none⟩) 2 2,.slice (some ⟨w.heap.size+1+1,0,none⟩) 1 1,.slice (some ⟨w.heap.size+1+1+1,0,none⟩) 1 1,.int .i64 0] 27)
 have hA:KnV (((((w.alloc (.cells #[.string ⟨#[66]⟩,.int .i64 (-1),.int .i64 4,.slice none 0 0,.string ⟨#[65]⟩,.int .i64 (-1),.int .i64 0,.slice none 0 0] 60)).alloc (.cells #[.int .u8 3,.int .u8 0,.int .u8 14,.int .u8 0] 5)).alloc (.cells #[.int .i64 0,.int .i64 0,.slice none 0 0,.slice (some ⟨w.heap.size+1,0,none⟩) 4 4] 63)).alloc (.cells #[.int .i64 1,.slice none 0 0] 55)).alloc (.cells #[.slice none 0 0,.slice (some ⟨w.heap.size,0,none⟩) 2 2,.slice (some ⟨w.heap.size+1+1,0,none⟩) 1 1,.slice (some ⟨w.heap.size+1+1+1,0,none⟩) 1 1,.int .i64 0] 27)) w.heap.size (w.heap.size+1+1) (w.heap.size+1+1+1) (w.heap.size+1+1+1+1):=⟨rfl,cells_at e4 rfl,cells_at e4 rfl,cells_at e4 rfl,cells_at e4 rfl,cells_at e4 rfl,kV_born e0 e1 e2 e3⟩
 have hA2:=HD (And.intro hA hb)
 clear e0 e1 e2 e3 e4 hA hb
 have kr:=kV_right
 have kl:=kV_len
 have kf:=kV_four
 go_enter Tryz.func14,Tryz.ntmps14
 go_upto_region 2 with fail
 generalize (((((w.alloc (.cells #[.string ⟨#[66]⟩,.int .i64 (-1),.int .i64 4,.slice none 0 0,.string ⟨#[65]⟩,.int .i64 (-1),.int .i64 0,.slice none 0 0] 60)).alloc (.cells #[.int .u8 3,.int .u8 0,.int .u8 14,.int .u8 0] 5)).alloc (.cells #[.int .i64 0,.int .i64 0,.slice none 0 0,.slice (some ⟨w.heap.size+1,0,none⟩) 4 4] 63)).alloc (.cells #[.int .i64 1,.slice none 0 0] 55)).alloc (.cells #[.slice none 0 0,.slice (some ⟨w.heap.size,0,none⟩) 2 2,.slice (some ⟨w.heap.size+1+1,0,none⟩) 1 1,.slice (some ⟨w.heap.size+1+1+1,0,none⟩) 1 1,.int .i64 0] 27))=W0 at *
 generalize w.heap.size+1+1+1+1=q at *
 generalize w.heap.size+1+1+1=s3 at *
 generalize w.heap.size+1+1=s2 at *
 generalize hs0:w.heap.size+1=s1 at *
 clear hs0
 have hA:=HD hA2.out.1
 have hb:=HD hA2.out.2
 clear hA2
 have hG:Good (bytesU kV) kV:=⟨kr,rfl⟩
 have hbd:=bytes_bdK hA.out.un
 have a0:W0.cell? ⟨q,0,none⟩=some (.slice none 0 0):=hA.out.c0
 have a1:W0.cell? ⟨q,1,none⟩=some (.slice (some ⟨w.heap.size,0,none⟩) 2 2):=hA.out.c1
 have a2:W0.cell? ⟨q,2,none⟩=some (.slice (some ⟨s2,0,none⟩) 1 1):=hA.out.c2
 have a3:W0.cell? ⟨q,3,none⟩=some (.slice (some ⟨s3,0,none⟩) 1 1):=hA.out.c3
 have a4:W0.cell? ⟨q,4,none⟩=some (.int .i64 0):=hA.out.c4
 have P:=HD (ibytes_c hA.out.un)
 go_wp2_with fail
 with_reducible refine P.out.mono ?_
 rintro e1 w1 ⟨h1,_,hb1⟩
 obtain⟨v',rfl,hrb⟩:=h1 kr
 obtain⟨g,cap,rfl,hc1,hc2⟩:=hrb.form
 have hby:=hrb.byv2 hbd
 have es:=szU_y kr
 generalize hB:bytesU kV=B at *
 obtain⟨n,hn⟩:∃ n,n=B.length:=⟨_,rfl⟩
 rw[← hn] at hby hc1 kl es ⊢
 have hnB:=HD hn
 have PT0:=HD (by_text (ByV.take hby 4 (by omega)))
 replace hby:=HD hby
 replace hA:=HD (hA.out.up hb1)
 replace hb:=HD (hb.out.trans (hb1.mono hb.out.size))
 replace es:=HD es
 replace hG:=HD hG
 replace hbd:=HD hbd
 replace kf:=HD kf
 clear h1 hrb P hb1 hn kr hB
 clear a0 a1 a2 a3 a4
 have P:=HD (iread_c hby.out (slF_some ..))
 go_wp2_with fail
 with_reducible refine P.out.mono ?_
 rintro e1 w2 ⟨h1,hb2⟩
 obtain⟨na,nc,ka,kc,ma,mc,oa,oc,he,hk⟩:=rdA_good h1 hG.out
 replace he:e1=.returned (.tuple #[.agg #[.slice na 0 nc,.slice ka 2 kc,.slice ma 1 mc,.slice oa 1 oc,.int .i64 0],.int .i64 0]):=he
 subst he
 replace hk:UnK w2 (.agg #[.slice na 0 nc,.slice ka 2 kc,.slice ma 1 mc,.slice oa 1 oc,.int .i64 0]) kV:=hk
 have hV:Hid (UnB (w2.alloc (.cells #[.slice na 0 nc,.slice ka 2 kc,.slice ma 1 mc,.slice oa 1 oc,.int .i64 0] 27)) w2.heap.size _ kV na ka ma oa nc kc mc oc):=HD (UnB.born (U:=kV) hk)
 have hbx:=(Below.refl w2.heap.size w2).alloc (Nat.le_refl _) (.cells #[.slice na 0 nc,.slice ka 2 kc,.slice ma 1 mc,.slice oa 1 oc,.int .i64 0] 27)
 have hb3:=hb2.trans (hbx.mono hb2.size)
 replace hA:=HD (hA.out.up hb3)
 replace hby:=HD (hby.out.up hb3)
 replace hb:=HD (hb.out.trans (hb3.mono hb.out.size))
 clear h1 hk P hb2 hb3 hbx hG
 go_upto_region 4 with fail
 obtain⟨Q,hQ⟩:∃ Q,w2.heap.size=Q:=⟨_,rfl⟩
 obtain⟨W2,hW2⟩:∃ W,w2.alloc (.cells #[.slice na 0 nc,.slice ka 2 kc,.slice ma 1 mc,.slice oa 1 oc,.int .i64 0] 27)=W:=⟨_,rfl⟩
 rw[hW2,hQ] at hV
 rw[hW2] at hA hby hb
 try simp only[hW2,hQ]
 clear hW2 hQ
 have P:=HD (iread_c (byv_nil (w:=W2) (ad:=none)) (Or.inl ⟨none,rfl⟩))
 have e12:errB []=12:=errB_short (by decide)
 go_wp2_with fail
 with_reducible refine P.out.mono ?_
 rintro e1 w3 ⟨h1,hb3⟩
 have h1':=rdA_none h1 bs_nil
 rw[e12] at h1'
 subst h1'
 have hb4:=hb3.trans (((Below.refl w3.heap.size w3).alloc (Nat.le_refl _) (.cells #[.slice none 0 0,.slice none 0 0,.slice none 0 0,.slice none 0 0,.int .i64 0] 27)).mono hb3.size)
 replace hA:=HD (hA.out.up hb4)
 replace hV:=HD (hV.out.up hb4)
 replace hby:=HD (hby.out.up hb4)
 replace hb:=HD (hb.out.trans (hb4.mono hb.out.size))
 clear h1 P hb3 hb4 e12
 go_upto_region 5 with fail
 generalize w3.alloc (.cells #[.slice none 0 0,.slice none 0 0,.slice none 0 0,.slice none 0 0,.int .i64 0] 27)=W3 at *
 have P:=HD (ibytes_c (zU_k W3))
 go_wp2_with fail
 with_reducible refine P.out.mono ?_
 rintro e1 w4 ⟨_,h2,hb5⟩
 have h2':=h2 (by rw[zU_right];decide)
 rw[zU_right] at h2'
 subst h2'
 replace hA:=HD (hA.out.up hb5)
 replace hV:=HD (hV.out.up hb5)
 replace hby:=HD (hby.out.up hb5)
 replace hb:=HD (hb.out.trans (hb5.mono hb.out.size))
 clear h2 P hb5
 go_upto_region 6 with fail
 obtain⟨w5,bz,hmk,hbz,hb6,hno,herr⟩:=mk65 w4
 have P:=HD (iread_c hbz (slF_some ..))
 clear hbz
 go_wp2_with fail
 clear hmk
 with_reducible refine P.out.mono ?_
 rintro e1 w6 ⟨h1,hb7⟩
 have h1':=rdA_none h1 hno
 rw[herr] at h1'
 subst h1'
 have hb8:=(hb6.trans (hb7.mono hb6.size))
 have hb9:=hb8.trans (((Below.refl w6.heap.size w6).alloc (Nat.le_refl _) (.cells #[.slice none 0 0,.slice none 0 0,.slice none 0 0,.slice none 0 0,.int .i64 0] 27)).mono hb8.size)
 replace hA:=HD (hA.out.up hb9)
 replace hV:=HD (hV.out.up hb9)
 replace hby:=HD (hby.out.up hb9)
 replace hb:=HD (hb.out.trans (hb9.mono hb.out.size))
 clear h1 P hb6 hb7 hb8 hb9 hno herr
 go_upto_region 7 with fail
 generalize w6.alloc (.cells #[.slice none 0 0,.slice none 0 0,.slice none 0 0,.slice none 0 0,.int .i64 0] 27)=W6 at *
 have a0:W6.cell? ⟨q,0,none⟩=some (.slice none 0 0):=hA.out.c0
 have a1:W6.cell? ⟨q,1,none⟩=some (.slice (some ⟨w.heap.size,0,none⟩) 2 2):=hA.out.c1
 have a2:W6.cell? ⟨q,2,none⟩=some (.slice (some ⟨s2,0,none⟩) 1 1):=hA.out.c2
 have a3:W6.cell? ⟨q,3,none⟩=some (.slice (some ⟨s3,0,none⟩) 1 1):=hA.out.c3
 have a4:W6.cell? ⟨q,4,none⟩=some (.int .i64 0):=hA.out.c4
 have b0:W6.cell? ⟨Q,0,none⟩=some (.slice na 0 nc):=hV.out.c0
 have b1:W6.cell? ⟨Q,1,none⟩=some (.slice ka 2 kc):=hV.out.c1
 have b2:W6.cell? ⟨Q,2,none⟩=some (.slice ma 1 mc):=hV.out.c2
 have b3:W6.cell? ⟨Q,3,none⟩=some (.slice oa 1 oc):=hV.out.c3
 have b4:W6.cell? ⟨Q,4,none⟩=some (.int .i64 0):=hV.out.c4
 have hVu:UnK W6 (.agg #[.slice na 0 nc,.slice ka 2 kc,.slice ma 1 mc,.slice oa 1 oc,.int .i64 0]) kV:=hV.out.un
 have P3:=rsame_c hA.out.un hVu
 rw[sameU_self] at P3
 replace P3:=HD P3
 clear PT0
 go_wp2_with fail
 with_reducible refine P3.out.mono ?_
 rintro e1 w7 ⟨rfl,hb7⟩
 replace hA:=HD (hA.out.up hb7)
 replace hby:=HD (hby.out.up hb7)
 replace hb:=HD (hb.out.trans (hb7.mono hb.out.size))
 clear hV hb7 P3 a0 a1 a2 a3 a4 b0 b1 b2 b3 b4
 have a0:w7.cell? ⟨q,0,none⟩=some (.slice none 0 0):=hA.out.c0
 have a1:w7.cell? ⟨q,1,none⟩=some (.slice (some ⟨w.heap.size,0,none⟩) 2 2):=hA.out.c1
 have a2:w7.cell? ⟨q,2,none⟩=some (.slice (some ⟨s2,0,none⟩) 1 1):=hA.out.c2
 have a3:w7.cell? ⟨q,3,none⟩=some (.slice (some ⟨s3,0,none⟩) 1 1):=hA.out.c3
 have a4:w7.cell? ⟨q,4,none⟩=some (.int .i64 0):=hA.out.c4
 have P4:=isize_c hA.out.un
 rw[es.out] at P4
 replace P4:=HD P4
 go_wp2_with fail
 with_reducible refine P4.out.mono ?_
 rintro e1 w8 ⟨rfl,hb8⟩
 replace hby:=HD (hby.out.up hb8)
 replace hb:=HD (hb.out.trans (hb8.mono hb.out.size))
 clear hA hb8 P4 a0 a1 a2 a3 a4
 have PT:=by_text (ByV.take hby.out 4 (by have:=hnB.out;omega))
 rw[kf.out] at PT
 have et:((textOf [84,87,49,0]).toList == [84,87,49,0])=true:=by
  have e:=(text_mark (T:=[84,87,49,0]) (fun x hx=>by simp only[List.mem_cons,List.not_mem_nil,or_false] at hx;omega)).2 rfl
  have e9:(textOf [84,87,49,0]).toList=[84,87,49,0]:=by rw[e];exact mark_list
  rw[e9];decide
 have d4:decide ((4:Int) < (n:Int))=true:=by simp;omega
 have d4':decide (4 < n)=true:=by simp;omega
 have i4:4≤n:=by omega
 have i4':4≤cap:=by omega
 have P5:=isize_c (zU_k w8)
 rw[szU_n (by rw[zU_right];decide)] at P5
 replace P5:=HD P5
 go_wp2_with fail
 with_reducible refine P5.out.mono ?_
 rintro e1 w9 ⟨rfl,hb9⟩
 go_wp2
 go_ret
 exact⟨rfl,hb.out.trans (hb9.mono hb.out.size)⟩
end Wd
end Go.Proofs.YtgfnelhbdhbklaaGreat
