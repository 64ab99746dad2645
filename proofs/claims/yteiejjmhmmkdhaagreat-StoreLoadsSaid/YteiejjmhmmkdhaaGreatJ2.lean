/- Texts joined: KM0, KU0, KU1, KU2, KW. -/
import Derived.Test.YteiejjmhmmkdhaaGreatJ1
/- A tape's method: what is known while it is written. -/
namespace Go.Proofs.YteiejjmhmmkdhaaGreat
open Go.RowKit
set_option linter.unusedVariables false
set_option maxRecDepth 20000
namespace Wd
theorem pieceOk_len {l:List (Int × Int)} (h:pieceOk l):l.length≤5:=by
 unfold pieceOk at h
 rcases h with h | h | h | h | h | h | h | h | h | h | h | h | h | h | h | h | h | h
 ·obtain⟨_,_,rfl⟩:=h;simp
 ·obtain⟨_,_,rfl⟩:=h;simp
 ·obtain⟨_,_,_,_,rfl⟩:=h;simp
 ·obtain⟨_,_,_,_,_,_,rfl⟩:=h;simp
 ·obtain⟨_,_,_,_,rfl⟩:=h;simp
 ·obtain⟨_,_,_,_,rfl⟩:=h;simp
 ·obtain⟨_,_,_,_,_,_,_,_,rfl⟩:=h;simp
 ·obtain⟨_,_,_,_,rfl⟩:=h;simp
 ·cases h;simp
 ·obtain⟨_,_,rfl⟩:=h;simp
 ·obtain⟨_,_,rfl⟩:=h;simp
 ·obtain⟨_,_,_,_,rfl⟩:=h;simp
 ·obtain⟨_,_,rfl⟩:=h;simp
 ·obtain⟨_,_,_,_,rfl⟩:=h;simp
 ·obtain⟨_,_,rfl⟩:=h;simp
 ·obtain⟨_,_,rfl⟩:=h;simp
 ·obtain⟨_,_,_,_,rfl⟩:=h;simp
 ·obtain⟨_,_,_,_,rfl⟩:=h;simp
theorem flat_len (l:List (Int × Int)):(flat l).length=2*l.length:=by
 unfold flat
 induction l with
 | nil=>rfl
 | cons x l ih=>simp only [List.flatMap_cons,List.length_append,List.length_cons,List.length_nil,ih];omega
theorem flat_app (a b:List (Int × Int)):flat (a++b)=flat a++flat b:=by simp [flat]
structure codeOk (block:Bool) (I:List (Int × Int)):Prop where
 mk ::
 ex:∃ (P:List (List (Int × Int))) (S:List (Int × Int)) (q r l:Int),I=P.flatten++S++[(wr8 q,wr8 r),(wr8 l,wr8 0)]∧1≤P.length∧P.length≤5∧(∀ x∈P,pieceOk x)∧(S=[]∨S=[(wr8 3,wr8 0),(wr8 13,wr8 4)])∧(q=7∨q=3∨q=4∨q=0)∧(r=0∨r=1)∧(l=14∨(block=true∧l=19))
theorem flatten_len (P:List (List (Int × Int))) (h:∀ x∈P,pieceOk x):P.flatten.length≤5*P.length:=by
 induction P with
 | nil=>simp
 | cons x P ih =>
  have:=ih (fun y hy=>h y (by simp [hy]))
  have:=pieceOk_len (h x (by simp))
  simp only [List.flatten_cons,List.length_append,List.length_cons];omega
structure Md (w0 w wr:World) (p n:Nat) (ad:Option Addr) (B:Nat) (args:Int) (lv:Value) (X:List (Int × Int)) (v3 v:Value) (C:List Int):Prop where
 ks:Ks w0 wr p n ad
 cg:Cg (fun k=>k=p) w wr
 s0:w0.heap.size≤w.heap.size
 cd:wr.ownsRow w.heap.size 5 1 v C.length (bys C)
 lr:wr.ownsRow w.heap.size 80 2 lv 14 (pr2 X)
 c0:wr.cell? ⟨B,0,none⟩=some (.int .i64 args)
 c1:wr.cell? ⟨B,1,none⟩=some (.int .i64 2)
 c2:wr.cell? ⟨B,2,none⟩=some lv
 c3:wr.cell? ⟨B,3,none⟩=some v3
 z:∀ j,wr.frozen? ⟨B,j,none⟩=false
 bB:w.heap.size≤B
 nl:lv.ownBlock≠some B
 nv:v.ownBlock≠some B
 nn:∀ k,lv.ownBlock=some k→v.ownBlock≠some k
section
variable {w0 w w1 w2:World} {p n B:Nat} {ad:Option Addr} {args:Int} {lv v3 v v':Value} {X:List (Int × Int)} {C C':List Int}
theorem Md.lt (h:Md w0 w w1 p n ad B args lv X v3 v C):B < w1.heap.size:=World.block_lt_of_cell? w1 _ h.c0
theorem Md.np (h:Md w0 w w1 p n ad B args lv X v3 v C):B≠p:=by have:=h.bB;have:=h.s0;have:=h.ks.p0;omega
theorem Md.far (h:Md w0 w w1 p n ad B args lv X v3 v C) (ks:Ks w0 w2 p n ad) (cg:Cg (fun k=>k=p) w w2) (cd:w2.ownsRow w.heap.size 5 1 v' C'.length (bys C')) (hB:w2.heap[B]?=w1.heap[B]?) (hl:∀ k,lv.ownBlock=some k→w2.heap[k]?=w1.heap[k]?) (nv:v'.ownBlock≠some B) (nn:∀ k,lv.ownBlock=some k→v'.ownBlock≠some k):Md w0 w w2 p n ad B args lv X v3 v' C':=by
 refine⟨ks,cg,h.s0,cd,?_,(World.cell?_of_block (a:=⟨B,0,none⟩) hB).trans h.c0,(World.cell?_of_block (a:=⟨B,1,none⟩) hB).trans h.c1,(World.cell?_of_block (a:=⟨B,2,none⟩) hB).trans h.c2,(World.cell?_of_block (a:=⟨B,3,none⟩) hB).trans h.c3,fun j=>(World.frozen?_of_block (a:=⟨B,j,none⟩) hB).trans (h.z j),h.bB,h.nl,nv,nn⟩
 obtain⟨h1,h2⟩:=h.lr
 refine⟨h1,?_⟩
 rcases h2 with hh | ⟨g,cap,cur,e1,e2,e3,e4⟩
 ·exact Or.inl hh
 ·exact Or.inr ⟨g,cap,cur,e1,e2,(hl g (by rw [e1];rfl)).trans e3,e4⟩
theorem Md.next (h:Md w0 w w1 p n ad B args lv X v3 v C) (t:Tp w2 p ad n) (c:Cg (fun k=>k=p) w1 w2):Md w0 w w2 p n ad B args lv X v3 v C:=by
 have hp:∀ k,w.heap.size≤k→k < w1.heap.size→w2.heap[k]?=w1.heap[k]?:=fun k h1 h2=>c.block k h2 (fun e=>by have:=h.s0;have:=h.ks.p0;omega)
 refine h.far (h.ks.step t c) (h.cg.trans c) ?_ (hp B h.bB h.lt) (fun k hk=>hp k (h.lr.lt k hk).1 (h.lr.lt k hk).2) h.nv h.nn
 exact row_cg h.cd c (fun k hk e=>by have:=(h.cd.lt k hk).1;have:=h.s0;have:=h.ks.p0;omega)
theorem Md.keep (h:Md w0 w w1 p n ad B args lv X v3 v C) (b:Below w1.heap.size w1 w2):Md w0 w w2 p n ad B args lv X v3 v C :=
 h.far (h.ks.keep b) (h.cg.trans (Cg.below _ b)) (row_cg (F:=fun _=>False) h.cd (Cg.below _ b) (fun _ _ hf=>hf)) (b.block B h.lt) (fun k hk=>b.block k (h.lr.lt k hk).2) h.nv h.nn
theorem Md.pc (h:Md w0 w w1 p n ad B args lv X v3 v C):Pc w0 w1 w1 p n ad v v C :=
 Pc.start h.ks (by
  obtain⟨h1,h2⟩:=h.cd
  refine⟨h1,?_⟩
  rcases h2 with hh | ⟨g,cap,cur,e1,e2,e3⟩
  ·exact Or.inl hh
  ·exact Or.inr ⟨g,cap,cur,e1,Nat.le_trans h.s0 e2,e3⟩)
theorem row_base {w:World} {b b' size len:Nat} {e:TypeId} {v:Value} {xs:List Value} (h:w.ownsRow b e size v len xs) (hb:∀ k,v.ownBlock=some k→b'≤k):w.ownsRow b' e size v len xs:=by
 obtain⟨h1,h2⟩:=h
 refine⟨h1,?_⟩
 rcases h2 with hh | ⟨g,cap,cur,e1,e2,e3⟩
 ·exact Or.inl hh
 ·exact Or.inr ⟨g,cap,cur,e1,hb g (by rw [e1];rfl),e3⟩
theorem Md.code (h:Md w0 w w1 p n ad B args lv X v3 v C) (q:Pc w0 w1 w2 p n ad v v' C'):Md w0 w w2 p n ad B args lv X v3 v' C':=by
 have hb:∀ k,v'.ownBlock=some k→v.ownBlock=some k∨w1.heap.size≤k:=q.ob
 have hs:=h.cg.size
 refine h.far q.ks (h.cg.trans' q.cg (fun k hk=>?_)) (row_base q.cd (fun k hk=>?_)) (q.cg.block B h.lt (fun e=>?_)) (fun k hk=>q.cg.block k (h.lr.lt k hk).2 (fun e=>?_)) (fun e=>?_) (fun k hk e=>?_)
 ·rcases hk with e | e
  ·exact Or.inl e
  ·exact Or.inr (h.cd.lt k e).1
 ·rcases hb k hk with e | e
  ·exact (h.cd.lt k e).1
  ·omega
 ·rcases e with e | e
  ·exact h.np e
  ·exact h.nv e
 ·rcases e with e | e
  ·have:=(h.lr.lt k hk).1;have:=h.s0;have:=h.ks.p0;omega
  ·exact h.nn k hk e
 ·rcases hb B e with e | e
  ·exact h.nv e
  ·have:=h.lt;omega
 ·rcases hb k e with e | e
  ·exact h.nn k hk e
  ·have:=(h.lr.lt k hk).2;omega
theorem Md.put (h:Md w0 w w1 p n ad B args lv X v3 v C):Md w0 w (w1.setCell ⟨B,3,none⟩ v) p n ad B args lv X v v C:=by
 have hfar:∀ k,k≠B→(w1.setCell ⟨B,3,none⟩ v).heap[k]?=w1.heap[k]?:=fun k hk=>Below.heap_setCell _ _ _ _ hk
 have hr:∀ {e:TypeId} {sz len:Nat} {u:Value} {xs:List Value},w1.ownsRow w.heap.size e sz u len xs→u.ownBlock≠some B→(w1.setCell ⟨B,3,none⟩ v).ownsRow w.heap.size e sz u len xs:=by
  intro e sz len u xs ho hu
  obtain⟨h1,h2⟩:=ho
  refine⟨h1,?_⟩
  rcases h2 with hh | ⟨g,cap,cur,e1,e2,e3,e4⟩
  ·exact Or.inl hh
  ·exact Or.inr ⟨g,cap,cur,e1,e2,(hfar g (fun e=>hu (by rw [e1,← e];rfl))).trans e3,e4⟩
 have hc:∀ j,j≠3→(w1.setCell ⟨B,3,none⟩ v).cell? ⟨B,j,none⟩=w1.cell? ⟨B,j,none⟩:=fun j hj=>World.cell?_setCell_other _ _ _ _ (by intro e;injection e with _ h2;exact hj (by omega))
 have hsz:(w1.setCell ⟨B,3,none⟩ v).heap.size=w1.heap.size:=by simp
 refine⟨h.ks.other (F:=fun k=>k=B) ((Cg.refl (fun k=>k=B) w1).set ⟨B,3,none⟩ rfl v) (fun k hk=>by have:=h.bB;have:=h.s0;omega),h.cg.trans' ((Cg.refl (fun k=>k=B) w1).set ⟨B,3,none⟩ rfl v) (fun k hk=>Or.inr (by have:=h.bB;omega)),h.s0,hr h.cd h.nv,hr h.lr h.nl,(hc 0 (by decide)).trans h.c0,(hc 1 (by decide)).trans h.c1,(hc 2 (by decide)).trans h.c2,World.cell?_setCell_same _ _ _ h.c3,fun j=>(World.frozen?_setCell _ _ _ _).trans (h.z j),h.bB,h.nl,h.nv,h.nn⟩
theorem Md.start {wA:World} (h:Rw w0 w w1 p n ad (.slice none 0 0) lv 80 2 14 (pr2 X)) (hA:wA=w1.alloc (.cells #[.int .i64 args,.int .i64 2,lv,.slice none 0 0] 75)):Md w0 w wA p n ad w1.heap.size args lv X (.slice none 0 0) (.slice none 0 0) []:=by
 subst hA
 have hb:=(Below.refl w1.heap.size w1).alloc (Nat.le_refl _) (.cells #[.int .i64 args,.int .i64 2,lv,.slice none 0 0] 75)
 have hn:(Value.slice none 0 0).ownBlock=none:=rfl
 have hcg:Cg (fun k=>k=p) w w1:=h.cg.mono (fun k hk=>by
  rcases hk with e | e
  ·exact e
  ·rw [hn] at e;cases e)
 have hlv:∀ k,lv.ownBlock=some k→w.heap.size≤k:=fun k hk=>by
  rcases h.ob k hk with e | e
  ·rw [hn] at e;cases e
  ·exact e
 have hlt:∀ k,lv.ownBlock=some k→k < w1.heap.size:=fun k hk=>(h.cd.lt k hk).2
 refine⟨h.ks.keep hb,hcg.trans (Cg.below _ hb),h.s0,World.ownsRow_nil _ _ _ _,row_base ((h.keep hb).cd) hlv,by simp,by simp,by simp,by simp,fun j=>?_,hcg.size,fun e=>?_,fun e=>?_,fun k hk e=>?_⟩
 ·exact World.frozen?_alloc_new _ _ _ _
 ·have:=hlt _ e;omega
 ·rw [hn] at e;cases e
 ·rw [hn] at e;cases e
theorem cell_in {w:World} {q k:Nat} {C:Array Value} {T:TypeId} {v:Value} (h:w.heap[q]?=some (.cells C T (0,0))) (hk:C[k]?=some v):w.cell? ⟨q,k,none⟩=some v:=by
 simp [World.cell?,h,hk]
theorem loose_in {w:World} {q k:Nat} {C:Array Value} {T:TypeId} (h:w.heap[q]?=some (.cells C T (0,0))):w.frozen? ⟨q,k,none⟩=false:=by
 simp [World.frozen?,h]
abbrev set4 (w:World) (q:Nat) (v0 v1 v2 v3:Value):World:=(((w.setCell ⟨q,0,none⟩ v0).setCell ⟨q,1,none⟩ v1).setCell ⟨q,2,none⟩ v2).setCell ⟨q,3,none⟩ v3
theorem set4_far (w:World) (q k:Nat) (v0 v1 v2 v3:Value) (hk:k≠q):(set4 w q v0 v1 v2 v3).heap[k]?=w.heap[k]?:=by
 unfold set4
 rw [Below.heap_setCell _ _ _ _ hk,Below.heap_setCell _ _ _ _ hk,Below.heap_setCell _ _ _ _ hk,Below.heap_setCell _ _ _ _ hk]
theorem set4_at {w:World} {q:Nat} {v0 v1 v2 v3 u0 u1 u2 u3:Value} (c0:w.cell? ⟨q,0,none⟩=some u0) (c1:w.cell? ⟨q,1,none⟩=some u1) (c2:w.cell? ⟨q,2,none⟩=some u2) (c3:w.cell? ⟨q,3,none⟩=some u3):(set4 w q v0 v1 v2 v3).cell? ⟨q,0,none⟩=some v0∧(set4 w q v0 v1 v2 v3).cell? ⟨q,1,none⟩=some v1∧(set4 w q v0 v1 v2 v3).cell? ⟨q,2,none⟩=some v2∧(set4 w q v0 v1 v2 v3).cell? ⟨q,3,none⟩=some v3:=by
 have far:∀ {w:World} {i j:Nat} {v:Value},i≠j→(w.setCell ⟨q,i,none⟩ v).cell? ⟨q,j,none⟩=w.cell? ⟨q,j,none⟩:=fun hij=>World.cell?_setCell_other _ _ _ _ (by intro e;injection e with _ h2;omega)
 unfold set4
 refine⟨?_,?_,?_,?_⟩
 ·rw [far (by decide),far (by decide),far (by decide)];exact World.cell?_setCell_same _ _ _ c0
 ·rw [far (by decide),far (by decide)];exact World.cell?_setCell_same _ _ _ ((far (by decide)).trans c1)
 ·rw [far (by decide)];exact World.cell?_setCell_same _ _ _ ((far (by decide)).trans ((far (by decide)).trans c2))
 ·exact World.cell?_setCell_same _ _ _ ((far (by decide)).trans ((far (by decide)).trans ((far (by decide)).trans c3)))
theorem Md.fin (h:Md w0 w w1 p n ad B args lv X v3 v C) {wb:World} (hw:Cg (fun k=>k=p) wb w) (hs:w0.heap.size≤wb.heap.size) (hB0:wb.heap.size < w.heap.size) (u0 u1 u2 u3:Value):Ks w0 (set4 w1 wb.heap.size u0 u1 u2 u3) p n ad∧Cg (fun k=>k=p) wb (set4 w1 wb.heap.size u0 u1 u2 u3)∧(set4 w1 wb.heap.size u0 u1 u2 u3).ownsRow wb.heap.size 80 2 lv 14 (pr2 X)∧(set4 w1 wb.heap.size u0 u1 u2 u3).ownsRow wb.heap.size 5 1 v C.length (bys C):=by
 have hfar:=fun k (hk:k≠wb.heap.size)=>set4_far w1 wb.heap.size k u0 u1 u2 u3 hk
 have hg:Cg (fun k=>k=wb.heap.size) w1 (set4 w1 wb.heap.size u0 u1 u2 u3):=⟨rfl,rfl,rfl,by simp [set4],fun k _ hk=>hfar k hk⟩
 have hr:∀ {e:TypeId} {sz len:Nat} {u:Value} {xs:List Value},w1.ownsRow w.heap.size e sz u len xs→(set4 w1 wb.heap.size u0 u1 u2 u3).ownsRow wb.heap.size e sz u len xs:=by
  intro e sz len u xs ho
  obtain⟨h1,h2⟩:=ho
  refine⟨h1,?_⟩
  rcases h2 with hh | ⟨g,cap,cur,e1,e2,e3,e4⟩
  ·exact Or.inl hh
  ·exact Or.inr ⟨g,cap,cur,e1,by omega,(hfar g (by omega)).trans e3,e4⟩
 exact⟨h.ks.other hg (fun k hk=>by omega),(hw.trans h.cg).trans' hg (fun k hk=>Or.inr (by omega)),hr h.lr,hr h.cd⟩
def sel4 (j:Nat):Int:=[7,3,4,0].getD j 0
theorem sel4_or (j:Nat) (hj:j < 4):sel4 j=7∨sel4 j=3∨sel4 j=4∨sel4 j=0:=by
 rcases (show j=0∨j=1∨j=2∨j=3 by omega) with rfl | rfl | rfl | rfl <;> simp [sel4]
theorem born4 (w:World) {j:Nat} (hj:j < 4):(w.alloc (.cells #[.int .i64 7,.int .i64 3,.int .i64 4,.int .i64 0] 3)).cell? ⟨w.heap.size,j,none⟩=some (.int .i64 (sel4 j)):=by
 rcases (show j=0∨j=1∨j=2∨j=3 by omega) with rfl | rfl | rfl | rfl <;> simp [sel4]
theorem arr4 {j:Nat} (hj:j < 4):(#[Value.int .i64 7,Value.int .i64 3,Value.int .i64 4,Value.int .i64 0]:Array Value)[j]?=some (.int .i64 (sel4 j)):=by
 rcases (show j=0∨j=1∨j=2∨j=3 by omega) with rfl | rfl | rfl | rfl <;> simp [sel4]
theorem lst4 {j:Nat} (hj:j < 4):([Value.int .i64 7,Value.int .i64 3,Value.int .i64 4,Value.int .i64 0]:List Value)[j]?=some (.int .i64 (sel4 j)):=by
 rcases (show j=0∨j=1∨j=2∨j=3 by omega) with rfl | rfl | rfl | rfl <;> simp [sel4]
structure Me (w0 w wr:World) (p n:Nat) (ad:Option Addr) (B:Nat) (args:Int) (lv:Value) (X:List (Int × Int)) (v3 v:Value) (C:List Int) (Bq:Nat):Prop where
 md:Md w0 w wr p n ad B args lv X v3 v C
 q:∀ j:Nat,j < 4→wr.cell? ⟨Bq,j,none⟩=some (.int .i64 (sel4 j))
 qp:Bq≠p
section
variable {wX:World} {Bq:Nat}
theorem Me.lt (h:Me w0 w w1 p n ad B args lv X v3 v C Bq):Bq < w1.heap.size:=World.block_lt_of_cell? w1 _ (h.q 0 (by omega))
theorem Me.keep (h:Me w0 w w1 p n ad B args lv X v3 v C Bq) (b:Below w1.heap.size w1 w2):Me w0 w w2 p n ad B args lv X v3 v C Bq :=
 ⟨h.md.keep b,fun j hj=>(World.cell?_of_block (a:=⟨Bq,j,none⟩) (b.block Bq h.lt)).trans (h.q j hj),h.qp⟩
theorem Me.next (h:Me w0 w w1 p n ad B args lv X v3 v C Bq) (t:Tp w2 p ad n) (c:Cg (fun k=>k=p) w1 w2):Me w0 w w2 p n ad B args lv X v3 v C Bq :=
 ⟨h.md.next t c,fun j hj=>(World.cell?_of_block (a:=⟨Bq,j,none⟩) (c.block Bq h.lt h.qp)).trans (h.q j hj),h.qp⟩
theorem Me.born (h:Md w0 w w1 p n ad B args lv X v3 v C) (hX:wX=w1.alloc (.cells #[.int .i64 7,.int .i64 3,.int .i64 4,.int .i64 0] 3)∨wX=(w1.alloc (.cells #[.int .i64 7,.int .i64 3,.int .i64 4,.int .i64 0] 3)).drew):Me w0 w wX p n ad B args lv X v3 v C w1.heap.size:=by
 have h1:Me w0 w (w1.alloc (.cells #[.int .i64 7,.int .i64 3,.int .i64 4,.int .i64 0] 3)) p n ad B args lv X v3 v C w1.heap.size :=
  ⟨h.keep ((Below.refl _ _).alloc (Nat.le_refl _) _),fun j hj=>born4 _ hj,fun e=>by have:=h.ks.p0;have:=h.ks.cg.size;omega⟩
 rcases hX with rfl | rfl
 ·exact h1
 ·exact h1.keep (Below.refl _ _).drew
theorem m4_a (h:Hid (Md w0 w w1 p n ad B args lv X v3 v C)) (hb:Below w1.heap.size w1 wX):Calls Tryz.prog 30 #[.pointer (some ⟨p,0,none⟩),.int .i64 4] wX fun e w'=>∃ j:Nat,e=.returned (.int .i64 (j:Int))∧j < 4∧Hid (Md w0 w w' p n ad B args lv X v3 v C):=by
 have h1:=h.out.keep hb
 refine (next_c 4 (by omega) (by omega) h1.ks.tp).mono ?_
 rintro e w' ⟨x,he,hx,t,c⟩
 have ex:x=((x.toNat:Nat):Int):=by omega
 exact⟨x.toNat,by rw [← ex];exact he,by omega,Lib.hid (h1.next t c)⟩
theorem m4_d (h:Hid (Me w0 w w1 p n ad B args lv X v3 v C Bq)) (hb:Below w1.heap.size w1 wX):Calls Tryz.prog 30 #[.pointer (some ⟨p,0,none⟩),.int .i64 4] wX fun e w'=>∃ j:Nat,e=.returned (.int .i64 (j:Int))∧j < 4∧Hid (Me w0 w w' p n ad B args lv X v3 v C Bq):=by
 have h1:=h.out.keep hb
 refine (next_c 4 (by omega) (by omega) h1.md.ks.tp).mono ?_
 rintro e w' ⟨x,he,hx,t,c⟩
 have ex:x=((x.toNat:Nat):Int):=by omega
 exact⟨x.toNat,by rw [← ex];exact he,by omega,Lib.hid (h1.next t c)⟩
theorem m4_b (h:Hid (Md w0 w w1 p n ad B args lv X v3 v C)) (hX:wX=w1.alloc (.cells #[.int .i64 7,.int .i64 3,.int .i64 4,.int .i64 0] 3)∨wX=(w1.alloc (.cells #[.int .i64 7,.int .i64 3,.int .i64 4,.int .i64 0] 3)).drew):Calls Tryz.prog 30 #[.pointer (some ⟨p,0,none⟩),.int .i64 4] wX fun e w'=>∃ j:Nat,e=.returned (.int .i64 (j:Int))∧j < 4∧Hid (Me w0 w w' p n ad B args lv X v3 v C w1.heap.size) :=
 m4_d (Lib.hid (Me.born h.out hX)) (Below.refl _ _)
theorem m2_a (h:Hid (Md w0 w w1 p n ad B args lv X v3 v C)) (hb:Below w1.heap.size w1 wX):Calls Tryz.prog 30 #[.pointer (some ⟨p,0,none⟩),.int .i64 2] wX fun e w'=>∃ r:Int,e=.returned (.int .i64 r)∧(0≤r∧r < 2)∧Hid (Md w0 w w' p n ad B args lv X v3 v C):=by
 have h1:=h.out.keep hb
 refine (next_c 2 (by omega) (by omega) h1.ks.tp).mono ?_
 rintro e w' ⟨x,he,hx,t,c⟩
 exact⟨x,he,hx,Lib.hid (h1.next t c)⟩
theorem m2_d (h:Hid (Me w0 w w1 p n ad B args lv X v3 v C Bq)) (hb:Below w1.heap.size w1 wX):Calls Tryz.prog 30 #[.pointer (some ⟨p,0,none⟩),.int .i64 2] wX fun e w'=>∃ r:Int,e=.returned (.int .i64 r)∧(0≤r∧r < 2)∧Hid (Me w0 w w' p n ad B args lv X v3 v C Bq):=by
 have h1:=h.out.keep hb
 refine (next_c 2 (by omega) (by omega) h1.md.ks.tp).mono ?_
 rintro e w' ⟨x,he,hx,t,c⟩
 exact⟨x,he,hx,Lib.hid (h1.next t c)⟩
theorem m2_b (h:Hid (Md w0 w w1 p n ad B args lv X v3 v C)) (hX:wX=w1.alloc (.cells #[.int .i64 7,.int .i64 3,.int .i64 4,.int .i64 0] 3)∨wX=(w1.alloc (.cells #[.int .i64 7,.int .i64 3,.int .i64 4,.int .i64 0] 3)).drew):Calls Tryz.prog 30 #[.pointer (some ⟨p,0,none⟩),.int .i64 2] wX fun e w'=>∃ r:Int,e=.returned (.int .i64 r)∧(0≤r∧r < 2)∧Hid (Me w0 w w' p n ad B args lv X v3 v C w1.heap.size) :=
 m2_d (Lib.hid (Me.born h.out hX)) (Below.refl _ _)
theorem mo_a (h:Hid (Md w0 w w1 p n ad B args lv X v3 v C)) (hb:Below w1.heap.size w1 wX) (hl:C.length≤100000) (o a:Int) :
  Calls Tryz.prog 60 #[v,.int .i64 o,.int .i64 a] wX fun e w'=>∃ a' m' c',e=.returned (.slice a' m' c')∧Hid (Md w0 w w' p n ad B args lv X v3 (.slice a' m' c') (C++[wr8 o,wr8 a])):=by
 have h1:=h.out.keep hb
 refine (op_c h1.pc hl o a).mono ?_
 rintro e w' ⟨v',he,hpc⟩
 obtain⟨a',c',rfl⟩:=row_shape hpc.cd
 exact⟨_,_,_,he,Lib.hid (h1.code hpc)⟩
theorem mo_d (h:Hid (Me w0 w w1 p n ad B args lv X v3 v C Bq)) (hb:Below w1.heap.size w1 wX) (hl:C.length≤100000) (o a:Int) :
  Calls Tryz.prog 60 #[v,.int .i64 o,.int .i64 a] wX fun e w'=>∃ a' m' c',e=.returned (.slice a' m' c')∧Hid (Md w0 w w' p n ad B args lv X v3 (.slice a' m' c') (C++[wr8 o,wr8 a])) :=
 mo_a (Lib.hid h.out.md) hb hl o a
theorem Md.c3a (h:Md w0 w w1 p n ad B args lv X v3 v C):(w1.alloc (.cells #[.int .i64 7,.int .i64 3,.int .i64 4,.int .i64 0] 3)).cell? ⟨B,3,none⟩=some v3:=(h.keep ((Below.refl _ _).alloc (Nat.le_refl _) _)).c3
end
end
theorem infoMeth:(Tryz.prog.info? 75).map (fun i=>(i.zero,i.size,i.bytes))=some (some (.agg #[.int .i64 0,.int .i64 0,.slice none 0 0,.slice none 0 0]),4,64):=by kernel_rfl
structure MethodC:Prop where
 c:∀ {w0 w:World} {p n:Nat} {ad:Option Addr} (h:Ks w0 w p n ad) (args c:Int) (bl:Bool) (ha:0≤args∧args≤2) (hc0:3≤c) (hc1:c≤100),
  Calls Tryz.prog 31 #[.pointer (some ⟨p,0,none⟩),.int .i64 args,.int .i64 c,.bool bl] w fun e w'=>∃ lv cv,e=.returned (.agg #[.int .i64 args,.int .i64 2,lv,cv])∧∃ X I,litsOk c X∧codeOk bl I∧Ks w0 w' p n ad∧Cg (fun k=>k=p) w w'∧w'.ownsRow w.heap.size 80 2 lv 14 (pr2 X)∧w'.ownsRow w.heap.size 5 1 cv (flat I).length (bys (flat I))
end Wd
end Go.Proofs.YteiejjmhmmkdhaaGreat

/- A tape's program: what is known while it is made. -/
namespace Go.Proofs.YteiejjmhmmkdhaaGreat
open Go.RowKit
set_option linter.unusedVariables false
set_option maxRecDepth 20000
namespace Wd
structure Un (w wB wr:World) (p n:Nat) (ad:Option Addr) (B:Nat) (nv cv mv ov:Value):Prop where
 ks:Ks w wr p n ad
 cg:Cg (fun k=>k=p∨B≤k) wB wr
 c0:wr.cell? ⟨B,0,none⟩=some nv
 c1:wr.cell? ⟨B,1,none⟩=some cv
 c2:wr.cell? ⟨B,2,none⟩=some mv
 c3:wr.cell? ⟨B,3,none⟩=some ov
 c4:wr.cell? ⟨B,4,none⟩=some (.int .i64 6)
 z:∀ j,wr.frozen? ⟨B,j,none⟩=false
 bB:w.heap.size≤B
 bs:B < wB.heap.size
section
variable {w wB w1 w2:World} {p n B:Nat} {ad:Option Addr} {nv cv mv ov u:Value}
theorem Un.pB (h:Un w wB w1 p n ad B nv cv mv ov):p < B:=Nat.lt_of_lt_of_le h.ks.p0 h.bB
theorem Un.lt (h:Un w wB w1 p n ad B nv cv mv ov):B < w1.heap.size:=Nat.lt_of_lt_of_le h.bs h.cg.size
theorem Un.block (h:Un w wB w1 p n ad B nv cv mv ov) (ks:Ks w w2 p n ad) (cg:Cg (fun k=>k=p∨B≤k) wB w2) (e:w2.heap[B]?=w1.heap[B]?):Un w wB w2 p n ad B nv cv mv ov :=
 ⟨ks,cg,(World.cell?_of_block (a:=⟨B,0,none⟩) e).trans h.c0,(World.cell?_of_block (a:=⟨B,1,none⟩) e).trans h.c1,(World.cell?_of_block (a:=⟨B,2,none⟩) e).trans h.c2,(World.cell?_of_block (a:=⟨B,3,none⟩) e).trans h.c3,(World.cell?_of_block (a:=⟨B,4,none⟩) e).trans h.c4,fun j=>(World.frozen?_of_block (a:=⟨B,j,none⟩) e).trans (h.z j),h.bB,h.bs⟩
theorem Un.next (h:Un w wB w1 p n ad B nv cv mv ov) (t:Tp w2 p ad n) (c:Cg (fun k=>k=p) w1 w2):Un w wB w2 p n ad B nv cv mv ov :=
 h.block (h.ks.step t c) (h.cg.trans (c.mono (fun k hk=>Or.inl hk))) (c.block B h.lt (fun e=>by have:=h.pB;omega))
theorem Un.far (h:Un w wB w1 p n ad B nv cv mv ov) {F:Nat→Prop} (c:Cg F w1 w2) (hF:∀ k,F k→B < k):Un w wB w2 p n ad B nv cv mv ov :=
 h.block (h.ks.other c (fun k hk=>by have:=hF k hk;have:=h.bB;omega)) (h.cg.trans (c.mono (fun k hk=>Or.inr (Nat.le_of_lt (hF k hk))))) (c.block B h.lt (fun hf=>by have:=hF B hf;omega))
theorem Un.keep (h:Un w wB w1 p n ad B nv cv mv ov) (b:Below w1.heap.size w1 w2):Un w wB w2 p n ad B nv cv mv ov:=h.far (F:=fun _=>False) (Cg.below _ b) (fun _ hf=>hf.elim)
theorem Un.set (h:Un w wB w1 p n ad B nv cv mv ov) (j:Nat) (x:Value):Ks w (w1.setCell ⟨B,j,none⟩ x) p n ad∧Cg (fun k=>k=p∨B≤k) wB (w1.setCell ⟨B,j,none⟩ x)∧(∀ i,i≠j→(w1.setCell ⟨B,j,none⟩ x).cell? ⟨B,i,none⟩=w1.cell? ⟨B,i,none⟩)∧∀ i,(w1.setCell ⟨B,j,none⟩ x).frozen? ⟨B,i,none⟩=false :=
 ⟨h.ks.other (F:=fun k=>k=B) ((Cg.refl (fun k=>k=B) w1).set ⟨B,j,none⟩ rfl x) (fun k hk=>by have:=h.bB;omega),h.cg.trans (((Cg.refl (fun k=>k=B) w1).set ⟨B,j,none⟩ rfl x).mono (fun k hk=>Or.inr (by omega))),fun i hi=>World.cell?_setCell_other _ _ _ _ (by intro e;injection e with _ h2;omega),fun i=>(World.frozen?_setCell _ _ _ _).trans (h.z i)⟩
theorem Un.put1 (h:Un w wB w1 p n ad B nv cv mv ov) (x:Value):Un w wB (w1.setCell ⟨B,1,none⟩ x) p n ad B nv x mv ov:=by
 obtain⟨k,g,f,z⟩:=h.set 1 x
 exact⟨k,g,(f 0 (by decide)).trans h.c0,World.cell?_setCell_same _ _ _ h.c1,(f 2 (by decide)).trans h.c2,(f 3 (by decide)).trans h.c3,(f 4 (by decide)).trans h.c4,z,h.bB,h.bs⟩
theorem Un.put2 (h:Un w wB w1 p n ad B nv cv mv ov) (x:Value):Un w wB (w1.setCell ⟨B,2,none⟩ x) p n ad B nv cv x ov:=by
 obtain⟨k,g,f,z⟩:=h.set 2 x
 exact⟨k,g,(f 0 (by decide)).trans h.c0,(f 1 (by decide)).trans h.c1,World.cell?_setCell_same _ _ _ h.c2,(f 3 (by decide)).trans h.c3,(f 4 (by decide)).trans h.c4,z,h.bB,h.bs⟩
theorem Un.put3 (h:Un w wB w1 p n ad B nv cv mv ov) (x:Value):Un w wB (w1.setCell ⟨B,3,none⟩ x) p n ad B nv cv mv x:=by
 obtain⟨k,g,f,z⟩:=h.set 3 x
 exact⟨k,g,(f 0 (by decide)).trans h.c0,(f 1 (by decide)).trans h.c1,(f 2 (by decide)).trans h.c2,World.cell?_setCell_same _ _ _ h.c3,(f 4 (by decide)).trans h.c4,z,h.bB,h.bs⟩
end
theorem row_next {w1 w2:World} {b size n p:Nat} {e:TypeId} {v:Value} {xs:List Value} (h:w1.ownsRow b e size v n xs) (c:Cg (fun k=>k=p) w1 w2) (hp:p < b):w2.ownsRow b e size v n xs :=
 row_cg h c (fun k hk hf=>by have:=(h.lt k hk).1;omega)
theorem row_bel {w1 w2:World} {b size n:Nat} {e:TypeId} {v:Value} {xs:List Value} (h:w1.ownsRow b e size v n xs) (c:Below w1.heap.size w1 w2):w2.ownsRow b e size v n xs :=
 row_cg (F:=fun _=>False) h (Cg.below _ c) (fun _ _ hf=>hf)
theorem row_set {w1:World} {b size n:Nat} {e:TypeId} {v:Value} {xs:List Value} (h:w1.ownsRow b e size v n xs) (a:Addr) (x:Value) (ha:v.ownBlock≠some a.block):(w1.setCell a x).ownsRow b e size v n xs :=
 row_cg (F:=fun k=>k=a.block) h ((Cg.refl (fun k=>k=a.block) w1).set a rfl x) (fun k hk hf=>ha (by rw [hk,hf]))
def cName (i:Nat):ByteArray:=⟨#[67,UInt8.ofNat (48+i)]⟩
structure clsOk (L:List ClassA) (k:Nat) (c:ClassA):Prop where
 z:k=0→c.nm=⟨#[66,108,111,99,107]⟩∧c.super=-1∧c.fields=4
 o:k=1→c.nm=⟨#[65,114,114,97,121]⟩∧c.super=-1∧c.fields=0
 nm:2≤k→c.nm=cName (k - 2)
 sup:2≤k→c.super=-1∨(2≤c.super∧c.super < k∧∃ d,L[c.super.toNat]?=some d∧d.fields≤c.fields)
 fld:2≤k→0≤c.fields∧c.fields≤2*k
structure Cls (T:List (ClassA × Value)):Prop where
 two:2≤T.length
 ok:∀ (k:Nat) x,T[k]?=some x→clsOk (T.map (·.1)) k x.1∧x.1.binds=[]∧x.2=.slice none 0 0
theorem Cls.start:Cls [(⟨⟨#[66,108,111,99,107]⟩,-1,4,[]⟩,.slice none 0 0),(⟨⟨#[65,114,114,97,121]⟩,-1,0,[]⟩,.slice none 0 0)]:=by
 refine⟨by simp,fun k x hx=>?_⟩
 match k,hx with
 | 0,hx =>
  simp at hx;subst hx
  exact⟨⟨fun _=>⟨rfl,rfl,rfl⟩,fun h=>by omega,fun h=>by omega,fun h=>by omega,fun h=>by omega⟩,rfl,rfl⟩
 | 1,hx =>
  simp at hx;subst hx
  exact⟨⟨fun h=>by omega,fun _=>⟨rfl,rfl,rfl⟩,fun h=>by omega,fun h=>by omega,fun h=>by omega⟩,rfl,rfl⟩
 | k+2,hx=>simp at hx
theorem clsOk.more {L M:List ClassA} {k:Nat} {c:ClassA} (h:clsOk L k c) (hk:k≤L.length):clsOk (L++M) k c:=by
 refine⟨h.z,h.o,h.nm,fun h2=>?_,h.fld⟩
 rcases h.sup h2 with e | ⟨e1,e2,d,e3,e4⟩
 ·exact Or.inl e
 ·exact Or.inr ⟨e1,e2,d,by rw [List.getElem?_append_left (by omega)];exact e3,e4⟩
theorem Cls.add {T:List (ClassA × Value)} (h:Cls T) {c:ClassA} (hc:clsOk (T.map (·.1)) T.length c) (hb:c.binds=[]):Cls (T++[(c,.slice none 0 0)]):=by
 refine⟨by simp;have:=h.two;omega,fun k x hx=>?_⟩
 rw [List.map_append]
 by_cases hk:k < T.length
 ·rw [List.getElem?_append_left hk] at hx
  obtain⟨a,b⟩:=h.ok k x hx
  exact⟨a.more (by simp;omega),b⟩
 ·rw [List.getElem?_append_right (by omega)] at hx
  have hk0:k=T.length:=by
   have:=(List.getElem?_eq_some_iff.1 hx).1
   simp at this;omega
  subst hk0
  simp at hx;subst hx
  exact⟨hc.more (by simp),hb,rfl⟩
structure MethA where
 args:Int
 temps:Int
 lits:List (Int × Int)
 code:List Int
def mt4 (x:MethA) (lv cv:Value):List Value:=[.int .i64 x.args,.int .i64 x.temps,lv,cv]
def mt4s:List (MethA × Value × Value)→List Value
 | []=>[]
 | x :: X=>mt4 x.1 x.2.1 x.2.2++mt4s X
theorem mt4s_app:∀ A B,mt4s (A++B)=mt4s A++mt4s B
 | [],_=>rfl
 | t :: A,B=>by simp [mt4s,mt4s_app A B]
theorem mt4s_get:∀ (T:List (MethA × Value × Value)) (k:Nat) t,T[k]?=some t→(mt4s T)[k*4]?=some (.int .i64 t.1.args)∧(mt4s T)[k*4+1]?=some (.int .i64 t.1.temps)∧(mt4s T)[k*4+2]?=some t.2.1∧(mt4s T)[k*4+3]?=some t.2.2
 | [],k,t,h=>by simp at h
 | s :: T,0,t,h=>by simp at h;subst h;simp [mt4s,mt4]
 | s :: T,k+1,t,h=>by
  have:=mt4s_get T k t (by simpa using h)
  rw [show (k+1)*4=k*4+4 by omega]
  simpa [mt4s,mt4] using this
theorem mt4s_one:∀ (T:List (MethA × Value × Value)),(∀ x∈T,(∃ a m c,x.2.1=.slice a m c)∧∃ a m c,x.2.2=.slice a m c)→∀ u∈mt4s T,u.oneCell'=true
 | [],_,u,h=>by cases h
 | t :: T,hT,u,h=>by
  simp only [mt4s,mt4,List.mem_append,List.mem_cons,List.not_mem_nil,or_false] at h
  rcases h with (rfl | rfl | rfl | rfl) | h
  ·rfl
  ·rfl
  ·exact sl_one (hT t (by simp)).1
  ·exact sl_one (hT t (by simp)).2
  ·exact mt4s_one T (fun x hx=>hT x (by simp [hx])) u h
structure methOk (c:Int) (j:Nat) (x:MethA):Prop where
 args:x.args=if j < 6 then argOf j else if j=8 then 1 else 0
 temps:x.temps=2
 lits:litsOk c x.lits
 code:∃ I,codeOk (decide (7≤j)) I∧x.code=flat I
structure Sub2 (H:Nat) (w:World) (x:MethA × Value × Value):Prop where
 l:w.ownsRow H 80 2 x.2.1 x.1.lits.length (pr2 x.1.lits)
 c:w.ownsRow H 5 1 x.2.2 x.1.code.length (bys x.1.code)
theorem Sub2.carry {H:Nat} {w1 w2:World} {x:MethA × Value × Value} {F:Nat→Prop} (h:Sub2 H w1 x) (c:Cg F w1 w2) (hF:∀ k,H≤k→F k→x.2.1.ownBlock≠some k∧x.2.2.ownBlock≠some k):Sub2 H w2 x :=
 ⟨row_cg h.l c (fun k hk hf=>(hF k (h.l.lt k hk).1 hf).1 hk),row_cg h.c c (fun k hk hf=>(hF k (h.c.lt k hk).1 hf).2 hk)⟩
theorem Sub2.form {H:Nat} {w1:World} {x:MethA × Value × Value} (h:Sub2 H w1 x):(∃ a m c,x.2.1=.slice a m c)∧∃ a m c,x.2.2=.slice a m c:=⟨slice_form h.l,slice_form h.c⟩
structure MRow (H:Nat) (w:World) (c:Int) (mv:Value) (k:Nat) (M:List (MethA × Value × Value)):Prop where
 row:w.ownsRow H 75 4 mv k (mt4s M)
 len:k=M.length
 sub:∀ x∈M,Sub2 H w x
 sep:∀ x∈M,∀ b,mv.ownBlock=some b→x.2.1.ownBlock≠some b∧x.2.2.ownBlock≠some b
 ok:∀ (j:Nat) x,M[j]?=some x→methOk c j x.1
theorem MRow.start (H:Nat) (w:World) (c:Int):MRow H w c (.slice none 0 0) 0 []:=⟨World.ownsRow_nil _ _ _ _,rfl,by simp,by simp,by simp⟩
theorem MRow.carry {H k:Nat} {w1 w2:World} {c:Int} {mv:Value} {M:List (MethA × Value × Value)} {F:Nat→Prop} (h:MRow H w1 c mv k M) (cg:Cg F w1 w2) (hF:∀ b,F b→b < H):MRow H w2 c mv k M :=
 ⟨row_cg h.row cg (fun b hb hf=>by have:=(h.row.lt b hb).1;have:=hF b hf;omega),h.len,fun x hx=>(h.sub x hx).carry cg (fun b hb hf=>by have:=hF b hf;omega),h.sep,h.ok⟩
theorem MRow.bel {H k:Nat} {w1 w2:World} {c:Int} {mv:Value} {M:List (MethA × Value × Value)} (h:MRow H w1 c mv k M) (b:Below w1.heap.size w1 w2):MRow H w2 c mv k M :=
 h.carry (F:=fun _=>False) (Cg.below _ b) (fun _ hf=>hf.elim)
theorem MRow.add {H k m:Nat} {w1 wA w2:World} {c:Int} {mv mv':Value} {M N:List (MethA × Value × Value)} (h:MRow H w1 c mv k M) (hm:m=N.length) (hN:∀ x∈N,Sub2 H w1 x) (hs:∀ x∈N,∀ b,mv.ownBlock=some b→x.2.1.ownBlock≠some b∧x.2.2.ownBlock≠some b) (hA:Below w1.heap.size w1 wA) (ho:w2.ownsRow H 75 4 mv' (k+m) (mt4s M++mt4s N)) (hg:wA.grownBy w2 mv.ownBlock) (hat:∀ b,mv'.ownBlock=some b→mv.ownBlock=some b∨b=wA.heap.size) (hok:∀ (j:Nat) x,N[j]?=some x→methOk c (k+j) x.1):MRow H w2 c mv' (k+m) (M++N):=by
 have hc1:Cg (fun b=>mv.ownBlock=some b) w1 w2:=(Cg.below _ hA).grown hg (fun b e=>Or.inl e)
 have hall:∀ x∈M++N,Sub2 H w1 x∧∀ b,mv.ownBlock=some b→x.2.1.ownBlock≠some b∧x.2.2.ownBlock≠some b:=fun x hx=>by
  rcases List.mem_append.1 hx with hx | hx
  ·exact⟨h.sub x hx,h.sep x hx⟩
  ·exact⟨hN x hx,hs x hx⟩
 refine⟨by rw [mt4s_app];exact ho,by simp [h.len,hm],fun x hx=>(hall x hx).1.carry hc1 (fun b _ hf=>(hall x hx).2 b hf),fun x hx b hb=>?_,fun j x hx=>?_⟩
 ·rcases hat b hb with e | e
  ·exact (hall x hx).2 b e
  ·have hsz:=hA.size
   exact⟨fun e1=>by have:=((hall x hx).1.l.lt b e1).2;omega,fun e1=>by have:=((hall x hx).1.c.lt b e1).2;omega⟩
 ·by_cases hj:j < M.length
  ·rw [List.getElem?_append_left hj] at hx
   exact h.ok j x hx
  ·rw [List.getElem?_append_right (by omega)] at hx
   have:=hok (j - M.length) x hx
   rw [h.len,show M.length+(j - M.length)=j by omega] at this
   exact this
theorem mt4_at {w:World} {g:Nat} {x:MethA} {lv cv:Value} (h0:w.cell? ⟨g,0,none⟩=some (.int .i64 x.args)) (h1:w.cell? ⟨g,1,none⟩=some (.int .i64 x.temps)) (h2:w.cell? ⟨g,2,none⟩=some lv) (h3:w.cell? ⟨g,3,none⟩=some cv):∀ j v,(mt4s [(x,lv,cv)])[j]?=some v→w.cell? ((⟨g,0,none⟩:Addr).add j)=some v:=by
 intro j v hu
 match j,hu with
 | 0,hu =>
  simp [mt4s,mt4] at hu;subst hu
  rw [Addr.add_lit];exact h0
 | 1,hu =>
  simp [mt4s,mt4] at hu;subst hu
  rw [Addr.add_lit];exact h1
 | 2,hu =>
  simp [mt4s,mt4] at hu;subst hu
  rw [Addr.add_lit];exact h2
 | 3,hu =>
  simp [mt4s,mt4] at hu;subst hu
  rw [Addr.add_lit];exact h3
end Wd
end Go.Proofs.YteiejjmhmmkdhaaGreat

/- A tape's program: its four stretches. -/
namespace Go.Proofs.YteiejjmhmmkdhaaGreat
open Go.RowKit
set_option linter.unusedVariables false
set_option maxRecDepth 20000
namespace Wd
def cls0:List (ClassA × Value):=[(⟨⟨#[66,108,111,99,107]⟩,-1,4,[]⟩,.slice none 0 0),(⟨⟨#[65,114,114,97,121]⟩,-1,0,[]⟩,.slice none 0 0)]
abbrev wU (w:World):World:=(((w.alloc (.cells #[.slice none 0 0,.slice none 0 0,.slice none 0 0,.slice none 0 0,.int .i64 0] 32)).alloc (.cells (strs nameL).toArray 9)).alloc (.cells #[.slice (some ⟨w.heap.size+1,0,none⟩) 6 6,.slice (some ⟨w.heap.size+1+1+1,0,none⟩) 2 2,.slice none 0 0,.slice none 0 0,.int .i64 6] 32)).alloc (.cells (cl4s cls0).toArray 72)
theorem alloc_at (w:World) (o:Obj) (k:Nat) (h:k=w.heap.size):(w.alloc o).heap[k]?=some o:=by subst h;exact heap_alloc_new _ _
theorem alloc_old (w:World) (o:Obj) (k:Nat) (hk:k < w.heap.size):(w.alloc o).heap[k]?=w.heap[k]?:=Below.heap_alloc w o k hk
theorem wU_0 (w:World):(wU w).heap[w.heap.size]?=some (.cells #[.slice none 0 0,.slice none 0 0,.slice none 0 0,.slice none 0 0,.int .i64 0] 32 (0,0)):=by
 unfold wU
 rw [alloc_old _ _ _ (by simp only [World.size_alloc];omega),alloc_old _ _ _ (by simp only [World.size_alloc];omega),alloc_old _ _ _ (by simp only [World.size_alloc];omega)]
 exact alloc_at _ _ _ rfl
theorem wU_1 (w:World):(wU w).heap[w.heap.size+1]?=some (.cells (strs nameL).toArray 9 (0,0)):=by
 unfold wU
 rw [alloc_old _ _ _ (by simp only [World.size_alloc];omega),alloc_old _ _ _ (by simp only [World.size_alloc];omega)]
 exact alloc_at _ _ _ (by simp only [World.size_alloc])
theorem wU_2 (w:World):(wU w).heap[w.heap.size+1+1]?=some (.cells #[.slice (some ⟨w.heap.size+1,0,none⟩) 6 6,.slice (some ⟨w.heap.size+1+1+1,0,none⟩) 2 2,.slice none 0 0,.slice none 0 0,.int .i64 6] 32 (0,0)):=by
 unfold wU
 rw [alloc_old _ _ _ (by simp only [World.size_alloc];omega)]
 exact alloc_at _ _ _ (by simp only [World.size_alloc])
theorem wU_3 (w:World):(wU w).heap[w.heap.size+1+1+1]?=some (.cells (cl4s cls0).toArray 72 (0,0)):=by
 unfold wU
 exact alloc_at _ _ _ (by simp only [World.size_alloc])
theorem wU_bel (w:World):Below w.heap.size w (wU w):=by
 unfold wU
 exact ((((Below.refl _ w).alloc (Nat.le_refl _) _).alloc (by simp only [World.size_alloc];omega) _).alloc (by simp only [World.size_alloc];omega) _).alloc (by simp only [World.size_alloc];omega) _
theorem Un.start {w wB:World} {p n:Nat} {ad:Option Addr} {B:Nat} {nv cv:Value} (h:Ks w wB p n ad) (e:wB.heap[B]?=some (.cells #[nv,cv,.slice none 0 0,.slice none 0 0,.int .i64 6] 32 (0,0))) (hb:w.heap.size≤B):Un w wB wB p n ad B nv cv (.slice none 0 0) (.slice none 0 0) :=
 ⟨h,Cg.refl _ _,cell_in e rfl,cell_in e rfl,cell_in e rfl,cell_in e rfl,cell_in e rfl,fun j=>loose_in e,hb,(Array.getElem?_eq_some_iff.1 e).1⟩
theorem row_of {w:World} {b g sz m:Nat} {C:Array Value} {T:TypeId} (h:w.heap[g]?=some (.cells C T (0,0))) (hb:b≤g) (hs:C.size=m*sz) (hm:m≤maxLen):w.ownsRow b T sz (.slice (some ⟨g,0,none⟩) m m) m C.toList :=
 ⟨by simpa using hs,Or.inr ⟨g,m,C,rfl,hb,h,Nat.le_refl _,hm,hs,by rw [← hs];exact List.take_of_length_le (by simp)⟩⟩
structure P1 (w wB wr:World) (p n:Nat) (ad:Option Addr) (B:Nat) (nv cv:Value) (m:Nat) (T:List (ClassA × Value)):Prop where
 un:Un w wB wr p n ad B nv cv (.slice none 0 0) (.slice none 0 0)
 row:wr.ownsRow (B+1) 72 4 cv m (cl4s T)
 len:m=T.length
 cls:Cls T
section
variable {w wB w1 w2:World} {p n B m:Nat} {ad:Option Addr} {nv cv:Value} {T:List (ClassA × Value)}
theorem P1.next (h:P1 w wB w1 p n ad B nv cv m T) (t:Tp w2 p ad n) (c:Cg (fun k=>k=p) w1 w2):P1 w wB w2 p n ad B nv cv m T :=
 ⟨h.un.next t c,row_next h.row c (by have:=h.un.pB;omega),h.len,h.cls⟩
theorem P1.keep (h:P1 w wB w1 p n ad B nv cv m T) (b:Below w1.heap.size w1 w2):P1 w wB w2 p n ad B nv cv m T :=
 ⟨h.un.keep b,row_bel h.row b,h.len,h.cls⟩
structure Q1 (w wB wr:World) (p n:Nat) (ad:Option Addr) (B:Nat) (nv cv:Value) (m:Nat) (T:List (ClassA × Value)) (D:Nat) (nm:ByteArray) (s f:Int):Prop where
 p1:P1 w wB wr p n ad B nv cv m T
 k0:wr.cell? ⟨D,0,none⟩=some (.string nm)
 k1:wr.cell? ⟨D,1,none⟩=some (.int .i64 s)
 k2:wr.cell? ⟨D,2,none⟩=some (.int .i64 f)
 k3:wr.cell? ⟨D,3,none⟩=some (.slice none 0 0)
 kz:∀ j,wr.frozen? ⟨D,j,none⟩=false
 bD:B < D
 nD:cv.ownBlock≠some D
variable {D:Nat} {nm:ByteArray} {s f:Int}
theorem Q1.block (h:Q1 w wB w1 p n ad B nv cv m T D nm s f) (p1:P1 w wB w2 p n ad B nv cv m T) (e:w2.heap[D]?=w1.heap[D]?):Q1 w wB w2 p n ad B nv cv m T D nm s f :=
 ⟨p1,(World.cell?_of_block (a:=⟨D,0,none⟩) e).trans h.k0,(World.cell?_of_block (a:=⟨D,1,none⟩) e).trans h.k1,(World.cell?_of_block (a:=⟨D,2,none⟩) e).trans h.k2,(World.cell?_of_block (a:=⟨D,3,none⟩) e).trans h.k3,fun j=>(World.frozen?_of_block (a:=⟨D,j,none⟩) e).trans (h.kz j),h.bD,h.nD⟩
theorem Q1.lt (h:Q1 w wB w1 p n ad B nv cv m T D nm s f):D < w1.heap.size:=World.block_lt_of_cell? w1 _ h.k0
theorem Q1.next (h:Q1 w wB w1 p n ad B nv cv m T D nm s f) (t:Tp w2 p ad n) (c:Cg (fun k=>k=p) w1 w2):Q1 w wB w2 p n ad B nv cv m T D nm s f :=
 h.block (h.p1.next t c) (c.block D h.lt (fun e=>by have:=h.bD;have:=h.p1.un.pB;omega))
theorem Q1.keep (h:Q1 w wB w1 p n ad B nv cv m T D nm s f) (b:Below w1.heap.size w1 w2):Q1 w wB w2 p n ad B nv cv m T D nm s f :=
 h.block (h.p1.keep b) (b.block D h.lt)
theorem Q1.start (h:P1 w wB w1 p n ad B nv cv m T) (hw:w2=w1.alloc (.cells #[.string nm,.int .i64 s,.int .i64 f,.slice none 0 0] 72)):Q1 w wB w2 p n ad B nv cv m T w1.heap.size nm s f:=by
 subst hw
 have e:(w1.alloc (.cells #[.string nm,.int .i64 s,.int .i64 f,.slice none 0 0] 72)).heap[w1.heap.size]?=some (.cells #[.string nm,.int .i64 s,.int .i64 f,.slice none 0 0] 72 (0,0)):=alloc_at _ _ _ rfl
 exact⟨h.keep ((Below.refl _ _).alloc (Nat.le_refl _) _),cell_in e rfl,cell_in e rfl,cell_in e rfl,cell_in e rfl,fun j=>loose_in e,h.un.lt,fun e=>by have:=(h.row.lt _ e).2;omega⟩
theorem Q1.far (h:P1 w wB w1 p n ad B nv cv m T) (bD:B < D) (nD:cv.ownBlock≠some D) (j:Nat) (x:Value):P1 w wB (w1.setCell ⟨D,j,none⟩ x) p n ad B nv cv m T :=
 ⟨h.un.far (F:=fun k=>k=D) ((Cg.refl (fun k=>k=D) w1).set ⟨D,j,none⟩ rfl x) (fun k hk=>by omega),row_set h.row _ _ nD,h.len,h.cls⟩
theorem Q1.sup (h:Q1 w wB w1 p n ad B nv cv m T D nm s f) (s':Int):Q1 w wB (w1.setCell ⟨D,1,none⟩ (.int .i64 s')) p n ad B nv cv m T D nm s' f :=
 ⟨Q1.far h.p1 h.bD h.nD 1 _,(World.cell?_setCell_other _ _ _ _ (by intro e;cases e)).trans h.k0,World.cell?_setCell_same _ _ _ h.k1,(World.cell?_setCell_other _ _ _ _ (by intro e;cases e)).trans h.k2,(World.cell?_setCell_other _ _ _ _ (by intro e;cases e)).trans h.k3,fun j=>(World.frozen?_setCell _ _ _ _).trans (h.kz j),h.bD,h.nD⟩
theorem Q1.fld (h:Q1 w wB w1 p n ad B nv cv m T D nm s f) (f':Int):Q1 w wB (w1.setCell ⟨D,2,none⟩ (.int .i64 f')) p n ad B nv cv m T D nm s f' :=
 ⟨Q1.far h.p1 h.bD h.nD 2 _,(World.cell?_setCell_other _ _ _ _ (by intro e;cases e)).trans h.k0,(World.cell?_setCell_other _ _ _ _ (by intro e;cases e)).trans h.k1,World.cell?_setCell_same _ _ _ h.k2,(World.cell?_setCell_other _ _ _ _ (by intro e;cases e)).trans h.k3,fun j=>(World.frozen?_setCell _ _ _ _).trans (h.kz j),h.bD,h.nD⟩
theorem P1.grown {wA:World} (h:P1 w wB w1 p n ad B nv cv m T) (hA:Below w1.heap.size w1 wA) (hg:wA.grownBy w2 cv.ownBlock):Un w wB w2 p n ad B nv cv (.slice none 0 0) (.slice none 0 0) :=
 h.un.far ((Cg.below _ hA).grown hg (fun k e=>Or.inl e)) (fun k hk=>by have:=(h.row.lt k hk).1;omega)
theorem P1.add {wA:World} {v':Value} {c:ClassA} (h:P1 w wB w1 p n ad B nv cv m T) (hA:Below w1.heap.size w1 wA) (ho:w2.ownsRow (B+1) 72 4 v' (m+1) (cl4s T++cl4 c (.slice none 0 0))) (hg:wA.grownBy w2 cv.ownBlock) (hc:clsOk (T.map (·.1)) T.length c) (hb:c.binds=[]):P1 w wB (w2.setCell ⟨B,1,none⟩ v') p n ad B nv v' (m+1) (T++[(c,.slice none 0 0)]):=by
 have hc1:Cg (fun k=>cv.ownBlock=some k) w1 w2:=(Cg.below _ hA).grown hg (fun k e=>Or.inl e)
 have hu:=h.un.far hc1 (fun k hk=>by have:=(h.row.lt k hk).1;omega)
 refine⟨hu.put1 v',row_set ?_ _ _ (fun e=>by have:=(ho.lt _ e).1;simp only at this;omega),by simp [h.len],h.cls.add hc hb⟩
 rw [cl4s_app]
 simpa [cl4s] using ho
end
theorem row_some {w:World} {b sz m cp:Nat} {e:TypeId} {a:Option Addr} {xs:List Value} (h:w.ownsRow b e sz (.slice a m cp) m xs) (hm:0 < m):∃ g,a=some ⟨g,0,none⟩:=by
 rcases h.2 with ⟨_,h0⟩ | ⟨g,cap,cur,e1,_⟩
 ·omega
 ·cases e1;exact⟨g,rfl⟩
theorem clsOk.plain (L:List ClassA) (i k:Nat) (f:Int) (hk:k=2+i) (f0:0≤f) (f1:f≤3):clsOk L k ⟨cName i,-1,f,[]⟩:=by
 subst hk
 exact⟨fun h=>by omega,fun h=>by omega,fun _=>by simp,fun _=>Or.inl rfl,fun _=>⟨f0,by simp only;omega⟩⟩
theorem clsOk.sub {L:List ClassA} {i k j:Nat} {d:ClassA} {f:Int} (hk:k=2+i) (hj:2≤j) (hjk:j < k) (hd:L[j]?=some d) (od:clsOk L j d) (f0:d.fields≤f) (f1:f≤d.fields+2):clsOk L k ⟨cName i,j,f,[]⟩:=by
 subst hk
 obtain⟨g0,g1⟩:=od.fld hj
 refine⟨fun h=>by omega,fun h=>by omega,fun _=>by simp,fun _=>Or.inr ⟨by simp only;omega,by simp only;omega,d,by simpa using hd,f0⟩,fun _=>⟨by simp only;omega,by simp only;omega⟩⟩
theorem cl4_at {w:World} {g:Nat} {c:ClassA} {bv:Value} (h0:w.cell? ⟨g,0,none⟩=some (.string c.nm)) (h1:w.cell? ⟨g,1,none⟩=some (.int .i64 c.super)) (h2:w.cell? ⟨g,2,none⟩=some (.int .i64 c.fields)) (h3:w.cell? ⟨g,3,none⟩=some bv):∀ j v,(cl4 c bv)[j]?=some v→w.cell? ((⟨g,0,none⟩:Addr).add j)=some v:=by
 intro j v hu
 match j,hu with
 | 0,hu =>
  simp [cl4] at hu;subst hu
  rw [Addr.add_lit];exact h0
 | 1,hu =>
  simp [cl4] at hu;subst hu
  rw [Addr.add_lit];exact h1
 | 2,hu =>
  simp [cl4] at hu;subst hu
  rw [Addr.add_lit];exact h2
 | 3,hu =>
  simp [cl4] at hu;subst hu
  rw [Addr.add_lit];exact h3
theorem cl4_one (c:ClassA) (bv:Value) (hb:∃ a m c,bv=.slice a m c):∀ u∈cl4 c bv,u.oneCell'=true:=by
 intro u hu
 simp only [cl4,List.mem_cons,List.not_mem_nil,or_false] at hu
 rcases hu with rfl | rfl | rfl | rfl
 ·rfl
 ·rfl
 ·rfl
 ·exact sl_one hb
theorem infoCls:(Tryz.prog.info? 72).map (fun i=>(i.zero,i.size,i.bytes))=some (some (.agg #[.string ByteArray.empty,.int .i64 0,.int .i64 0,.slice none 0 0]),4,56):=by kernel_rfl
theorem Un.s3 {w wB w1:World} {p n B:Nat} {ad:Option Addr} {nv cv mv ov:Value} (h:Un w wB w1 p n ad B nv cv mv ov):w1.cell? ⟨B,1,none⟩=some cv∧w1.cell? ⟨B,2,none⟩=some mv∧w1.frozen? ⟨B,2,none⟩=false:=⟨h.c1,h.c2,h.z 2⟩
structure P2 (w wB wr:World) (p n:Nat) (ad:Option Addr) (B:Nat) (nv cv:Value) (m:Nat) (T:List (ClassA × Value)) (H:Nat) (mv:Value) (k:Nat) (M:List (MethA × Value × Value)):Prop where
 un:Un w wB wr p n ad B nv cv mv (.slice none 0 0)
 row:wr.ownsRow (B+1) 72 4 cv m (cl4s T)
 rlt:∀ b,cv.ownBlock=some b→b < H
 len:m=T.length
 cls:Cls T
 HB:B < H
 Hsz:H≤wr.heap.size
 mr:MRow H wr (m:Int) mv k M
theorem Sub2.made {H:Nat} {w:World} {X:List (Int × Int)} {C:List Int} {lv kv:Value} (a t:Int) (rl:w.ownsRow H 80 2 lv 14 (pr2 X)) (rk:w.ownsRow H 5 1 kv C.length (bys C)):Sub2 H w (⟨a,t,X,C⟩,lv,kv):=by
 refine⟨?_,rk⟩
 have h1:=rl.1
 rw [pr2_len] at h1
 have:X.length=14:=by omega
 rw [this];exact rl
theorem meth3 {c:Int} (x y z:MethA × Value × Value) (hx:methOk c 6 x.1) (hy:methOk c 7 y.1) (hz:methOk c 8 z.1):∀ (j:Nat) u,[x,y,z][j]?=some u→methOk c (6+j) u.1:=by
 intro j u hu
 match j,hu with
 | 0,hu=>simp at hu;subst hu;exact hx
 | 1,hu=>simp at hu;subst hu;exact hy
 | 2,hu=>simp at hu;subst hu;exact hz
 | j+3,hu=>simp at hu
theorem Sub2.base {H H':Nat} {w:World} {x:MethA × Value × Value} (h:Sub2 H' w x) (hH:H≤H'):Sub2 H w x :=
 ⟨row_base h.l (fun b hb=>Nat.le_trans hH (h.l.lt b hb).1),row_base h.c (fun b hb=>Nat.le_trans hH (h.c.lt b hb).1)⟩
section
variable {w wB w1 w2:World} {p n B m H k:Nat} {ad:Option Addr} {nv cv mv:Value} {T:List (ClassA × Value)} {M:List (MethA × Value × Value)}
theorem P2.start (h:P1 w wB w1 p n ad B nv cv m T):P2 w wB w1 p n ad B nv cv m T w1.heap.size (.slice none 0 0) 0 [] :=
 ⟨h.un,h.row,fun b hb=>(h.row.lt b hb).2,h.len,h.cls,h.un.lt,Nat.le_refl _,MRow.start _ _ _⟩
theorem P2.next (h:P2 w wB w1 p n ad B nv cv m T H mv k M) (t:Tp w2 p ad n) (c:Cg (fun k=>k=p) w1 w2):P2 w wB w2 p n ad B nv cv m T H mv k M :=
 ⟨h.un.next t c,row_next h.row c (by have:=h.un.pB;omega),h.rlt,h.len,h.cls,h.HB,Nat.le_trans h.Hsz c.size,h.mr.carry c (fun b hb=>by have:=h.un.pB;have:=h.HB;omega)⟩
theorem P2.keep (h:P2 w wB w1 p n ad B nv cv m T H mv k M) (b:Below w1.heap.size w1 w2):P2 w wB w2 p n ad B nv cv m T H mv k M :=
 ⟨h.un.keep b,row_bel h.row b,h.rlt,h.len,h.cls,h.HB,Nat.le_trans h.Hsz b.size,h.mr.bel b⟩
theorem P2.grown (h:P2 w wB w1 p n ad B nv cv m T H mv k M) {wA:World} (hA:Below w1.heap.size w1 wA) (hg:wA.grownBy w2 mv.ownBlock):Un w wB w2 p n ad B nv cv mv (.slice none 0 0) :=
 h.un.far ((Cg.below _ hA).grown hg (fun k e=>Or.inl e)) (fun b hb=>by have:=(h.mr.row.lt b hb).1;have:=h.HB;omega)
theorem P2.add (h:P2 w wB w1 p n ad B nv cv m T H mv k M) {wA:World} {mv':Value} {q:Nat} {N:List (MethA × Value × Value)} (hm:q=N.length) (hN:∀ x∈N,Sub2 H w1 x) (hs:∀ x∈N,∀ b,mv.ownBlock=some b→x.2.1.ownBlock≠some b∧x.2.2.ownBlock≠some b) (hA:Below w1.heap.size w1 wA) (ho:w2.ownsRow H 75 4 mv' (k+q) (mt4s M++mt4s N)) (hg:wA.grownBy w2 mv.ownBlock) (hat:∀ b,mv'.ownBlock=some b→mv.ownBlock=some b∨b=wA.heap.size) (hok:∀ (j:Nat) x,N[j]?=some x→methOk (m:Int) (k+j) x.1):P2 w wB (w2.setCell ⟨B,2,none⟩ mv') p n ad B nv cv m T H mv' (k+q) (M++N):=by
 have hu:=h.grown hA hg
 have hc1:Cg (fun b=>mv.ownBlock=some b) w1 w2:=(Cg.below _ hA).grown hg (fun b e=>Or.inl e)
 have hset:Cg (fun b=>b=B) w2 (w2.setCell ⟨B,2,none⟩ mv'):=(Cg.refl (fun b=>b=B) w2).set ⟨B,2,none⟩ rfl mv'
 refine⟨hu.put2 mv',row_cg (row_cg h.row hc1 (fun b hb hf=>?_)) hset (fun b hb hf=>?_),h.rlt,h.len,h.cls,h.HB,?_,(h.mr.add hm hN hs hA ho hg hat hok).carry hset (fun b hb=>by have:=h.HB;omega)⟩
 ·have:=h.rlt b hb;have:=(h.mr.row.lt b hf).1;omega
 ·have:=(h.row.lt b hb).1;omega
 ·have:=h.Hsz;have:=hc1.size;have:=hset.size;omega
end
def bndSub (k:Nat) (b:List (Int × Int)):Prop:=∃ S:List Nat,S.Pairwise (· < ·)∧(∀ s∈S,s < k)∧b=S.map (fun (s:Nat)=>((s:Int),(s:Int)))
theorem bndSub.nil (k:Nat):bndSub k []:=⟨[],List.Pairwise.nil,by simp,rfl⟩
theorem bndSub.mono {k k':Nat} {b:List (Int × Int)} (h:bndSub k b) (hk:k≤k'):bndSub k' b:=by
 obtain⟨S,h1,h2,h3⟩:=h
 exact⟨S,h1,fun s hs=>Nat.lt_of_lt_of_le (h2 s hs) hk,h3⟩
theorem bndSub.add {k:Nat} {b:List (Int × Int)} (h:bndSub k b):bndSub (k+1) (b++[((k:Int),(k:Int))]):=by
 obtain⟨S,h1,h2,rfl⟩:=h
 refine⟨S++[k],List.pairwise_append.2 ⟨h1,List.pairwise_singleton _ _,fun a ha c hc=>by rw [List.mem_singleton.1 hc];exact h2 a ha⟩,fun s hs=>?_,by simp⟩
 rcases List.mem_append.1 hs with hs | hs
 ·have:=h2 s hs;omega
 ·rw [List.mem_singleton.1 hs];omega
theorem rise_len (k:Nat):∀ (S:List Nat) (lo:Nat),S.Pairwise (· < ·)→(∀ s∈S,lo≤s∧s < k)→S.length+lo≤k∨S=[]
 | [],_,_,_=>Or.inr rfl
 | a :: S,lo,hp,hs=>by
  left
  have h1:=hs a (by simp)
  have hp':=List.pairwise_cons.1 hp
  rcases rise_len k S (a+1) hp'.2 (fun s h=>⟨hp'.1 s h,(hs s (by simp [h])).2⟩) with h | h
  ·simp only [List.length_cons];omega
  ·subst h;simp;omega
theorem bndSub.len {k:Nat} {b:List (Int × Int)} (h:bndSub k b):b.length≤k:=by
 obtain⟨S,h1,h2,rfl⟩:=h
 rcases rise_len k S 0 h1 (fun s hs=>⟨by omega,h2 s hs⟩) with h | h
 ·simpa using h
 ·subst h;simp
theorem clsOk.same {L L':List ClassA} {j:Nat} {x x':ClassA} (h:clsOk L j x) (h1:x'.nm=x.nm) (h2:x'.super=x.super) (h3:x'.fields=x.fields) (hL:∀ (i:Nat) d,L[i]?=some d→∃ d',L'[i]?=some d'∧d'.fields=d.fields):clsOk L' j x':=by
 refine⟨by rw [h1,h2,h3];exact h.z,by rw [h1,h2,h3];exact h.o,by rw [h1];exact h.nm,fun hj=>?_,by rw [h3];exact h.fld⟩
 rw [h2,h3]
 rcases h.sup hj with e | ⟨e1,e2,d,e3,e4⟩
 ·exact Or.inl e
 ·obtain⟨d',e5,e6⟩:=hL _ d e3
  exact Or.inr ⟨e1,e2,d',e5,by rw [e6];exact e4⟩
theorem cl4s_set:∀ (T:List (ClassA × Value)) (c:Nat) (x:ClassA × Value) (b:List (Int × Int)) (v:Value),T[c]?=some x→cl4s (T.set c (⟨x.1.nm,x.1.super,x.1.fields,b⟩,v))=(cl4s T).set (c*4+3) v
 | [],c,x,b,v,h=>by simp at h
 | s :: T,0,x,b,v,h=>by simp at h;subst h;simp [cl4s,cl4]
 | s :: T,c+1,x,b,v,h=>by
  have:=cl4s_set T c x b v (by simpa using h)
  rw [List.set_cons_succ,show (c+1)*4+3=4+(c*4+3) by omega]
  simp only [cl4s,this]
  rw [List.set_append_right _ _ (by simp [cl4])]
  simp [cl4]
theorem infoBind:(Tryz.prog.info? 78).map (fun i=>(i.zero,i.size,i.bytes))=some (some (.agg #[.int .i64 0,.int .i64 0]),2,16):=by kernel_rfl
structure P3 (w wB wr:World) (p n:Nat) (ad:Option Addr) (B:Nat) (nv:Value) (g cp m:Nat) (T:List (ClassA × Value)) (H:Nat) (mv:Value) (M:List (MethA × Value × Value)) (H3 c k:Nat):Prop where
 un:Un w wB wr p n ad B nv (.slice (some ⟨g,0,none⟩) m cp) mv (.slice none 0 0)
 row:wr.ownsRow (B+1) 72 4 (.slice (some ⟨g,0,none⟩) m cp) m (cl4s T)
 gH:g < H
 len:m=T.length
 HB:B < H
 HH:H≤H3
 Hsz:H3≤wr.heap.size
 mr:MRow H wr (m:Int) mv 9 M
 mlt:∀ b,mv.ownBlock=some b→b < H3
 slt:∀ x∈M,∀ b,(x.2.1.ownBlock=some b∨x.2.2.ownBlock=some b)→b < H3
 bnd:∀ (j:Nat) x,T[j]?=some x→wr.ownsRow H3 78 2 x.2 x.1.binds.length (pr2 x.1.binds)
 bsep:∀ (i j:Nat) x y,T[i]?=some x→T[j]?=some y→i≠j→∀ b,x.2.ownBlock=some b→y.2.ownBlock≠some b
 ok:∀ (j:Nat) x,T[j]?=some x→clsOk (T.map (·.1)) j x.1
 don:∀ (j:Nat) x,T[j]?=some x→(j=0→x.1.binds=[])∧(1≤j→j < c→bndSub 6 x.1.binds)∧(j=c→bndSub k x.1.binds)∧(c < j→x.1.binds=[])
section
variable {w wB w1 w2:World} {p n B g cp m H H3 c k:Nat} {ad:Option Addr} {nv mv:Value} {T:List (ClassA × Value)} {M:List (MethA × Value × Value)}
theorem MRow.far {c:Int} {F:Nat→Prop} (h:MRow H w1 c mv k M) (cg:Cg F w1 w2) (hF:∀ b,F b→b < H∨H3≤b) (mlt:∀ b,mv.ownBlock=some b→b < H3) (slt:∀ x∈M,∀ b,(x.2.1.ownBlock=some b∨x.2.2.ownBlock=some b)→b < H3):MRow H w2 c mv k M :=
 ⟨row_cg h.row cg (fun b hb hf=>by have:=(h.row.lt b hb).1;have:=hF b hf;have:=mlt b hb;omega),h.len,fun x hx=>(h.sub x hx).carry cg (fun b hb hf=>⟨fun e=>by have:=hF b hf;have:=slt x hx b (Or.inl e);omega,fun e=>by have:=hF b hf;have:=slt x hx b (Or.inr e);omega⟩),h.sep,h.ok⟩
theorem P3.start (h:P2 w wB w1 p n ad B nv (.slice (some ⟨g,0,none⟩) m cp) m T H mv 9 M):P3 w wB w1 p n ad B nv g cp m T H mv M w1.heap.size 1 0:=by
 refine⟨h.un,h.row,h.rlt g rfl,h.len,h.HB,h.Hsz,Nat.le_refl _,h.mr,fun b hb=>(h.mr.row.lt b hb).2,fun x hx b hb=>?_,fun j x hx=>?_,fun i j x y hx hy hij b hb=>?_,fun j x hx=>(h.cls.ok j x hx).1,fun j x hx=>?_⟩
 ·rcases hb with e | e
  ·exact ((h.mr.sub x hx).l.lt b e).2
  ·exact ((h.mr.sub x hx).c.lt b e).2
 ·obtain⟨_,e1,e2⟩:=h.cls.ok j x hx
  rw [e1,e2];exact World.ownsRow_nil _ _ _ _
 ·rw [(h.cls.ok i x hx).2.2] at hb
  cases hb
 ·have e:=(h.cls.ok j x hx).2.1
  rw [e]
  exact⟨fun _=>rfl,fun _ _=>bndSub.nil _,fun _=>bndSub.nil _,fun _=>rfl⟩
theorem P3.move (h:P3 w wB w1 p n ad B nv g cp m T H mv M H3 c k) {F:Nat→Prop} (un:Un w wB w2 p n ad B nv (.slice (some ⟨g,0,none⟩) m cp) mv (.slice none 0 0)) (cg:Cg F w1 w2) (hF:∀ b,F b→b≤B):P3 w wB w2 p n ad B nv g cp m T H mv M H3 c k :=
 ⟨un,row_cg h.row cg (fun b hb hf=>by have:=(h.row.lt b hb).1;have:=hF b hf;omega),h.gH,h.len,h.HB,h.HH,Nat.le_trans h.Hsz cg.size,h.mr.carry cg (fun b hb=>by have:=hF b hb;have:=h.HB;omega),h.mlt,h.slt,fun j x hx=>row_cg (h.bnd j x hx) cg (fun b hb hf=>by have:=((h.bnd j x hx).lt b hb).1;have:=hF b hf;have:=h.HB;have:=h.HH;omega),h.bsep,h.ok,h.don⟩
theorem P3.next (h:P3 w wB w1 p n ad B nv g cp m T H mv M H3 c k) (t:Tp w2 p ad n) (cg:Cg (fun k=>k=p) w1 w2):P3 w wB w2 p n ad B nv g cp m T H mv M H3 c k :=
 h.move (h.un.next t cg) cg (fun b hb=>by have:=h.un.pB;omega)
theorem P3.keep (h:P3 w wB w1 p n ad B nv g cp m T H mv M H3 c k) (b:Below w1.heap.size w1 w2):P3 w wB w2 p n ad B nv g cp m T H mv M H3 c k :=
 h.move (F:=fun _=>False) (h.un.keep b) (Cg.below _ b) (fun _ hf=>hf.elim)
theorem P3.skip (h:P3 w wB w1 p n ad B nv g cp m T H mv M H3 c k):P3 w wB w1 p n ad B nv g cp m T H mv M H3 c (k+1) :=
 ⟨h.un,h.row,h.gH,h.len,h.HB,h.HH,h.Hsz,h.mr,h.mlt,h.slt,h.bnd,h.bsep,h.ok,fun j x hx=>by
  obtain⟨a,b,d,e⟩:=h.don j x hx
  exact⟨a,b,fun hj=>(d hj).mono (by omega),e⟩⟩
theorem P3.over (h:P3 w wB w1 p n ad B nv g cp m T H mv M H3 c 6) (hc:1≤c):P3 w wB w1 p n ad B nv g cp m T H mv M H3 (c+1) 0 :=
 ⟨h.un,h.row,h.gH,h.len,h.HB,h.HH,h.Hsz,h.mr,h.mlt,h.slt,h.bnd,h.bsep,h.ok,fun j x hx=>by
  obtain⟨a,b,d,e⟩:=h.don j x hx
  refine⟨a,fun h1 h2=>?_,fun hj=>by rw [e (by omega)];exact bndSub.nil _,fun hj=>e (by omega)⟩
  rcases (show j < c∨j=c by omega) with hj | hj
  ·exact b h1 hj
  ·exact d hj⟩
theorem P3.s24 (h:P3 w wB w1 p n ad B nv g cp m T H mv M H3 c k) {x:ClassA × Value} (hx:T[c]?=some x):w1.cell? ⟨B,1,none⟩=some (.slice (some ⟨g,0,none⟩) m cp)∧w1.cell? ⟨g,c*4+3,none⟩=some x.2∧w1.frozen? ⟨g,c*4+3,none⟩=false :=
 ⟨h.un.c1,(h.row.cellAt _ (by have:=(List.getElem?_eq_some_iff.1 hx).1;have:=h.len;omega)).trans (cl4s_get T c x hx).2.2.2,h.row.frozenAt _⟩
theorem P3.grown (h:P3 w wB w1 p n ad B nv g cp m T H mv M H3 c k) {x:ClassA × Value} (hx:T[c]?=some x) {wA:World} (hA:Below w1.heap.size w1 wA) (hg:wA.grownBy w2 x.2.ownBlock):Un w wB w2 p n ad B nv (.slice (some ⟨g,0,none⟩) m cp) mv (.slice none 0 0)∧w2.ownsRow (B+1) 72 4 (.slice (some ⟨g,0,none⟩) m cp) m (cl4s T)∧Cg (fun b=>x.2.ownBlock=some b) w1 w2:=by
 have hc1:Cg (fun b=>x.2.ownBlock=some b) w1 w2:=(Cg.below _ hA).grown hg (fun b e=>Or.inl e)
 have hb:=fun b e=>((h.bnd c x hx).lt b e).1
 refine⟨h.un.far hc1 (fun b e=>by have:=hb b e;have:=h.HB;have:=h.HH;omega),row_cg h.row hc1 (fun b e hf=>?_),hc1⟩
 have e1:g=b:=by simpa [Value.ownBlock] using e
 have:=hb b hf;have:=h.gH;have:=h.HH;omega
theorem P3.add (h:P3 w wB w1 p n ad B nv g cp m T H mv M H3 c k) (hc:1≤c) {x:ClassA × Value} (hx:T[c]?=some x) {wA:World} {bv':Value} (hA:Below w1.heap.size w1 wA) (ho:w2.ownsRow H3 78 2 bv' (x.1.binds.length+1) (pr2 x.1.binds++pr2 [((k:Int),(k:Int))])) (hg:wA.grownBy w2 x.2.ownBlock) (hat:∀ b,bv'.ownBlock=some b→x.2.ownBlock=some b∨b=wA.heap.size):P3 w wB (w2.setCell ⟨g,c*4+3,none⟩ bv') p n ad B nv g cp m (T.set c (⟨x.1.nm,x.1.super,x.1.fields,x.1.binds++[((k:Int),(k:Int))]⟩,bv')) H mv M H3 c (k+1):=by
 obtain⟨hu,hr,hc1⟩:=h.grown hx hA hg
 have hcT:c < T.length:=(List.getElem?_eq_some_iff.1 hx).1
 have hgB:B < g:=by have:=(h.row.lt g rfl).1;omega
 have hset:Cg (fun b=>b=g) w2 (w2.setCell ⟨g,c*4+3,none⟩ bv'):=(Cg.refl (fun b=>b=g) w2).set ⟨g,c*4+3,none⟩ rfl bv'
 have hgt:∀ {j:Nat} {y:ClassA × Value},(T.set c (⟨x.1.nm,x.1.super,x.1.fields,x.1.binds++[((k:Int),(k:Int))]⟩,bv'))[j]?=some y→(j=c∧y=(⟨x.1.nm,x.1.super,x.1.fields,x.1.binds++[((k:Int),(k:Int))]⟩,bv'))∨(j≠c∧T[j]?=some y):=by
  intro j y hy
  by_cases hj:c=j
  ·subst hj
   rw [List.getElem?_set_self hcT] at hy
   exact Or.inl ⟨rfl,(Option.some.inj hy).symm⟩
  ·rw [List.getElem?_set_ne hj] at hy
   exact Or.inr ⟨fun e=>hj e.symm,hy⟩
 have hold:=fun b e=>((h.bnd c x hx).lt b e)
 refine⟨hu.far hset (fun b e=>by omega),?_,h.gH,by simp [h.len],h.HB,h.HH,?_,?_,h.mlt,h.slt,fun j y hy=>?_,fun i j y z hy hz hij b hb=>?_,fun j y hy=>?_,fun j y hy=>?_⟩
 ·rw [cl4s_set T c x _ bv' hx]
  exact (hr.stored _ _).1
 ·have:=h.Hsz;have:=hc1.size;have:=hset.size;omega
 ·exact (h.mr.far hc1 (fun b e=>Or.inr (hold b e).1) h.mlt h.slt).carry hset (fun b e=>by have:=h.gH;omega)
 ·rcases hgt hy with ⟨rfl,rfl⟩ | ⟨hj,hy⟩
  ·have e1:(x.1.binds++[((k:Int),(k:Int))]).length=x.1.binds.length+1:=by simp
   have:=row_cg ho hset (fun b e hf=>by have:=(ho.lt b e).1;have:=h.gH;have:=h.HH;omega)
   simp only [e1,pr2_app]
   exact this
  ·have e0:=h.bnd j y hy
   exact row_cg (row_cg e0 hc1 (fun b e hf=>h.bsep c j x y hx hy (fun e=>hj e.symm) b hf e)) hset (fun b e hf=>by have:=(e0.lt b e).1;have:=h.gH;have:=h.HH;omega)
 ·have key:∀ {j:Nat} {y:ClassA × Value},T[j]?=some y→j≠c→∀ b,bv'.ownBlock=some b→y.2.ownBlock≠some b:=fun {j y} hy hj b hb e=>by
   rcases hat b hb with e1 | e1
   ·exact h.bsep c j x y hx hy (fun e=>hj e.symm) b e1 e
   ·have:=((h.bnd j y hy).lt b e).2;have:=hA.size;omega
  rcases hgt hy with ⟨rfl,rfl⟩ | ⟨hi,hy'⟩ <;> rcases hgt hz with ⟨rfl,rfl⟩ | ⟨hj,hz'⟩
  ·exact absurd rfl hij
  ·exact key hz' hj b hb
  ·exact fun e=>key hy' hi b e hb
  ·exact h.bsep i j y z hy' hz' hij b hb
 ·have hL:∀ (i:Nat) d,(T.map (·.1))[i]?=some d→∃ d',((T.set c (⟨x.1.nm,x.1.super,x.1.fields,x.1.binds++[((k:Int),(k:Int))]⟩,bv')).map (·.1))[i]?=some d'∧d'.fields=d.fields:=by
   intro i d hd
   obtain⟨z,hz,rfl⟩:∃ z,T[i]?=some z∧z.1=d:=by simpa using hd
   by_cases hi:c=i
   ·subst hi
    rw [hx] at hz
    cases hz
    exact⟨⟨x.1.nm,x.1.super,x.1.fields,x.1.binds++[((k:Int),(k:Int))]⟩,by rw [List.getElem?_map,List.getElem?_set_self hcT];rfl,rfl⟩
   ·exact⟨z.1,by rw [List.getElem?_map,List.getElem?_set_ne hi,hz];rfl,rfl⟩
  rcases hgt hy with ⟨rfl,rfl⟩ | ⟨hj,hy⟩
  ·exact (h.ok _ x hx).same rfl rfl rfl hL
  ·exact (h.ok j y hy).same rfl rfl rfl hL
 ·rcases hgt hy with ⟨rfl,rfl⟩ | ⟨hj,hy⟩
  ·exact⟨fun e=>by omega,fun _ e=>by omega,fun _=>((h.don _ x hx).2.2.1 rfl).add,fun e=>by omega⟩
  ·obtain⟨a,b,d,e⟩:=h.don j y hy
   exact⟨a,b,fun e=>absurd e hj,e⟩
end
end Wd
end Go.Proofs.YteiejjmhmmkdhaaGreat

/- A tape's program: its objects. -/
namespace Go.Proofs.YteiejjmhmmkdhaaGreat
open Go.RowKit
set_option linter.unusedVariables false
set_option maxRecDepth 20000
namespace Wd
structure ObjA where
 cls:Int
 flds:List (Int × Int)
def ob2s:List (ObjA × Value)→List Value
 | []=>[]
 | x :: X=>.int .i64 x.1.cls :: x.2 :: ob2s X
theorem ob2s_app:∀ A B,ob2s (A++B)=ob2s A++ob2s B
 | [],_=>rfl
 | t :: A,B=>by simp [ob2s,ob2s_app A B]
theorem ob2s_get:∀ (T:List (ObjA × Value)) (k:Nat) t,T[k]?=some t→(ob2s T)[k*2]?=some (.int .i64 t.1.cls)∧(ob2s T)[k*2+1]?=some t.2
 | [],k,t,h=>by simp at h
 | s :: T,0,t,h=>by simp at h;subst h;simp [ob2s]
 | s :: T,k+1,t,h=>by
  have:=ob2s_get T k t (by simpa using h)
  rw [show (k+1)*2=k*2+2 by omega]
  simpa [ob2s] using this
theorem ob2s_one:∀ (T:List (ObjA × Value)),(∀ x∈T,∃ a m c,x.2=.slice a m c)→∀ u∈ob2s T,u.oneCell'=true
 | [],_,u,h=>by cases h
 | t :: T,hT,u,h=>by
  simp only [ob2s,List.mem_cons] at h
  rcases h with rfl | rfl | h
  ·rfl
  ·exact sl_one (hT t (by simp))
  ·exact ob2s_one T (fun x hx=>hT x (by simp [hx])) u h
def valOk (N:Nat) (v:Int × Int):Prop:=v=(0,0)∨v=(1,0)∨v=(2,0)∨(v.1=3∧-400≤v.2∧v.2≤499)∨(v.1=4∧0≤v.2∧v.2 < N)
structure objOk (L:List ClassA) (N j:Nat) (x:ObjA):Prop where
 cls:(2≤x.cls∧∃ d,L[x.cls.toNat]?=some d∧(x.flds.length:Int)=d.fields)∨(0 < j∧x.cls=1∧x.flds.length≤8)
 flds:∀ v∈x.flds,valOk N v
structure Fin (wr:World) (B g cp m:Nat) (T:List (ClassA × Value)) (H:Nat) (mv:Value) (M:List (MethA × Value × Value)) (H3 H4:Nat):Prop where
 row:wr.ownsRow (B+1) 72 4 (.slice (some ⟨g,0,none⟩) m cp) m (cl4s T)
 len:m=T.length
 BH:B < H
 HH:H≤H3
 gl:g < H4
 mr:MRow H wr (m:Int) mv 9 M
 ml:∀ b,mv.ownBlock=some b→b < H4
 sl:∀ x∈M,∀ b,(x.2.1.ownBlock=some b∨x.2.2.ownBlock=some b)→b < H4
 bnd:∀ (j:Nat) x,T[j]?=some x→wr.ownsRow H3 78 2 x.2 x.1.binds.length (pr2 x.1.binds)
 bl:∀ (j:Nat) x,T[j]?=some x→∀ b,x.2.ownBlock=some b→b < H4
 ok:∀ (j:Nat) x,T[j]?=some x→clsOk (T.map (·.1)) j x.1
 don:∀ (j:Nat) x,T[j]?=some x→(j=0→x.1.binds=[])∧bndSub 6 x.1.binds
section
variable {w wB w1 w2:World} {p n B g cp m H H3 H4 c k:Nat} {ad:Option Addr} {nv mv:Value} {T:List (ClassA × Value)} {M:List (MethA × Value × Value)}
theorem Fin.start (h:P3 w wB w1 p n ad B nv g cp m T H mv M H3 m 0):Fin w1 B g cp m T H mv M H3 w1.heap.size:=by
 refine⟨h.row,h.len,h.HB,h.HH,(h.row.lt g rfl).2,h.mr,fun b hb=>(h.mr.row.lt b hb).2,fun x hx b hb=>?_,h.bnd,fun j x hx b hb=>((h.bnd j x hx).lt b hb).2,h.ok,fun j x hx=>?_⟩
 ·rcases hb with e | e
  ·exact ((h.mr.sub x hx).l.lt b e).2
  ·exact ((h.mr.sub x hx).c.lt b e).2
 ·obtain⟨a,b,_,_⟩:=h.don j x hx
  refine⟨a,?_⟩
  by_cases hj:j=0
  ·rw [a hj];exact bndSub.nil _
  ·exact b (by omega) (by have:=(List.getElem?_eq_some_iff.1 hx).1;have:=h.len;omega)
theorem Fin.carry (h:Fin w1 B g cp m T H mv M H3 H4) {F:Nat→Prop} (cg:Cg F w1 w2) (hF:∀ b,F b→b≤B∨H4≤b):Fin w2 B g cp m T H mv M H3 H4 :=
 ⟨row_cg h.row cg (fun b hb hf=>by have e:g=b:=by simpa [Value.ownBlock] using hb
                                   have:=(h.row.lt b hb).1;have:=hF b hf;have:=h.gl;omega),h.len,h.BH,h.HH,h.gl,h.mr.far cg (H3:=H4) (fun b hf=>by have:=hF b hf;have:=h.BH;omega) h.ml h.sl,h.ml,h.sl,fun j x hx=>row_cg (h.bnd j x hx) cg (fun b hb hf=>by have:=((h.bnd j x hx).lt b hb).1;have:=h.bl j x hx b hb;have:=hF b hf;have:=h.BH;have:=h.HH;omega),h.bl,h.ok,h.don⟩
end
structure P4 (w wB wr:World) (p n:Nat) (ad:Option Addr) (B:Nat) (nv:Value) (g cp m:Nat) (T:List (ClassA × Value)) (H:Nat) (mv:Value) (M:List (MethA × Value × Value)) (H3 H4 N:Nat) (ov:Value) (k:Nat) (O:List (ObjA × Value)):Prop where
 un:Un w wB wr p n ad B nv (.slice (some ⟨g,0,none⟩) m cp) mv ov
 fin:Fin wr B g cp m T H mv M H3 H4
 row:wr.ownsRow H4 66 2 ov k (ob2s O)
 len:k=O.length
 sub:∀ x∈O,wr.ownsRow H4 80 2 x.2 x.1.flds.length (pr2 x.1.flds)
 sep:∀ x∈O,∀ b,ov.ownBlock=some b→x.2.ownBlock≠some b
 ok:∀ (j:Nat) x,O[j]?=some x→objOk (T.map (·.1)) N j x.1
 HB:B < H4
 Hsz:H4≤wr.heap.size
section
variable {w wB w1 w2:World} {p n B g cp m H H3 H4 N k:Nat} {ad:Option Addr} {nv mv ov:Value} {T:List (ClassA × Value)} {M:List (MethA × Value × Value)} {O:List (ObjA × Value)}
theorem P4.start (N:Nat) (h:P3 w wB w1 p n ad B nv g cp m T H mv M H3 m 0):P4 w wB w1 p n ad B nv g cp m T H mv M H3 w1.heap.size N (.slice none 0 0) 0 [] :=
 ⟨h.un,Fin.start h,World.ownsRow_nil _ _ _ _,rfl,by simp,by simp,by simp,h.un.lt,Nat.le_refl _⟩
theorem P4.move (h:P4 w wB w1 p n ad B nv g cp m T H mv M H3 H4 N ov k O) {F:Nat→Prop} (un:Un w wB w2 p n ad B nv (.slice (some ⟨g,0,none⟩) m cp) mv ov) (cg:Cg F w1 w2) (hF:∀ b,F b→b≤B∨(H4≤b∧ov.ownBlock≠some b∧∀ x∈O,x.2.ownBlock≠some b)):P4 w wB w2 p n ad B nv g cp m T H mv M H3 H4 N ov k O:=by
 refine⟨un,h.fin.carry cg (fun b hb=>?_),row_cg h.row cg (fun b hb hf=>?_),h.len,fun x hx=>row_cg (h.sub x hx) cg (fun b hb hf=>?_),h.sep,h.ok,h.HB,Nat.le_trans h.Hsz cg.size⟩
 ·rcases hF b hb with e | e
  ·exact Or.inl e
  ·exact Or.inr e.1
 ·rcases hF b hf with e | e
  ·have:=(h.row.lt b hb).1;have:=h.HB;omega
  ·exact e.2.1 hb
 ·rcases hF b hf with e | e
  ·have:=((h.sub x hx).lt b hb).1;have:=h.HB;omega
  ·exact e.2.2 x hx hb
theorem P4.next (h:P4 w wB w1 p n ad B nv g cp m T H mv M H3 H4 N ov k O) (t:Tp w2 p ad n) (cg:Cg (fun k=>k=p) w1 w2):P4 w wB w2 p n ad B nv g cp m T H mv M H3 H4 N ov k O :=
 h.move (h.un.next t cg) cg (fun b hb=>Or.inl (by have:=h.un.pB;omega))
theorem P4.keep (h:P4 w wB w1 p n ad B nv g cp m T H mv M H3 H4 N ov k O) (b:Below w1.heap.size w1 w2):P4 w wB w2 p n ad B nv g cp m T H mv M H3 H4 N ov k O :=
 h.move (F:=fun _=>False) (h.un.keep b) (Cg.below _ b) (fun _ hf=>hf.elim)
structure Q4 (w wB wr:World) (p n:Nat) (ad:Option Addr) (B:Nat) (nv:Value) (g cp m:Nat) (T:List (ClassA × Value)) (H:Nat) (mv:Value) (M:List (MethA × Value × Value)) (H3 H4 N:Nat) (ov:Value) (k:Nat) (O:List (ObjA × Value)) (D:Nat) (c:Int) (fv:Value) (f:Nat) (F:List (Int × Int)):Prop where
 p4:P4 w wB wr p n ad B nv g cp m T H mv M H3 H4 N ov k O
 d0:wr.cell? ⟨D,0,none⟩=some (.int .i64 c)
 d1:wr.cell? ⟨D,1,none⟩=some fv
 dz:∀ j,wr.frozen? ⟨D,j,none⟩=false
 HD:H4≤D
 nD:ov.ownBlock≠some D
 sD:∀ x∈O,x.2.ownBlock≠some D
 fr:wr.ownsRow H4 80 2 fv f (pr2 F)
 fl:f=F.length
 nf:fv.ownBlock≠some D
 of:∀ b,fv.ownBlock=some b→ov.ownBlock≠some b∧∀ x∈O,x.2.ownBlock≠some b
 fo:∀ v∈F,valOk N v
variable {D f:Nat} {c:Int} {fv:Value} {F:List (Int × Int)}
theorem Q4.lt (h:Q4 w wB w1 p n ad B nv g cp m T H mv M H3 H4 N ov k O D c fv f F):D < w1.heap.size:=World.block_lt_of_cell? w1 _ h.d0
theorem Q4.start (h:P4 w wB w1 p n ad B nv g cp m T H mv M H3 H4 N ov k O) (hw:w2=w1.alloc (.cells #[.int .i64 c,.slice none 0 0] 66)):Q4 w wB w2 p n ad B nv g cp m T H mv M H3 H4 N ov k O w1.heap.size c (.slice none 0 0) 0 []:=by
 subst hw
 have e:(w1.alloc (.cells #[.int .i64 c,.slice none 0 0] 66)).heap[w1.heap.size]?=some (.cells #[.int .i64 c,.slice none 0 0] 66 (0,0)):=alloc_at _ _ _ rfl
 exact⟨h.keep ((Below.refl _ _).alloc (Nat.le_refl _) _),cell_in e rfl,cell_in e rfl,fun j=>loose_in e,h.Hsz,fun e=>by have:=(h.row.lt _ e).2;omega,fun x hx e=>by have:=((h.sub x hx).lt _ e).2;omega,World.ownsRow_nil _ _ _ _,rfl,fun e=>(by cases e),fun b e=>(by cases e),by simp⟩
theorem Q4.move (h:Q4 w wB w1 p n ad B nv g cp m T H mv M H3 H4 N ov k O D c fv f F) {G:Nat→Prop} (p4:P4 w wB w2 p n ad B nv g cp m T H mv M H3 H4 N ov k O) (cg:Cg G w1 w2) (hG:∀ b,G b→b≤B):Q4 w wB w2 p n ad B nv g cp m T H mv M H3 H4 N ov k O D c fv f F:=by
 have e:w2.heap[D]?=w1.heap[D]?:=cg.block D h.lt (fun hf=>by have:=hG D hf;have:=h.HD;have:=h.p4.HB;omega)
 exact⟨p4,(World.cell?_of_block (a:=⟨D,0,none⟩) e).trans h.d0,(World.cell?_of_block (a:=⟨D,1,none⟩) e).trans h.d1,fun j=>(World.frozen?_of_block (a:=⟨D,j,none⟩) e).trans (h.dz j),h.HD,h.nD,h.sD,row_cg h.fr cg (fun b hb hf=>by have:=(h.fr.lt b hb).1;have:=hG b hf;have:=h.p4.HB;omega),h.fl,h.nf,h.of,h.fo⟩
theorem Q4.next (h:Q4 w wB w1 p n ad B nv g cp m T H mv M H3 H4 N ov k O D c fv f F) (t:Tp w2 p ad n) (cg:Cg (fun k=>k=p) w1 w2):Q4 w wB w2 p n ad B nv g cp m T H mv M H3 H4 N ov k O D c fv f F :=
 h.move (h.p4.next t cg) cg (fun b hb=>by have:=h.p4.un.pB;omega)
theorem Q4.keep (h:Q4 w wB w1 p n ad B nv g cp m T H mv M H3 H4 N ov k O D c fv f F) (b:Below w1.heap.size w1 w2):Q4 w wB w2 p n ad B nv g cp m T H mv M H3 H4 N ov k O D c fv f F :=
 h.move (G:=fun _=>False) (h.p4.keep b) (Cg.below _ b) (fun _ hf=>hf.elim)
theorem Q4.box (h:Q4 w wB w1 p n ad B nv g cp m T H mv M H3 H4 N ov k O D c fv f F) (j:Nat) (x:Value):P4 w wB (w1.setCell ⟨D,j,none⟩ x) p n ad B nv g cp m T H mv M H3 H4 N ov k O:=by
 have hc:Cg (fun b=>b=D) w1 (w1.setCell ⟨D,j,none⟩ x):=(Cg.refl (fun b=>b=D) w1).set ⟨D,j,none⟩ rfl x
 exact h.p4.move (h.p4.un.far hc (fun b hb=>by have:=h.HD;have:=h.p4.HB;omega)) hc (fun b hb=>Or.inr (by subst hb;exact⟨h.HD,h.nD,h.sD⟩))
theorem Q4.setc (h:Q4 w wB w1 p n ad B nv g cp m T H mv M H3 H4 N ov k O D c fv f F) (c':Int):Q4 w wB (w1.setCell ⟨D,0,none⟩ (.int .i64 c')) p n ad B nv g cp m T H mv M H3 H4 N ov k O D c' fv f F :=
 ⟨h.box 0 _,World.cell?_setCell_same _ _ _ h.d0,(World.cell?_setCell_other _ _ _ _ (by intro e;cases e)).trans h.d1,fun j=>(World.frozen?_setCell _ _ _ _).trans (h.dz j),h.HD,h.nD,h.sD,row_set h.fr _ _ h.nf,h.fl,h.nf,h.of,h.fo⟩
theorem Q4.s36 (h:Q4 w wB w1 p n ad B nv g cp m T H mv M H3 H4 N ov k O D c fv f F):w1.cell? ⟨D,1,none⟩=some fv∧w1.frozen? ⟨D,1,none⟩=false:=⟨h.d1,h.dz 1⟩
theorem Q4.grown (h:Q4 w wB w1 p n ad B nv g cp m T H mv M H3 H4 N ov k O D c fv f F) {wA:World} (hA:Below w1.heap.size w1 wA) (hg:wA.grownBy w2 fv.ownBlock):P4 w wB w2 p n ad B nv g cp m T H mv M H3 H4 N ov k O∧w2.heap[D]?=w1.heap[D]?:=by
 have hc1:Cg (fun b=>fv.ownBlock=some b) w1 w2:=(Cg.below _ hA).grown hg (fun b e=>Or.inl e)
 have hb:=fun b e=>(h.fr.lt b e).1
 exact⟨h.p4.move (h.p4.un.far hc1 (fun b e=>by have:=hb b e;have:=h.p4.HB;omega)) hc1 (fun b e=>Or.inr ⟨hb b e,h.of b e⟩),hc1.block D h.lt (fun e=>h.nf e)⟩
theorem Q4.g36 (h:Q4 w wB w1 p n ad B nv g cp m T H mv M H3 H4 N ov k O D c fv f F) {wA:World} (hA:Below w1.heap.size w1 wA) (hg:wA.grownBy w2 fv.ownBlock):w2.cell? ⟨D,1,none⟩=some fv∧w2.frozen? ⟨D,1,none⟩=false:=by
 have e:=(h.grown hA hg).2
 exact⟨(World.cell?_of_block (a:=⟨D,1,none⟩) e).trans h.d1,(World.frozen?_of_block (a:=⟨D,1,none⟩) e).trans (h.dz 1)⟩
theorem Q4.app (h:Q4 w wB w1 p n ad B nv g cp m T H mv M H3 H4 N ov k O D c fv f F) {wA:World} {fv':Value} {v:Int × Int} (hv:valOk N v) (hA:Below w1.heap.size w1 wA) (ho:w2.ownsRow H4 80 2 fv' (f+1) (pr2 F++pr2 [v])) (hg:wA.grownBy w2 fv.ownBlock) (hat:∀ b,fv'.ownBlock=some b→fv.ownBlock=some b∨b=wA.heap.size):Q4 w wB (w2.setCell ⟨D,1,none⟩ fv') p n ad B nv g cp m T H mv M H3 H4 N ov k O D c fv' (f+1) (F++[v]):=by
 obtain⟨hp,e⟩:=h.grown hA hg
 have hc:Cg (fun b=>b=D) w2 (w2.setCell ⟨D,1,none⟩ fv'):=(Cg.refl (fun b=>b=D) w2).set ⟨D,1,none⟩ rfl fv'
 have hsz:=hA.size
 have nf':fv'.ownBlock≠some D:=fun e=>by
  rcases hat D e with e1 | e1
  ·exact h.nf e1
  ·have:=h.lt;omega
 refine⟨hp.move (hp.un.far hc (fun b hb=>by have:=h.HD;have:=h.p4.HB;omega)) hc (fun b hb=>Or.inr (by subst hb;exact⟨h.HD,h.nD,h.sD⟩)),(World.cell?_setCell_other _ _ _ _ (by intro e;cases e)).trans ((World.cell?_of_block (a:=⟨D,0,none⟩) e).trans h.d0),World.cell?_setCell_same _ _ _ ((World.cell?_of_block (a:=⟨D,1,none⟩) e).trans h.d1),fun j=>(World.frozen?_setCell _ _ _ _).trans ((World.frozen?_of_block (a:=⟨D,j,none⟩) e).trans (h.dz j)),h.HD,h.nD,h.sD,?_,by simp [h.fl],nf',fun b hb=>?_,fun u hu=>?_⟩
 ·rw [pr2_app]
  exact row_set ho _ _ nf'
 ·rcases hat b hb with e1 | e1
  ·exact h.of b e1
  ·exact⟨fun e2=>by have:=(h.p4.row.lt b e2).2;omega,fun x hx e2=>by have:=((h.p4.sub x hx).lt b e2).2;omega⟩
 ·rcases List.mem_append.1 hu with hu | hu
  ·exact h.fo u hu
  ·rw [List.mem_singleton.1 hu];exact hv
theorem Q4.un37 (h:Q4 w wB w1 p n ad B nv g cp m T H mv M H3 H4 N ov k O D c fv f F) {wA:World} (hA:Below w1.heap.size w1 wA) (hg:wA.grownBy w2 ov.ownBlock):Un w wB w2 p n ad B nv (.slice (some ⟨g,0,none⟩) m cp) mv ov∧Cg (fun b=>ov.ownBlock=some b) w1 w2:=by
 have hc1:Cg (fun b=>ov.ownBlock=some b) w1 w2:=(Cg.below _ hA).grown hg (fun b e=>Or.inl e)
 exact⟨h.p4.un.far hc1 (fun b e=>by have:=(h.p4.row.lt b e).1;have:=h.p4.HB;omega),hc1⟩
theorem Q4.add (h:Q4 w wB w1 p n ad B nv g cp m T H mv M H3 H4 N ov k O D c fv f F) {wA:World} {ov':Value} (hok:objOk (T.map (·.1)) N k ⟨c,F⟩) (hA:Below w1.heap.size w1 wA) (ho:w2.ownsRow H4 66 2 ov' (k+1) (ob2s O++ob2s [(⟨c,F⟩,fv)])) (hg:wA.grownBy w2 ov.ownBlock) (hat:∀ b,ov'.ownBlock=some b→ov.ownBlock=some b∨b=wA.heap.size):P4 w wB (w2.setCell ⟨B,3,none⟩ ov') p n ad B nv g cp m T H mv M H3 H4 N ov' (k+1) (O++[(⟨c,F⟩,fv)]):=by
 obtain⟨hu,hc1⟩:=h.un37 hA hg
 have hc:Cg (fun b=>b=B) w2 (w2.setCell ⟨B,3,none⟩ ov'):=(Cg.refl (fun b=>b=B) w2).set ⟨B,3,none⟩ rfl ov'
 have hsz:=hA.size
 have hb:=fun b e=>(h.p4.row.lt b e).1
 have hall:∀ x∈O++[((⟨c,F⟩:ObjA),fv)],w1.ownsRow H4 80 2 x.2 x.1.flds.length (pr2 x.1.flds)∧∀ b,ov.ownBlock=some b→x.2.ownBlock≠some b:=fun x hx=>by
  rcases List.mem_append.1 hx with hx | hx
  ·exact⟨h.p4.sub x hx,h.p4.sep x hx⟩
  ·rw [List.mem_singleton.1 hx]
   refine⟨by have:=h.fr;rw [h.fl] at this;exact this,fun b e1 e2=>(h.of b e2).1 e1⟩
 refine⟨hu.put3 ov',(h.p4.fin.carry hc1 (fun b e=>Or.inr (hb b e))).carry hc (fun b e=>Or.inl (by omega)),?_,by simp [h.p4.len],fun x hx=>row_cg (row_cg (hall x hx).1 hc1 (fun b e1 e2=>(hall x hx).2 b e2 e1)) hc (fun b e1 e2=>by have:=((hall x hx).1.lt b e1).1;have:=h.p4.HB;omega),fun x hx b e1 e2=>?_,fun j x hx=>?_,h.p4.HB,?_⟩
 ·rw [ob2s_app]
  exact row_set ho _ _ (fun e=>by have:=(ho.lt B e).1;have:=h.p4.HB;omega)
 ·rcases hat b e1 with e | e
  ·exact (hall x hx).2 b e e2
  ·have:=((hall x hx).1.lt b e2).2;omega
 ·by_cases hj:j < O.length
  ·rw [List.getElem?_append_left hj] at hx
   exact h.p4.ok j x hx
  ·rw [List.getElem?_append_right (by omega)] at hx
   obtain rfl:j=O.length:=by have:=(List.getElem?_eq_some_iff.1 hx).1;simp at this;omega
   simp at hx;subst hx
   rw [← h.p4.len];exact hok
 ·have:=h.p4.Hsz;have:=hc1.size;have:=hc.size;omega
end
def sel5 (x z:Int) (j:Nat):Int × Int:=[((0:Int),(0:Int)),(1,0),(2,0),(3,x),(4,z)].getD j (0,0)
theorem sel5_ok {N:Nat} {x z:Int} (hx:-400≤x∧x≤499) (hz:0≤z∧z < N) (j:Nat) (hj:j < 5):valOk N (sel5 x z j):=by
 unfold valOk
 rcases (show j=0∨j=1∨j=2∨j=3∨j=4 by omega) with rfl | rfl | rfl | rfl | rfl
 ·exact Or.inl rfl
 ·exact Or.inr (Or.inl rfl)
 ·exact Or.inr (Or.inr (Or.inl rfl))
 ·exact Or.inr (Or.inr (Or.inr (Or.inl ⟨rfl,hx⟩)))
 ·exact Or.inr (Or.inr (Or.inr (Or.inr ⟨rfl,hz⟩)))
theorem born5 (w:World) (x z:Int) {j:Nat} (hj:j < 5):(w.alloc (.cells #[.int .i64 0,.int .i64 0,.int .i64 1,.int .i64 0,.int .i64 2,.int .i64 0,.int .i64 3,.int .i64 x,.int .i64 4,.int .i64 z] 80)).cell? ⟨w.heap.size,j*2,none⟩=some (.int .i64 (sel5 x z j).1)∧(w.alloc (.cells #[.int .i64 0,.int .i64 0,.int .i64 1,.int .i64 0,.int .i64 2,.int .i64 0,.int .i64 3,.int .i64 x,.int .i64 4,.int .i64 z] 80)).cell? ⟨w.heap.size,j*2+1,none⟩=some (.int .i64 (sel5 x z j).2):=by
 rcases (show j=0∨j=1∨j=2∨j=3∨j=4 by omega) with rfl | rfl | rfl | rfl | rfl <;> simp [sel5]
theorem infoObj:(Tryz.prog.info? 66).map (fun i=>(i.zero,i.size,i.bytes))=some (some (.agg #[.int .i64 0,.slice none 0 0]),2,32):=by kernel_rfl
end Wd
end Go.Proofs.YteiejjmhmmkdhaaGreat

/- Programs as they lie in memory: names, methods, objects, whole programs. -/
namespace Go.Proofs.YteiejjmhmmkdhaaGreat
open Go.RowKit
set_option linter.unusedVariables false
set_option maxRecDepth 20000
namespace Wd
structure NmV (w:World) (v:Value) (L:List ByteArray):Prop where
 mk ::
 ex:∃ ad cap,v=.slice ad L.length cap∧L.length≤cap∧cap≤maxLen∧∀ (k:Nat) x,L[k]?=some x→∃ g off,ad=some ⟨g,off,none⟩∧w.cell? ⟨g,off+k,none⟩=some (.string x)
structure ByV (w:World) (v:Value) (L:List Int):Prop where
 mk ::
 ex:∃ ad cap,v=.slice ad L.length cap∧L.length≤cap∧cap≤maxLen∧∀ (k:Nat) x,L[k]?=some x→(0≤x∧x≤255)∧∃ g off,ad=some ⟨g,off,none⟩∧w.cell? ⟨g,off+k,none⟩=some (.int .u8 x)
structure MtV (w:World) (v:Value) (L:List MethA):Prop where
 mk ::
 ex:∃ ad cap,v=.slice ad L.length cap∧L.length≤cap∧cap≤maxLen∧∀ (k:Nat) x,L[k]?=some x→In64 x.args∧In64 x.temps∧∃ g off lv cv,ad=some ⟨g,off,none⟩∧w.cell? ⟨g,off+k*4,none⟩=some (.int .i64 x.args)∧w.cell? ⟨g,off+k*4+1,none⟩=some (.int .i64 x.temps)∧w.cell? ⟨g,off+k*4+2,none⟩=some lv∧w.cell? ⟨g,off+k*4+3,none⟩=some cv∧PrV w lv x.lits∧ByV w cv x.code
structure ObV (w:World) (v:Value) (L:List ObjA):Prop where
 mk ::
 ex:∃ ad cap,v=.slice ad L.length cap∧L.length≤cap∧cap≤maxLen∧∀ (k:Nat) x,L[k]?=some x→In64 x.cls∧∃ g off fv,ad=some ⟨g,off,none⟩∧w.cell? ⟨g,off+k*2,none⟩=some (.int .i64 x.cls)∧w.cell? ⟨g,off+k*2+1,none⟩=some fv∧PrV w fv x.flds
structure UnitA where
 names:List ByteArray
 classes:List ClassA
 methods:List MethA
 objects:List ObjA
 main:Int
structure UnV (w:World) (nv cv mv ov:Value) (U:UnitA):Prop where
 n:NmV w nv U.names
 c:ClV w cv U.classes
 m:MtV w mv U.methods
 o:ObV w ov U.objects
section
variable {w w1:World} {v:Value}
theorem NmV.up {L:List ByteArray} (h:NmV w v L) (b:Below w.heap.size w w1):NmV w1 v L:=by
 obtain⟨ad,cap,rfl,h1,h2,h3⟩:=h.ex
 refine⟨ad,cap,rfl,h1,h2,fun k x hx=>?_⟩
 obtain⟨g,off,e,c0⟩:=h3 k x hx
 exact⟨g,off,e,cell_up b c0⟩
theorem ByV.up {L:List Int} (h:ByV w v L) (b:Below w.heap.size w w1):ByV w1 v L:=by
 obtain⟨ad,cap,rfl,h1,h2,h3⟩:=h.ex
 refine⟨ad,cap,rfl,h1,h2,fun k x hx=>?_⟩
 obtain⟨i,g,off,e,c0⟩:=h3 k x hx
 exact⟨i,g,off,e,cell_up b c0⟩
theorem MtV.up {L:List MethA} (h:MtV w v L) (b:Below w.heap.size w w1):MtV w1 v L:=by
 obtain⟨ad,cap,rfl,h1,h2,h3⟩:=h.ex
 refine⟨ad,cap,rfl,h1,h2,fun k x hx=>?_⟩
 obtain⟨i1,i2,g,off,lv,cv,e,c0,c1,c2,c3,p,q⟩:=h3 k x hx
 exact⟨i1,i2,g,off,lv,cv,e,cell_up b c0,cell_up b c1,cell_up b c2,cell_up b c3,p.up b,q.up b⟩
theorem ObV.up {L:List ObjA} (h:ObV w v L) (b:Below w.heap.size w w1):ObV w1 v L:=by
 obtain⟨ad,cap,rfl,h1,h2,h3⟩:=h.ex
 refine⟨ad,cap,rfl,h1,h2,fun k x hx=>?_⟩
 obtain⟨i1,g,off,fv,e,c0,c1,p⟩:=h3 k x hx
 exact⟨i1,g,off,fv,e,cell_up b c0,cell_up b c1,p.up b⟩
theorem UnV.up {nv cv mv ov:Value} {U:UnitA} (h:UnV w nv cv mv ov U) (b:Below w.heap.size w w1):UnV w1 nv cv mv ov U:=⟨h.n.up b,h.c.up b,h.m.up b,h.o.up b⟩
end
theorem NmV.own {w:World} {g:Nat} {T:List ByteArray} {e:TypeId} (h:w.heap[g]?=some (.cells (strs T).toArray e (0,0))) (hm:T.length≤maxLen):NmV w (.slice (some ⟨g,0,none⟩) T.length T.length) T :=
 ⟨_,T.length,rfl,Nat.le_refl _,hm,fun k x hx=>⟨g,0,rfl,cell_in h (by simp [strs,hx])⟩⟩
theorem ByV.own {w:World} {base:Nat} {e:TypeId} {v:Value} {T:List Int} (h:w.ownsRow base e 1 v T.length (bys T)) (hb:∀ x∈T,0≤x∧x≤255):ByV w v T:=by
 rcases h.2 with ⟨rfl,h0⟩ | ⟨g,cap,cur,rfl,h1,h2,h3,h4,_⟩
 ·have:T=[]:=List.length_eq_zero_iff.1 h0
  subst this
  exact⟨none,0,rfl,by simp,by decide,fun k x hx=>by simp at hx⟩
 ·refine⟨_,cap,rfl,h3,h4,fun k x hx=>⟨hb x (List.mem_of_getElem? hx),g,0,rfl,?_⟩⟩
  have hk:=(List.getElem?_eq_some_iff.1 hx).1
  rw [Nat.zero_add]
  exact (h.cellAt k (by omega)).trans (by simp [bys,hx])
theorem MtV.own {w:World} {base:Nat} {e:TypeId} {v:Value} {T:List (MethA × Value × Value)} (h:w.ownsRow base e 4 v T.length (mt4s T)) (hb:∀ x∈T,In64 x.1.args∧In64 x.1.temps∧PrV w x.2.1 x.1.lits∧ByV w x.2.2 x.1.code):MtV w v (T.map (·.1)):=by
 rcases h.2 with ⟨rfl,h0⟩ | ⟨g,cap,cur,rfl,h1,h2,h3,h4,_⟩
 ·have:T=[]:=List.length_eq_zero_iff.1 h0
  subst this
  exact⟨none,0,rfl,by simp,by decide,fun k x hx=>by simp at hx⟩
 ·refine⟨some ⟨g,0,none⟩,cap,by simp,by simpa using h3,h4,fun k c hc=>?_⟩
  obtain⟨x,hx,rfl⟩:∃ x,T[k]?=some x∧x.1=c:=by simpa using hc
  have hk:=(List.getElem?_eq_some_iff.1 hx).1
  obtain⟨c0,c1,c2,c3⟩:=mt4s_get T k x hx
  obtain⟨b0,b1,b2,b3⟩:=hb x (List.mem_of_getElem? hx)
  refine⟨b0,b1,g,0,x.2.1,x.2.2,rfl,?_,?_,?_,?_,b2,b3⟩
  ·rw [Nat.zero_add];exact (h.cellAt (k*4) (by omega)).trans c0
  ·rw [Nat.zero_add];exact (h.cellAt (k*4+1) (by omega)).trans c1
  ·rw [Nat.zero_add];exact (h.cellAt (k*4+2) (by omega)).trans c2
  ·rw [Nat.zero_add];exact (h.cellAt (k*4+3) (by omega)).trans c3
theorem ObV.own {w:World} {base:Nat} {e:TypeId} {v:Value} {T:List (ObjA × Value)} (h:w.ownsRow base e 2 v T.length (ob2s T)) (hb:∀ x∈T,In64 x.1.cls∧PrV w x.2 x.1.flds):ObV w v (T.map (·.1)):=by
 rcases h.2 with ⟨rfl,h0⟩ | ⟨g,cap,cur,rfl,h1,h2,h3,h4,_⟩
 ·have:T=[]:=List.length_eq_zero_iff.1 h0
  subst this
  exact⟨none,0,rfl,by simp,by decide,fun k x hx=>by simp at hx⟩
 ·refine⟨some ⟨g,0,none⟩,cap,by simp,by simpa using h3,h4,fun k c hc=>?_⟩
  obtain⟨x,hx,rfl⟩:∃ x,T[k]?=some x∧x.1=c:=by simpa using hc
  have hk:=(List.getElem?_eq_some_iff.1 hx).1
  obtain⟨c0,c1⟩:=ob2s_get T k x hx
  obtain⟨b0,b1⟩:=hb x (List.mem_of_getElem? hx)
  refine⟨b0,g,0,x.2,rfl,?_,?_,b1⟩
  ·rw [Nat.zero_add];exact (h.cellAt (k*2) (by omega)).trans c0
  ·rw [Nat.zero_add];exact (h.cellAt (k*2+1) (by omega)).trans c1
structure TapeU (U:UnitA):Prop where
 names:U.names=nameL
 cl0:3≤U.classes.length
 cl1:U.classes.length≤5
 cls:∀ (k:Nat) c,U.classes[k]?=some c→clsOk U.classes k c∧(k=0→c.binds=[])∧bndSub 6 c.binds
 ml:U.methods.length=9
 mts:∀ (k:Nat) x,U.methods[k]?=some x→methOk (U.classes.length:Int) k x
 ob0:1≤U.objects.length
 ob1:U.objects.length≤5
 obs:∀ (k:Nat) x,U.objects[k]?=some x→objOk U.classes U.objects.length k x
 main:U.main=6
theorem wr8_bd (x:Int):0≤wr8 x∧wr8 x≤255:=by
 unfold wr8
 have h1:=Int.emod_nonneg x (show (256:Int)≠0 by decide)
 have h2:=Int.emod_lt_of_pos x (show (0:Int) < 256 by decide)
 have e:IntKind.u8.wrap x=x % 256:=by
  unfold IntKind.wrap
  rfl
 rw [e];omega
end Wd
end Go.Proofs.YteiejjmhmmkdhaaGreat
