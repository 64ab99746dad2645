/- Texts joined: KU2, KW, UNN, KX, OPure, ORef, OFet, OLit. -/
import Derived.Test.YtgfnelhbdhbklaaGreatJT1
import Derived.Test.YtgfnelhbdhbklaaGreatJT2
import Derived.Deep.DeepCutAuto
namespace Go.Proofs.YtgfnelhbdhbklaaGreat
open Go.RowKit
set_option linter.unusedVariables false
set_option maxRecDepth 20000
namespace Wd
structure ObjA where
 cls:Int
 flds:List (Int × Int)
def ob2s:List (ObjA × Value)→List Value
 | []=>[]
 | x :: X=>.int .i64 x.1.cls :: x.2 :: ob2s X
theorem ob2s_app:∀ A B,ob2s (A++B)=ob2s A++ob2s B
 | [],_=>rfl
 | t :: A,B=>by simp[ob2s,ob2s_app A B]
theorem ob2s_len:∀ A,(ob2s A).length=A.length*2
 | []=>rfl
 | t :: A=>by simp only[ob2s,List.length_cons,ob2s_len A];omega
theorem ob2s_get:∀ (T:List (ObjA × Value)) (k:Nat) t,T[k]?=some t→(ob2s T)[k*2]?=some (.int .i64 t.1.cls)∧(ob2s T)[k*2+1]?=some t.2
 | [],k,t,h=>by simp at h
 | s :: T,0,t,h=>by simp at h;subst h;simp[ob2s]
 | s :: T,k+1,t,h=>by
  have:=ob2s_get T k t (by simpa using h);rw[show (k+1)*2=k*2+2 by omega];simpa [ob2s] using this
theorem ob2s_one:∀ (T:List (ObjA × Value)),(∀ x∈T,∃ a m c,x.2=.slice a m c)→∀ u∈ob2s T,u.oneCell'=true
 | [],_,u,h=>by cases h
 | t :: T,hT,u,h=>by
  simp only[ob2s,List.mem_cons] at h;rcases h with rfl | rfl | h
  ·rfl
  ·exact sl_one (hT t (by simp))
  ·exact ob2s_one T (fun x hx=>hT x (by simp[hx])) u h
def valOk (N:Nat) (v:Int × Int):Prop:=v=(0,0)∨v=(1,0)∨v=(2,0)∨(v.1=3∧-400≤v.2∧v.2≤499)∨(v.1=4∧0≤v.2∧v.2 < N)
structure objOk (L:List ClassA) (N j:Nat) (x:ObjA):Prop where
 cls:(2≤x.cls∧∃ d,L[x.cls.toNat]?=some d∧(x.flds.length:Int)=d.fields)∨(0 < j∧x.cls=1∧x.flds.length≤8)
 flds:∀ v∈x.flds,valOk N v
structure Fin (wr:World) (B g cp m:Nat) (T:List (ClassA × Value)) (H:Nat) (mv:Value) (M:List (MethA × Value × Value)) (H3 H4:Nat):Prop where
 row:wr.ownsRow (B+1) 60 4 (.slice (some ⟨g,0,none⟩) m cp) m (cl4s T)
 len:m=T.length
 BH:B < H
 HH:H≤H3
 gl:g < H4
 mr:MRow H wr (m:Int) mv 9 M
 ml:∀ b,mv.ownBlock=some b→b < H4
 sl:∀ x∈M,∀ b,(x.2.1.ownBlock=some b∨x.2.2.ownBlock=some b)→b < H4
 bnd:∀ (j:Nat) x,T[j]?=some x→wr.ownsRow H3 66 2 x.2 x.1.binds.length (pr2 x.1.binds)
 bl:∀ (j:Nat) x,T[j]?=some x→∀ b,x.2.ownBlock=some b→b < H4
 ok:∀ (j:Nat) x,T[j]?=some x→clsOk (T.map (·.1)) j x.1
 don:∀ (j:Nat) x,T[j]?=some x→(j=0→x.1.binds=[])∧bndSub 6 x.1.binds
section
variable {w wB w1 w2:World} {p n B g cp m H H3 H4 c k:Nat} {ad:Option Addr} {nv mv:Value} {T:List (ClassA × Value)} {M:List (MethA × Value × Value)}
theorem Fin.start (h:P3 w wB w1 p n ad B nv g cp m T H mv M H3 m 0):Fin w1 B g cp m T H mv M H3 w1.heap.size:=by
 refine⟨h.row,h.len,h.HB,h.HH,(h.row.lt g rfl).2,h.mr,fun b hb=>(h.mr.row.lt b hb).2,fun x hx b hb=>?_,h.bnd,fun j x hx b hb=>((h.bnd j x hx).lt b hb).2,h.ok,fun j x hx=>?_⟩
 ·rcases hb with e | e
  ·exact ((h.mr.sub x hx).l.lt b e).2
  ·exact ((h.mr.sub x hx).c.lt b e).2
 ·obtain⟨a,b,_,_⟩:=h.don j x hx;refine⟨a,?_⟩;by_cases hj:j=0
  ·rw[a hj];exact bndSub.nil _
  ·exact b (by omega) (by have:=(List.getElem?_eq_some_iff.1 hx).1;have:=h.len;omega)
theorem Fin.carry (h:Fin w1 B g cp m T H mv M H3 H4) {F:Nat→Prop} (cg:Cg F w1 w2) (hF:∀ b,F b→b≤B∨H4≤b):Fin w2 B g cp m T H mv M H3 H4 :=
 ⟨row_cg h.row cg (fun b hb hf=>by have e:g=b:=by simpa [Value.ownBlock] using hb
                                   have:=(h.row.lt b hb).1;have:=hF b hf;have:=h.gl;omega),h.len,h.BH,h.HH,h.gl,h.mr.far cg (H3:=H4) (fun b hf=>by have:=hF b hf;have:=h.BH;omega) h.ml h.sl,h.ml,h.sl,fun j x hx=>row_cg (h.bnd j x hx) cg (fun b hb hf=>by have:=((h.bnd j x hx).lt b hb).1;have:=h.bl j x hx b hb;have:=hF b hf;have:=h.BH;have:=h.HH;omega),h.bl,h.ok,h.don⟩
end
structure P4 (w wB wr:World) (p n:Nat) (ad:Option Addr) (B:Nat) (nv:Value) (g cp m:Nat) (T:List (ClassA × Value)) (H:Nat) (mv:Value) (M:List (MethA × Value × Value)) (H3 H4 N:Nat) (ov:Value) (k:Nat) (O:List (ObjA × Value)):Prop where
 un:Un w wB wr p n ad B nv (.slice (some ⟨g,0,none⟩) m cp) mv ov
 fin:Fin wr B g cp m T H mv M H3 H4
 row:wr.ownsRow H4 55 2 ov k (ob2s O)
 len:k=O.length
 sub:∀ x∈O,wr.ownsRow H4 68 2 x.2 x.1.flds.length (pr2 x.1.flds)
 sep:∀ x∈O,∀ b,ov.ownBlock=some b→x.2.ownBlock≠some b
 ok:∀ (j:Nat) x,O[j]?=some x→objOk (T.map (·.1)) N j x.1
 HB:B < H4
 Hsz:H4≤wr.heap.size
section
variable {w wB w1 w2:World} {p n B g cp m H H3 H4 N k:Nat} {ad:Option Addr} {nv mv ov:Value} {T:List (ClassA × Value)} {M:List (MethA × Value × Value)} {O:List (ObjA × Value)}
theorem P4.start (N:Nat) (h:P3 w wB w1 p n ad B nv g cp m T H mv M H3 m 0):P4 w wB w1 p n ad B nv g cp m T H mv M H3 w1.heap.size N (.slice none 0 0) 0 [] :=
 ⟨h.un,Fin.start h,World.ownsRow_nil _ _ _ _,rfl,by simp,by simp,by simp,h.un.lt,Nat.le_refl _⟩
theorem P4.move (h:P4 w wB w1 p n ad B nv g cp m T H mv M H3 H4 N ov k O) {F:Nat→Prop} (un:Un w wB w2 p n ad B nv (.slice (some ⟨g,0,none⟩) m cp) mv ov) (cg:Cg F w1 w2) (hF:∀ b,F b→b≤B∨(H4≤b∧ov.ownBlock≠some b∧∀ x∈O,x.2.ownBlock≠some b)):P4 w wB w2 p n ad B nv g cp m T H mv M H3 H4 N ov k O:=by
 refine⟨un,h.fin.carry cg (fun b hb=>?_),row_cg h.row cg (fun b hb hf=>?_),h.len,fun x hx=>row_cg (h.sub x hx) cg (fun b hb hf=>?_),h.sep,h.ok,h.HB,Nat.le_trans h.Hsz cg.size⟩
 ·rcases hF b hb with e | e
  ·exact Or.inl e
  ·exact Or.inr e.1
 ·rcases hF b hf with e | e
  ·have:=(h.row.lt b hb).1;have:=h.HB;omega
  ·exact e.2.1 hb
 ·rcases hF b hf with e | e
  ·have:=((h.sub x hx).lt b hb).1;have:=h.HB;omega
  ·exact e.2.2 x hx hb
theorem P4.next (h:P4 w wB w1 p n ad B nv g cp m T H mv M H3 H4 N ov k O) (t:Tp w2 p ad n) (cg:Cg (fun k=>k=p) w1 w2):P4 w wB w2 p n ad B nv g cp m T H mv M H3 H4 N ov k O :=
 h.move (h.un.next t cg) cg (fun b hb=>Or.inl (by have:=h.un.pB;omega))
theorem P4.keep (h:P4 w wB w1 p n ad B nv g cp m T H mv M H3 H4 N ov k O) (b:Below w1.heap.size w1 w2):P4 w wB w2 p n ad B nv g cp m T H mv M H3 H4 N ov k O :=
 h.move (F:=fun _=>False) (h.un.keep b) (Cg.below _ b) (fun _ hf=>hf.elim)
structure Q4 (w wB wr:World) (p n:Nat) (ad:Option Addr) (B:Nat) (nv:Value) (g cp m:Nat) (T:List (ClassA × Value)) (H:Nat) (mv:Value) (M:List (MethA × Value × Value)) (H3 H4 N:Nat) (ov:Value) (k:Nat) (O:List (ObjA × Value)) (D:Nat) (c:Int) (fv:Value) (f:Nat) (F:List (Int × Int)):Prop where
 p4:P4 w wB wr p n ad B nv g cp m T H mv M H3 H4 N ov k O
 d0:wr.cell? ⟨D,0,none⟩=some (.int .i64 c)
 d1:wr.cell? ⟨D,1,none⟩=some fv
 dz:∀ j,wr.frozen? ⟨D,j,none⟩=false
 HD:H4≤D
 nD:ov.ownBlock≠some D
 sD:∀ x∈O,x.2.ownBlock≠some D
 fr:wr.ownsRow H4 68 2 fv f (pr2 F)
 fl:f=F.length
 nf:fv.ownBlock≠some D
 of:∀ b,fv.ownBlock=some b→ov.ownBlock≠some b∧∀ x∈O,x.2.ownBlock≠some b
 fo:∀ v∈F,valOk N v
variable {D f:Nat} {c:Int} {fv:Value} {F:List (Int × Int)}
theorem Q4.lt (h:Q4 w wB w1 p n ad B nv g cp m T H mv M H3 H4 N ov k O D c fv f F):D < w1.heap.size:=World.block_lt_of_cell? w1 _ h.d0
theorem Q4.start (h:P4 w wB w1 p n ad B nv g cp m T H mv M H3 H4 N ov k O) (hw:w2=w1.alloc (.cells #[.int .i64 c,.slice none 0 0] 55)):Q4 w wB w2 p n ad B nv g cp m T H mv M H3 H4 N ov k O w1.heap.size c (.slice none 0 0) 0 []:=by
 subst hw;have e:(w1.alloc (.cells #[.int .i64 c,.slice none 0 0] 55)).heap[w1.heap.size]?=some (.cells #[.int .i64 c,.slice none 0 0] 55 (0,0)):=alloc_at _ _ _ rfl;exact⟨h.keep ((Below.refl _ _).alloc (Nat.le_refl _) _),cell_in e rfl,cell_in e rfl,fun j=>loose_in e,h.Hsz,fun e=>by have:=(h.row.lt _ e).2;omega,fun x hx e=>by have:=((h.sub x hx).lt _ e).2;omega,World.ownsRow_nil _ _ _ _,rfl,fun e=>(by cases e),fun b e=>(by cases e),by simp⟩
theorem Q4.move (h:Q4 w wB w1 p n ad B nv g cp m T H mv M H3 H4 N ov k O D c fv f F) {G:Nat→Prop} (p4:P4 w wB w2 p n ad B nv g cp m T H mv M H3 H4 N ov k O) (cg:Cg G w1 w2) (hG:∀ b,G b→b≤B):Q4 w wB w2 p n ad B nv g cp m T H mv M H3 H4 N ov k O D c fv f F:=by
 have e:w2.heap[D]?=w1.heap[D]?:=cg.block D h.lt (fun hf=>by have:=hG D hf;have:=h.HD;have:=h.p4.HB;omega);exact⟨p4,(World.cell?_of_block (a:=⟨D,0,none⟩) e).trans h.d0,(World.cell?_of_block (a:=⟨D,1,none⟩) e).trans h.d1,fun j=>(World.frozen?_of_block (a:=⟨D,j,none⟩) e).trans (h.dz j),h.HD,h.nD,h.sD,row_cg h.fr cg (fun b hb hf=>by have:=(h.fr.lt b hb).1;have:=hG b hf;have:=h.p4.HB;omega),h.fl,h.nf,h.of,h.fo⟩
theorem Q4.next (h:Q4 w wB w1 p n ad B nv g cp m T H mv M H3 H4 N ov k O D c fv f F) (t:Tp w2 p ad n) (cg:Cg (fun k=>k=p) w1 w2):Q4 w wB w2 p n ad B nv g cp m T H mv M H3 H4 N ov k O D c fv f F :=
 h.move (h.p4.next t cg) cg (fun b hb=>by have:=h.p4.un.pB;omega)
theorem Q4.keep (h:Q4 w wB w1 p n ad B nv g cp m T H mv M H3 H4 N ov k O D c fv f F) (b:Below w1.heap.size w1 w2):Q4 w wB w2 p n ad B nv g cp m T H mv M H3 H4 N ov k O D c fv f F :=
 h.move (G:=fun _=>False) (h.p4.keep b) (Cg.below _ b) (fun _ hf=>hf.elim)
theorem Q4.box (h:Q4 w wB w1 p n ad B nv g cp m T H mv M H3 H4 N ov k O D c fv f F) (j:Nat) (x:Value):P4 w wB (w1.setCell ⟨D,j,none⟩ x) p n ad B nv g cp m T H mv M H3 H4 N ov k O:=by
 have hc:Cg (fun b=>b=D) w1 (w1.setCell ⟨D,j,none⟩ x):=(Cg.refl (fun b=>b=D) w1).set ⟨D,j,none⟩ rfl x;exact h.p4.move (h.p4.un.far hc (fun b hb=>by have:=h.HD;have:=h.p4.HB;omega)) hc (fun b hb=>Or.inr (by subst hb;exact⟨h.HD,h.nD,h.sD⟩))
theorem Q4.setc (h:Q4 w wB w1 p n ad B nv g cp m T H mv M H3 H4 N ov k O D c fv f F) (c':Int):Q4 w wB (w1.setCell ⟨D,0,none⟩ (.int .i64 c')) p n ad B nv g cp m T H mv M H3 H4 N ov k O D c' fv f F :=
 ⟨h.box 0 _,World.cell?_setCell_same _ _ _ h.d0,(World.cell?_setCell_other _ _ _ _ (by intro e;cases e)).trans h.d1,fun j=>(World.frozen?_setCell _ _ _ _).trans (h.dz j),h.HD,h.nD,h.sD,row_set h.fr _ _ h.nf,h.fl,h.nf,h.of,h.fo⟩
theorem Q4.s36 (h:Q4 w wB w1 p n ad B nv g cp m T H mv M H3 H4 N ov k O D c fv f F):w1.cell? ⟨D,1,none⟩=some fv∧w1.frozen? ⟨D,1,none⟩=false:=⟨h.d1,h.dz 1⟩
theorem Q4.grown (h:Q4 w wB w1 p n ad B nv g cp m T H mv M H3 H4 N ov k O D c fv f F) {wA:World} (hA:Below w1.heap.size w1 wA) (hg:wA.grownBy w2 fv.ownBlock):P4 w wB w2 p n ad B nv g cp m T H mv M H3 H4 N ov k O∧w2.heap[D]?=w1.heap[D]?:=by
 have hc1:Cg (fun b=>fv.ownBlock=some b) w1 w2:=(Cg.below _ hA).grown hg (fun b e=>Or.inl e);have hb:=fun b e=>(h.fr.lt b e).1;exact⟨h.p4.move (h.p4.un.far hc1 (fun b e=>by have:=hb b e;have:=h.p4.HB;omega)) hc1 (fun b e=>Or.inr ⟨hb b e,h.of b e⟩),hc1.block D h.lt (fun e=>h.nf e)⟩
theorem Q4.g36 (h:Q4 w wB w1 p n ad B nv g cp m T H mv M H3 H4 N ov k O D c fv f F) {wA:World} (hA:Below w1.heap.size w1 wA) (hg:wA.grownBy w2 fv.ownBlock):w2.cell? ⟨D,1,none⟩=some fv∧w2.frozen? ⟨D,1,none⟩=false:=by
 have e:=(h.grown hA hg).2;exact⟨(World.cell?_of_block (a:=⟨D,1,none⟩) e).trans h.d1,(World.frozen?_of_block (a:=⟨D,1,none⟩) e).trans (h.dz 1)⟩
theorem Q4.app (h:Q4 w wB w1 p n ad B nv g cp m T H mv M H3 H4 N ov k O D c fv f F) {wA:World} {fv':Value} {v:Int × Int} (hv:valOk N v) (hA:Below w1.heap.size w1 wA) (ho:w2.ownsRow H4 68 2 fv' (f+1) (pr2 F++pr2 [v])) (hg:wA.grownBy w2 fv.ownBlock) (hat:∀ b,fv'.ownBlock=some b→fv.ownBlock=some b∨b=wA.heap.size):Q4 w wB (w2.setCell ⟨D,1,none⟩ fv') p n ad B nv g cp m T H mv M H3 H4 N ov k O D c fv' (f+1) (F++[v]):=by
 obtain⟨hp,e⟩:=h.grown hA hg;have hc:Cg (fun b=>b=D) w2 (w2.setCell ⟨D,1,none⟩ fv'):=(Cg.refl (fun b=>b=D) w2).set ⟨D,1,none⟩ rfl fv';have hsz:=hA.size;have nf':fv'.ownBlock≠some D:=fun e=>by
  rcases hat D e with e1 | e1
  ·exact h.nf e1
  ·have:=h.lt;omega
 refine⟨hp.move (hp.un.far hc (fun b hb=>by have:=h.HD;have:=h.p4.HB;omega)) hc (fun b hb=>Or.inr (by subst hb;exact⟨h.HD,h.nD,h.sD⟩)),(World.cell?_setCell_other _ _ _ _ (by intro e;cases e)).trans ((World.cell?_of_block (a:=⟨D,0,none⟩) e).trans h.d0),World.cell?_setCell_same _ _ _ ((World.cell?_of_block (a:=⟨D,1,none⟩) e).trans h.d1),fun j=>(World.frozen?_setCell _ _ _ _).trans ((World.frozen?_of_block (a:=⟨D,j,none⟩) e).trans (h.dz j)),h.HD,h.nD,h.sD,?_,by simp[h.fl],nf',fun b hb=>?_,fun u hu=>?_⟩
 ·rw[pr2_app];exact row_set ho _ _ nf'
 ·rcases hat b hb with e1 | e1
  ·exact h.of b e1
  ·exact⟨fun e2=>by have:=(h.p4.row.lt b e2).2;omega,fun x hx e2=>by have:=((h.p4.sub x hx).lt b e2).2;omega⟩
 ·rcases List.mem_append.1 hu with hu | hu
  ·exact h.fo u hu
  ·rw[List.mem_singleton.1 hu];exact hv
theorem Q4.un37 (h:Q4 w wB w1 p n ad B nv g cp m T H mv M H3 H4 N ov k O D c fv f F) {wA:World} (hA:Below w1.heap.size w1 wA) (hg:wA.grownBy w2 ov.ownBlock):Un w wB w2 p n ad B nv (.slice (some ⟨g,0,none⟩) m cp) mv ov∧Cg (fun b=>ov.ownBlock=some b) w1 w2:=by
 have hc1:Cg (fun b=>ov.ownBlock=some b) w1 w2:=(Cg.below _ hA).grown hg (fun b e=>Or.inl e);exact⟨h.p4.un.far hc1 (fun b e=>by have:=(h.p4.row.lt b e).1;have:=h.p4.HB;omega),hc1⟩
theorem Q4.add (h:Q4 w wB w1 p n ad B nv g cp m T H mv M H3 H4 N ov k O D c fv f F) {wA:World} {ov':Value} (hok:objOk (T.map (·.1)) N k ⟨c,F⟩) (hA:Below w1.heap.size w1 wA) (ho:w2.ownsRow H4 55 2 ov' (k+1) (ob2s O++ob2s [(⟨c,F⟩,fv)])) (hg:wA.grownBy w2 ov.ownBlock) (hat:∀ b,ov'.ownBlock=some b→ov.ownBlock=some b∨b=wA.heap.size):P4 w wB (w2.setCell ⟨B,3,none⟩ ov') p n ad B nv g cp m T H mv M H3 H4 N ov' (k+1) (O++[(⟨c,F⟩,fv)]):=by
 obtain⟨hu,hc1⟩:=h.un37 hA hg;have hc:Cg (fun b=>b=B) w2 (w2.setCell ⟨B,3,none⟩ ov'):=(Cg.refl (fun b=>b=B) w2).set ⟨B,3,none⟩ rfl ov';have hsz:=hA.size;have hb:=fun b e=>(h.p4.row.lt b e).1;have hall:∀ x∈O++[((⟨c,F⟩:ObjA),fv)],w1.ownsRow H4 68 2 x.2 x.1.flds.length (pr2 x.1.flds)∧∀ b,ov.ownBlock=some b→x.2.ownBlock≠some b:=fun x hx=>by
  rcases List.mem_append.1 hx with hx | hx
  ·exact⟨h.p4.sub x hx,h.p4.sep x hx⟩
  ·rw[List.mem_singleton.1 hx];refine⟨by have:=h.fr;rw[h.fl] at this;exact this,fun b e1 e2=>(h.of b e2).1 e1⟩
 refine⟨hu.put3 ov',(h.p4.fin.carry hc1 (fun b e=>Or.inr (hb b e))).carry hc (fun b e=>Or.inl (by omega)),?_,by simp[h.p4.len],fun x hx=>row_cg (row_cg (hall x hx).1 hc1 (fun b e1 e2=>(hall x hx).2 b e2 e1)) hc (fun b e1 e2=>by have:=((hall x hx).1.lt b e1).1;have:=h.p4.HB;omega),fun x hx b e1 e2=>?_,fun j x hx=>?_,h.p4.HB,?_⟩
 ·rw[ob2s_app];exact row_set ho _ _ (fun e=>by have:=(ho.lt B e).1;have:=h.p4.HB;omega)
 ·rcases hat b e1 with e | e
  ·exact (hall x hx).2 b e e2
  ·have:=((hall x hx).1.lt b e2).2;omega
 ·by_cases hj:j < O.length
  ·rw[List.getElem?_append_left hj] at hx;exact h.p4.ok j x hx
  ·rw[List.getElem?_append_right (by omega)] at hx;obtain rfl:j=O.length:=by have:=(List.getElem?_eq_some_iff.1 hx).1;simp at this;omega
   simp at hx;subst hx;rw[← h.p4.len];exact hok
 ·have:=h.p4.Hsz;have:=hc1.size;have:=hc.size;omega
end
def sel5 (x z:Int) (j:Nat):Int × Int:=[((0:Int),(0:Int)),(1,0),(2,0),(3,x),(4,z)].getD j (0,0)
theorem sel5_ok {N:Nat} {x z:Int} (hx:-400≤x∧x≤499) (hz:0≤z∧z < N) (j:Nat) (hj:j < 5):valOk N (sel5 x z j):=by
 unfold valOk;rcases (show j=0∨j=1∨j=2∨j=3∨j=4 by omega) with rfl | rfl | rfl | rfl | rfl
 ·exact Or.inl rfl
 ·exact Or.inr (Or.inl rfl)
 ·exact Or.inr (Or.inr (Or.inl rfl))
 ·exact Or.inr (Or.inr (Or.inr (Or.inl ⟨rfl,hx⟩)))
 ·exact Or.inr (Or.inr (Or.inr (Or.inr ⟨rfl,hz⟩)))
theorem born5 (w:World) (x z:Int) {j:Nat} (hj:j < 5):(w.alloc (.cells #[.int .i64 0,.int .i64 0,.int .i64 1,.int .i64 0,.int .i64 2,.int .i64 0,.int .i64 3,.int .i64 x,.int .i64 4,.int .i64 z] 68)).cell? ⟨w.heap.size,j*2,none⟩=some (.int .i64 (sel5 x z j).1)∧(w.alloc (.cells #[.int .i64 0,.int .i64 0,.int .i64 1,.int .i64 0,.int .i64 2,.int .i64 0,.int .i64 3,.int .i64 x,.int .i64 4,.int .i64 z] 68)).cell? ⟨w.heap.size,j*2+1,none⟩=some (.int .i64 (sel5 x z j).2):=by
 rcases (show j=0∨j=1∨j=2∨j=3∨j=4 by omega) with rfl | rfl | rfl | rfl | rfl <;> simp[sel5]
theorem infoObj:(Tryz.prog.info? 55).map (fun i=>(i.zero,i.size,i.bytes))=some (some (.agg #[.int .i64 0,.slice none 0 0]),2,32):=by kernel_rfl
structure NmV (w:World) (v:Value) (L:List ByteArray):Prop where
 mk ::
 ex:∃ ad cap,v=.slice ad L.length cap∧L.length≤cap∧cap≤maxLen∧∀ (k:Nat) x,L[k]?=some x→∃ g off,ad=some ⟨g,off,none⟩∧w.cell? ⟨g,off+k,none⟩=some (.string x)
structure ByV (w:World) (v:Value) (L:List Int):Prop where
 mk ::
 ex:∃ ad cap,v=.slice ad L.length cap∧L.length≤cap∧cap≤maxLen∧∀ (k:Nat) x,L[k]?=some x→(0≤x∧x≤255)∧∃ g off,ad=some ⟨g,off,none⟩∧w.cell? ⟨g,off+k,none⟩=some (.int .u8 x)
structure MtV (w:World) (v:Value) (L:List MethA):Prop where
 mk ::
 ex:∃ ad cap,v=.slice ad L.length cap∧L.length≤cap∧cap≤maxLen∧∀ (k:Nat) x,L[k]?=some x→In64 x.args∧In64 x.temps∧∃ g off lv cv,ad=some ⟨g,off,none⟩∧w.cell? ⟨g,off+k*4,none⟩=some (.int .i64 x.args)∧w.cell? ⟨g,off+k*4+1,none⟩=some (.int .i64 x.temps)∧w.cell? ⟨g,off+k*4+2,none⟩=some lv∧w.cell? ⟨g,off+k*4+3,none⟩=some cv∧PrV w lv x.lits∧ByV w cv x.code
structure ObV (w:World) (v:Value) (L:List ObjA):Prop where
 mk ::
 ex:∃ ad cap,v=.slice ad L.length cap∧L.length≤cap∧cap≤maxLen∧∀ (k:Nat) x,L[k]?=some x→In64 x.cls∧∃ g off fv,ad=some ⟨g,off,none⟩∧w.cell? ⟨g,off+k*2,none⟩=some (.int .i64 x.cls)∧w.cell? ⟨g,off+k*2+1,none⟩=some fv∧PrV w fv x.flds
structure UnitA where
 names:List ByteArray
 classes:List ClassA
 methods:List MethA
 objects:List ObjA
 main:Int
structure UnV (w:World) (nv cv mv ov:Value) (U:UnitA):Prop where
 n:NmV w nv U.names
 c:ClV w cv U.classes
 m:MtV w mv U.methods
 o:ObV w ov U.objects
section
variable {w w1:World} {v:Value}
theorem NmV.up {L:List ByteArray} (h:NmV w v L) (b:Below w.heap.size w w1):NmV w1 v L:=by
 obtain⟨ad,cap,rfl,h1,h2,h3⟩:=h.ex;refine⟨ad,cap,rfl,h1,h2,fun k x hx=>?_⟩;obtain⟨g,off,e,c0⟩:=h3 k x hx;exact⟨g,off,e,cell_up b c0⟩
theorem ByV.up {L:List Int} (h:ByV w v L) (b:Below w.heap.size w w1):ByV w1 v L:=by
 obtain⟨ad,cap,rfl,h1,h2,h3⟩:=h.ex;refine⟨ad,cap,rfl,h1,h2,fun k x hx=>?_⟩;obtain⟨i,g,off,e,c0⟩:=h3 k x hx;exact⟨i,g,off,e,cell_up b c0⟩
theorem MtV.up {L:List MethA} (h:MtV w v L) (b:Below w.heap.size w w1):MtV w1 v L:=by
 obtain⟨ad,cap,rfl,h1,h2,h3⟩:=h.ex;refine⟨ad,cap,rfl,h1,h2,fun k x hx=>?_⟩;obtain⟨i1,i2,g,off,lv,cv,e,c0,c1,c2,c3,p,q⟩:=h3 k x hx;exact⟨i1,i2,g,off,lv,cv,e,cell_up b c0,cell_up b c1,cell_up b c2,cell_up b c3,p.up b,q.up b⟩
theorem ObV.up {L:List ObjA} (h:ObV w v L) (b:Below w.heap.size w w1):ObV w1 v L:=by
 obtain⟨ad,cap,rfl,h1,h2,h3⟩:=h.ex;refine⟨ad,cap,rfl,h1,h2,fun k x hx=>?_⟩;obtain⟨i1,g,off,fv,e,c0,c1,p⟩:=h3 k x hx;exact⟨i1,g,off,fv,e,cell_up b c0,cell_up b c1,p.up b⟩
theorem UnV.up {nv cv mv ov:Value} {U:UnitA} (h:UnV w nv cv mv ov U) (b:Below w.heap.size w w1):UnV w1 nv cv mv ov U:=⟨h.n.up b,h.c.up b,h.m.up b,h.o.up b⟩
end
theorem NmV.own {w:World} {g:Nat} {T:List ByteArray} {e:TypeId} (h:w.heap[g]?=some (.cells (strs T).toArray e (0,0))) (hm:T.length≤maxLen):NmV w (.slice (some ⟨g,0,none⟩) T.length T.length) T :=
 ⟨_,T.length,rfl,Nat.le_refl _,hm,fun k x hx=>⟨g,0,rfl,cell_in h (by simp[strs,hx])⟩⟩
theorem ByV.own {w:World} {base:Nat} {e:TypeId} {v:Value} {T:List Int} (h:w.ownsRow base e 1 v T.length (bys T)) (hb:∀ x∈T,0≤x∧x≤255):ByV w v T:=by
 rcases h.2 with ⟨rfl,h0⟩ | ⟨g,cap,cur,rfl,h1,h2,h3,h4,_⟩
 ·have:T=[]:=List.length_eq_zero_iff.1 h0;subst this;exact⟨none,0,rfl,by simp,by decide,fun k x hx=>by simp at hx⟩
 ·refine⟨_,cap,rfl,h3,h4,fun k x hx=>⟨hb x (List.mem_of_getElem? hx),g,0,rfl,?_⟩⟩;have hk:=(List.getElem?_eq_some_iff.1 hx).1;rw[Nat.zero_add];exact (h.cellAt k (by omega)).trans (by simp[bys,hx])
theorem MtV.own {w:World} {base:Nat} {e:TypeId} {v:Value} {T:List (MethA × Value × Value)} (h:w.ownsRow base e 4 v T.length (mt4s T)) (hb:∀ x∈T,In64 x.1.args∧In64 x.1.temps∧PrV w x.2.1 x.1.lits∧ByV w x.2.2 x.1.code):MtV w v (T.map (·.1)):=by
 rcases h.2 with ⟨rfl,h0⟩ | ⟨g,cap,cur,rfl,h1,h2,h3,h4,_⟩
 ·have:T=[]:=List.length_eq_zero_iff.1 h0;subst this;exact⟨none,0,rfl,by simp,by decide,fun k x hx=>by simp at hx⟩
 ·refine⟨some ⟨g,0,none⟩,cap,by simp,by simpa using h3,h4,fun k c hc=>?_⟩;obtain⟨x,hx,rfl⟩:∃ x,T[k]?=some x∧x.1=c:=by simpa using hc
  have hk:=(List.getElem?_eq_some_iff.1 hx).1;obtain⟨c0,c1,c2,c3⟩:=mt4s_get T k x hx;obtain⟨b0,b1,b2,b3⟩:=hb x (List.mem_of_getElem? hx);refine⟨b0,b1,g,0,x.2.1,x.2.2,rfl,?_,?_,?_,?_,b2,b3⟩
  ·rw[Nat.zero_add];exact (h.cellAt (k*4) (by omega)).trans c0
  ·rw[Nat.zero_add];exact (h.cellAt (k*4+1) (by omega)).trans c1
  ·rw[Nat.zero_add];exact (h.cellAt (k*4+2) (by omega)).trans c2
  ·rw[Nat.zero_add];exact (h.cellAt (k*4+3) (by omega)).trans c3
theorem ObV.own {w:World} {base:Nat} {e:TypeId} {v:Value} {T:List (ObjA × Value)} (h:w.ownsRow base e 2 v T.length (ob2s T)) (hb:∀ x∈T,In64 x.1.cls∧PrV w x.2 x.1.flds):ObV w v (T.map (·.1)):=by
 rcases h.2 with ⟨rfl,h0⟩ | ⟨g,cap,cur,rfl,h1,h2,h3,h4,_⟩
 ·have:T=[]:=List.length_eq_zero_iff.1 h0;subst this;exact⟨none,0,rfl,by simp,by decide,fun k x hx=>by simp at hx⟩
 ·refine⟨some ⟨g,0,none⟩,cap,by simp,by simpa using h3,h4,fun k c hc=>?_⟩;obtain⟨x,hx,rfl⟩:∃ x,T[k]?=some x∧x.1=c:=by simpa using hc
  have hk:=(List.getElem?_eq_some_iff.1 hx).1;obtain⟨c0,c1⟩:=ob2s_get T k x hx;obtain⟨b0,b1⟩:=hb x (List.mem_of_getElem? hx);refine⟨b0,g,0,x.2,rfl,?_,?_,b1⟩
  ·rw[Nat.zero_add];exact (h.cellAt (k*2) (by omega)).trans c0
  ·rw[Nat.zero_add];exact (h.cellAt (k*2+1) (by omega)).trans c1
structure TapeU (U:UnitA):Prop where
 names:U.names=nameL
 cl0:3≤U.classes.length
 cl1:U.classes.length≤5
 cls:∀ (k:Nat) c,U.classes[k]?=some c→clsOk U.classes k c∧(k=0→c.binds=[])∧bndSub 6 c.binds
 ml:U.methods.length=9
 mts:∀ (k:Nat) x,U.methods[k]?=some x→methOk (U.classes.length:Int) k x
 ob0:1≤U.objects.length
 ob1:U.objects.length≤5
 obs:∀ (k:Nat) x,U.objects[k]?=some x→objOk U.classes U.objects.length k x
 main:U.main=6
theorem wr8_bd (x:Int):0≤wr8 x∧wr8 x≤255:=by
 unfold wr8;have h1:=Int.emod_nonneg x (show (256:Int)≠0 by decide);have h2:=Int.emod_lt_of_pos x (show (0:Int) < 256 by decide);have e:IntKind.u8.wrap x=x % 256:=by
  unfold IntKind.wrap;rfl
 rw[e];omega
theorem NmV.at {w:World} {ad:Option Addr} {n cap:Nat} {L:List ByteArray} (h:NmV w (.slice ad n cap) L) {k:Nat} {x:ByteArray} (hx:L[k]?=some x):∃ g off,ad=some ⟨g,off,none⟩∧w.cell? ⟨g,off+k,none⟩=some (.string x):=by
 obtain⟨ad',cap',e,_,_,h3⟩:=h.ex;cases e;exact h3 k x hx
def namesB (L:List ByteArray):Bool:=L.all (fun x=>decide (0≤argsR x)) && decide (L.Pairwise (fun x y=>x≠y))
structure NsR (L:List ByteArray) (k:Nat):Prop where
 mk ::
 all:∀ (i:Nat) x,i < k→L[i]?=some x→0≤argsR x∧∀ y∈L.take i,y≠x
theorem NsR.start (L:List ByteArray):NsR L 0:=⟨fun i x hi=>absurd hi (by omega)⟩
theorem NsR.step {L:List ByteArray} {k:Nat} {x:ByteArray} (h:NsR L k) (hx:L[k]?=some x) (ha:0≤argsR x) (hD:∀ y∈L.take k,y≠x):NsR L (k+1):=by
 refine⟨fun i y hi hy=>?_⟩;rcases (show i < k∨i=k by omega) with hi | rfl
 ·exact h.all i y hi hy
 ·rw[hx] at hy;cases hy;exact⟨ha,hD⟩
theorem NsR.last {L:List ByteArray} (h:NsR L L.length):namesB L=true:=by
 unfold namesB;rw[Bool.and_eq_true];constructor
 ·rw[List.all_eq_true];intro x hx;obtain⟨i,hi⟩:=List.getElem?_of_mem hx;exact decide_eq_true (h.all i x (List.getElem?_eq_some_iff.1 hi).1 hi).1
 ·rw[decide_eq_true_iff,List.pairwise_iff_getElem];intro i j hi hj hij;exact (h.all j L[j] hj (List.getElem?_eq_getElem hj)).2 L[i] (List.mem_take_iff_getElem.2 ⟨i,by omega,rfl⟩)
theorem names_bad {L:List ByteArray} {k:Nat} {x:ByteArray} (hx:L[k]?=some x) (ha:argsR x < 0):namesB L=false:=by
 unfold namesB;rw[Bool.and_eq_false_iff];left;rw[List.all_eq_false];exact⟨x,List.mem_of_getElem? hx,by simp;omega⟩
theorem names_twice {L:List ByteArray} {k j:Nat} {x y:ByteArray} (hx:L[k]?=some x) (hj:j < k) (hy:L[j]?=some y) (e:y=x):namesB L=false:=by
 unfold namesB;rw[Bool.and_eq_false_iff];right;rw[decide_eq_false_iff_not,List.pairwise_iff_getElem];intro h;obtain⟨a,ha⟩:=List.getElem?_eq_some_iff.1 hx;obtain⟨b,hb⟩:=List.getElem?_eq_some_iff.1 hy;exact h j k b a hj (by rw[ha,hb];exact e)
set_option maxHeartbeats 8000000 in
theorem rnames_c {w:World} {v:Value} {L:List ByteArray} (h:NmV w v L) :
  Calls Tryz.prog 47 #[v] w fun e w'=>e=.returned (.bool (namesB L))∧w'=w:=by
 obtain⟨ad,cap,rfl,hcap,hmx,_⟩:=h.ex;obtain⟨n,hnn⟩:∃ n,n=L.length:=⟨_,rfl⟩
 rw[← hnn] at h hcap ⊢;replace h:=HD h;have hn':=HD hnn;have hst:=HD (NsR.start L);have hle:(n:Int)≤9223372036854775807:=by have:=Nat.le_trans hcap hmx;unfold maxLen at this;omega
 clear hnn;go_enter Tryz.func47,Tryz.ntmps47
 go_wp2
 go_loopw [9] (fun i9 wr=>∃ (k:Nat),k≤n∧i9=.int .i64 k∧Hid (NsR L k)∧wr=w) (fun i9 _=>n - (intOf i9).toNat)
 case atStart=>exact⟨0,by omega,rfl,hst,rfl⟩
 case round =>
  obtain⟨k,hk,rfl,hR,rfl⟩:=hrel;by_cases hlt:k < n
  ·have hlt':decide ((k:Int) < (n:Int))=true:=by simp;omega
   have p0:(0:Int)≤(k:Int):=by omega
   have p1:(k:Int) < (n:Int):=by omega
   have p2:(k:Int)≤(cap:Int):=by omega
   obtain⟨x,hx⟩:∃ x,L[k]?=some x:=⟨L[k]'(by have:=hn'.out;omega),by simp⟩
   obtain⟨g,off,rfl,c0⟩:=NmV.at h.out hx;have hx':=HD hx;have PA:=HD (argsR_c x);clear hx;by_cases ha:argsR x < 0
   ·have e:=HD (names_bad hx'.out ha);have ha':decide (argsR x < 0)=true:=by simpa using ha
    go_wp2_with (first | (go_at_call 51;((with_reducible refine (PA.out _).mono ?_);rintro e1 w2 ⟨rfl,hw2⟩;subst w2)))
    go_ret;exact⟨congrArg (fun b=>Ending.returned (Value.bool b)) e.out.symm,rfl⟩
   ·have ha':decide (argsR x < 0)=false:=by simpa using ha
    have haH:Hid (0≤argsR x):=HD (by omega);have hdl:Hid (∀ y∈L.take 0,y≠x):=HD (by simp);clear ha
    go_wp2_with (first | (go_at_call 51;((with_reducible refine (PA.out _).mono ?_);rintro e1 w2 ⟨rfl,hw2⟩;subst w2)))
    go_loopw [21] (fun i21 wi=>∃ (j:Nat),j≤k∧i21=.int .i64 j∧Hid (∀ y∈L.take j,y≠x)∧wi=wr) (fun i21 _=>k - (intOf i21).toNat)
    case atStart=>exact⟨0,by omega,rfl,hdl,rfl⟩
    case round =>
     obtain⟨j,hj,rfl,hD,rfl⟩:=hrel;by_cases hjt:j < k
     ·have hjt':decide ((j:Int) < (k:Int))=true:=by simp;omega
      have r0:(0:Int)≤(j:Int):=by omega
      have r1:(j:Int) < (k:Int):=by omega
      obtain⟨y,hy⟩:∃ y,L[j]?=some y:=⟨L[j]'(by have:=hn'.out;omega),by simp⟩
      obtain⟨_,_,eg,d0⟩:=NmV.at h.out hy;cases eg;have hy':=HD hy;clear hy;by_cases he:y=x
      ·have e:=HD (names_twice hx'.out hjt hy'.out he);have he':(y.toList == x.toList)=true:=bl_eq he;clear he
       go_wp2
       go_ret;exact⟨congrArg (fun b=>Ending.returned (Value.bool b)) e.out.symm,rfl⟩
      ·have he':(y.toList == x.toList)=false:=bl_ne he;have hD':Hid (∀ z∈L.take (j+1),z≠x):=HD (fun z hz=>by
        rw[take_next hy'.out] at hz;rcases List.mem_append.1 hz with hz | hz
        ·exact hD.out z hz
        ·rw[List.mem_singleton.1 hz];exact he)
       clear he
       go_wp2
       go_roundw
       case rel=>exact⟨j+1,by omega,by go_num,hD',trivial⟩
       case measure=>simp[intOf];omega
     ·have hDk:=hD.out;rw[show j=k by omega] at hDk;have hR':=HD (hR.out.step hx'.out haH.out hDk);clear hDk;have hjt':decide ((j:Int) < (k:Int))=false:=by simp;omega
      go_wp2
      go_roundw
      case rel=>exact⟨k+1,by omega,by go_num,hR',trivial⟩
      case measure=>simp[intOf];omega
  ·have e:Hid (namesB L=true):=HD (NsR.last (by have:=hR.out;rw[show k=L.length by have:=hn'.out;omega] at this;exact this));have hlt':decide ((k:Int) < (n:Int))=false:=by simp;omega
   go_wp2
   go_ret;exact⟨congrArg (fun b=>Ending.returned (Value.bool b)) e.out.symm,rfl⟩
def by2 (y:Int × Int):Prop:=(0≤y.1∧y.1≤255)∧(0≤y.2∧y.2≤255)
theorem by2_wr8 (a b:Int):by2 (wr8 a,wr8 b):=⟨wr8_bd a,wr8_bd b⟩
theorem pieceOk_by {l:List (Int × Int)} (h:pieceOk l):∀ y∈l,by2 y:=by
 unfold pieceOk at h;rcases h with h | h | h | h | h | h | h | h | h | h | h | h | h | h | h | h | h | h
 ·obtain⟨_,_,rfl⟩:=h;intro y hy;simp only[List.mem_cons,List.not_mem_nil,or_false] at hy;rcases hy with rfl | rfl | rfl <;> exact by2_wr8 _ _
 ·obtain⟨_,_,rfl⟩:=h;intro y hy;simp only[List.mem_cons,List.not_mem_nil,or_false] at hy;rcases hy with rfl | rfl | rfl <;> exact by2_wr8 _ _
 ·obtain⟨_,_,_,_,rfl⟩:=h;intro y hy;simp only[List.mem_cons,List.not_mem_nil,or_false] at hy;rcases hy with rfl | rfl | rfl | rfl | rfl <;> exact by2_wr8 _ _
 ·obtain⟨_,_,_,_,_,_,rfl⟩:=h;intro y hy;simp only[List.mem_cons,List.not_mem_nil,or_false] at hy;rcases hy with rfl | rfl | rfl | rfl | rfl <;> exact by2_wr8 _ _
 ·obtain⟨_,_,_,_,rfl⟩:=h;intro y hy;simp only[List.mem_cons,List.not_mem_nil,or_false] at hy;rcases hy with rfl | rfl | rfl <;> exact by2_wr8 _ _
 ·obtain⟨_,_,_,_,rfl⟩:=h;intro y hy;simp only[List.mem_cons,List.not_mem_nil,or_false] at hy;rcases hy with rfl | rfl | rfl | rfl <;> exact by2_wr8 _ _
 ·obtain⟨_,_,_,_,_,_,_,_,rfl⟩:=h;intro y hy;simp only[List.mem_cons,List.not_mem_nil,or_false] at hy;rcases hy with rfl | rfl | rfl | rfl | rfl <;> exact by2_wr8 _ _
 ·obtain⟨_,_,_,_,rfl⟩:=h;intro y hy;simp only[List.mem_cons,List.not_mem_nil,or_false] at hy;rcases hy with rfl | rfl | rfl | rfl <;> exact by2_wr8 _ _
 ·cases h;intro y hy;simp only[List.mem_cons,List.not_mem_nil,or_false] at hy;rcases hy with rfl | rfl | rfl <;> exact by2_wr8 _ _
 ·obtain⟨_,_,rfl⟩:=h;intro y hy;simp only[List.mem_cons,List.not_mem_nil,or_false] at hy;rcases hy with rfl | rfl | rfl | rfl <;> exact by2_wr8 _ _
 ·obtain⟨_,_,rfl⟩:=h;intro y hy;simp only[List.mem_cons,List.not_mem_nil,or_false] at hy;rcases hy with rfl | rfl | rfl | rfl <;> exact by2_wr8 _ _
 ·obtain⟨_,_,_,_,rfl⟩:=h;intro y hy;simp only[List.mem_cons,List.not_mem_nil,or_false] at hy;rcases hy with rfl | rfl | rfl <;> exact by2_wr8 _ _
 ·obtain⟨_,_,rfl⟩:=h;intro y hy;simp only[List.mem_cons,List.not_mem_nil,or_false] at hy;rcases hy with rfl | rfl <;> exact by2_wr8 _ _
 ·obtain⟨_,_,_,_,rfl⟩:=h;intro y hy;simp only[List.mem_cons,List.not_mem_nil,or_false] at hy;rcases hy with rfl | rfl | rfl | rfl <;> exact by2_wr8 _ _
 ·obtain⟨_,_,rfl⟩:=h;intro y hy;simp only[List.mem_cons,List.not_mem_nil,or_false] at hy;rcases hy with rfl | rfl | rfl | rfl | rfl <;> exact by2_wr8 _ _
 ·obtain⟨_,_,rfl⟩:=h;intro y hy;simp only[List.mem_cons,List.not_mem_nil,or_false] at hy;rcases hy with rfl | rfl | rfl | rfl <;> exact by2_wr8 _ _
 ·obtain⟨_,_,_,_,rfl⟩:=h;intro y hy;simp only[List.mem_cons,List.not_mem_nil,or_false] at hy;rcases hy with rfl | rfl | rfl <;> exact by2_wr8 _ _
 ·obtain⟨_,_,_,_,rfl⟩:=h;intro y hy;simp only[List.mem_cons,List.not_mem_nil,or_false] at hy;rcases hy with rfl | rfl <;> exact by2_wr8 _ _
theorem codeOk_by {bl:Bool} {I:List (Int × Int)} (h:codeOk bl I):∀ y∈I,by2 y:=by
 obtain⟨P,S,q,r,l,rfl,_,_,hP,hS,_⟩:=h.ex;intro y hy;rcases List.mem_append.1 hy with hy | hy
 ·rcases List.mem_append.1 hy with hy | hy
  ·obtain⟨x,hx,hyx⟩:=List.mem_flatten.1 hy;exact pieceOk_by (hP x hx) y hyx
  ·rcases hS with rfl | rfl
   ·cases hy
   ·simp only[List.mem_cons,List.not_mem_nil,or_false] at hy;rcases hy with rfl | rfl <;> exact by2_wr8 _ _
 ·simp only[List.mem_cons,List.not_mem_nil,or_false] at hy;rcases hy with rfl | rfl <;> exact by2_wr8 _ _
theorem flat_by {I:List (Int × Int)} (h:∀ y∈I,by2 y):∀ x∈flat I,0≤x∧x≤255:=by
 intro x hx;obtain⟨y,hy,hxy⟩:=List.mem_flatMap.1 hx;simp only[List.mem_cons,List.not_mem_nil,or_false] at hxy;rcases hxy with rfl | rfl
 ·exact (h y hy).1
 ·exact (h y hy).2
theorem in64_of {x:Int} (h0:-1000000000000≤x) (h1:x≤1000000000000):In64 x:=⟨by omega,by omega⟩
theorem bnd_in {k:Nat} {b:List (Int × Int)} (h:bndSub k b) (hk:k≤1000):∀ x∈b,In64 x.1∧In64 x.2:=by
 obtain⟨S,_,h2,rfl⟩:=h;intro x hx;obtain⟨s,hs,rfl⟩:=List.mem_map.1 hx;have:=h2 s hs;exact⟨in64_of (by simp only;omega) (by simp only;omega),in64_of (by simp only;omega) (by simp only;omega)⟩
theorem lits_in {c:Int} {X:List (Int × Int)} (h:litsOk c X) (hc:c≤1000):∀ x∈X,In64 x.1∧In64 x.2:=by
 obtain⟨A,B,rfl,_,_,hA,hB⟩:=h;intro x hx;rcases List.mem_append.1 hx with hx | hx
 ·rcases List.mem_append.1 hx with hx | hx
  ·rcases List.mem_append.1 hx with hx | hx
   ·obtain⟨e,h⟩:=hA x hx;exact⟨in64_of (by omega) (by omega),in64_of (by omega) (by omega)⟩
   ·obtain⟨s,hs,rfl⟩:=List.mem_map.1 hx;have:=List.mem_range.1 hs;exact⟨in64_of (by simp only;omega) (by simp only;omega),in64_of (by simp only;omega) (by simp only;omega)⟩
  ·obtain⟨e,h0,h1⟩:=hB x hx;exact⟨in64_of (by omega) (by omega),in64_of (by omega) (by omega)⟩
 ·simp only[List.mem_cons,List.not_mem_nil,or_false] at hx;rcases hx with rfl | rfl <;> exact⟨in64_of (by simp only;omega) (by simp only;omega),in64_of (by simp only;omega) (by simp only;omega)⟩
theorem val_in {N:Nat} {v:Int × Int} (h:valOk N v) (hN:N≤1000):In64 v.1∧In64 v.2:=by
 rcases h with rfl | rfl | rfl | ⟨e,h0,h1⟩ | ⟨e,h0,h1⟩
 ·exact⟨in64_of (by simp only;omega) (by simp only;omega),in64_of (by simp only;omega) (by simp only;omega)⟩
 ·exact⟨in64_of (by simp only;omega) (by simp only;omega),in64_of (by simp only;omega) (by simp only;omega)⟩
 ·exact⟨in64_of (by simp only;omega) (by simp only;omega),in64_of (by simp only;omega) (by simp only;omega)⟩
 ·exact⟨in64_of (by omega) (by omega),in64_of (by omega) (by omega)⟩
 ·exact⟨in64_of (by omega) (by omega),in64_of (by omega) (by omega)⟩
theorem cls_in {L:List ClassA} {k:Nat} {c:ClassA} (h:clsOk L k c) (hk:k≤1000):In64 c.super∧In64 c.fields:=by
 rcases (show k=0∨k=1∨2≤k by omega) with e | e | e
 ·obtain⟨_,a,b⟩:=h.z e;rw[a,b];exact⟨in64_of (by omega) (by omega),in64_of (by omega) (by omega)⟩
 ·obtain⟨_,a,b⟩:=h.o e;rw[a,b];exact⟨in64_of (by omega) (by omega),in64_of (by omega) (by omega)⟩
 ·obtain⟨a,b⟩:=h.fld e;refine⟨?_,in64_of (by omega) (by omega)⟩;rcases h.sup e with e1 | ⟨e1,e2,_⟩
  ·rw[e1];exact in64_of (by omega) (by omega)
  ·exact in64_of (by omega) (by omega)
theorem meth_in {c:Int} {j:Nat} {x:MethA} (h:methOk c j x):In64 x.args∧In64 x.temps:=by
 refine⟨?_,by rw[h.temps];exact in64_of (by omega) (by omega)⟩;rw[h.args]
 split
 ·have:=argOf_le j;exact in64_of (by omega) (by omega)
 ·split <;> exact in64_of (by omega) (by omega)
theorem obj_in {L:List ClassA} {N j:Nat} {x:ObjA} (h:objOk L N j x) (hL:L.length≤1000):In64 x.cls:=by
 rcases h.cls with ⟨h2,d,hd,_⟩ | ⟨_,e,_⟩
 ·have:=(List.getElem?_eq_some_iff.1 hd).1;exact in64_of (by omega) (by omega)
 ·rw[e];exact in64_of (by omega) (by omega)
abbrev set5 (w:World) (q:Nat) (v0 v1 v2 v3 v4:Value):World:=(set4 w q v0 v1 v2 v3).setCell ⟨q,4,none⟩ v4
theorem cell_far5 {w:World} {q i j:Nat} {v:Value} (hij:i≠j):(w.setCell ⟨q,i,none⟩ v).cell? ⟨q,j,none⟩=w.cell? ⟨q,j,none⟩:=World.cell?_setCell_other _ _ _ _ (by intro e;injection e with _ h2;omega)
theorem set4_five {w:World} {q:Nat} {v0 v1 v2 v3 u4:Value} (c4:w.cell? ⟨q,4,none⟩=some u4):(set4 w q v0 v1 v2 v3).cell? ⟨q,4,none⟩=some u4 :=
 (cell_far5 (by decide)).trans ((cell_far5 (by decide)).trans ((cell_far5 (by decide)).trans ((cell_far5 (by decide)).trans c4)))
theorem set1_at {w:World} {q:Nat} {v0 v1 v2 v3 v4 u4:Value} (a0:w.cell? ⟨q,0,none⟩=some v0) (a1:w.cell? ⟨q,1,none⟩=some v1) (a2:w.cell? ⟨q,2,none⟩=some v2) (a3:w.cell? ⟨q,3,none⟩=some v3) (a4:w.cell? ⟨q,4,none⟩=some u4):(w.setCell ⟨q,4,none⟩ v4).cell? ⟨q,0,none⟩=some v0∧(w.setCell ⟨q,4,none⟩ v4).cell? ⟨q,1,none⟩=some v1∧(w.setCell ⟨q,4,none⟩ v4).cell? ⟨q,2,none⟩=some v2∧(w.setCell ⟨q,4,none⟩ v4).cell? ⟨q,3,none⟩=some v3∧(w.setCell ⟨q,4,none⟩ v4).cell? ⟨q,4,none⟩=some v4 :=
 ⟨(cell_far5 (by decide)).trans a0,(cell_far5 (by decide)).trans a1,(cell_far5 (by decide)).trans a2,(cell_far5 (by decide)).trans a3,World.cell?_setCell_same _ _ _ a4⟩
theorem set5_at {w:World} {q:Nat} {v0 v1 v2 v3 v4 u0 u1 u2 u3 u4:Value} (c0:w.cell? ⟨q,0,none⟩=some u0) (c1:w.cell? ⟨q,1,none⟩=some u1) (c2:w.cell? ⟨q,2,none⟩=some u2) (c3:w.cell? ⟨q,3,none⟩=some u3) (c4:w.cell? ⟨q,4,none⟩=some u4):(set5 w q v0 v1 v2 v3 v4).cell? ⟨q,0,none⟩=some v0∧(set5 w q v0 v1 v2 v3 v4).cell? ⟨q,1,none⟩=some v1∧(set5 w q v0 v1 v2 v3 v4).cell? ⟨q,2,none⟩=some v2∧(set5 w q v0 v1 v2 v3 v4).cell? ⟨q,3,none⟩=some v3∧(set5 w q v0 v1 v2 v3 v4).cell? ⟨q,4,none⟩=some v4:=by
 obtain⟨a0,a1,a2,a3⟩:=set4_at (v0:=v0) (v1:=v1) (v2:=v2) (v3:=v3) c0 c1 c2 c3;exact set1_at a0 a1 a2 a3 (set4_five c4)
theorem set5_cg (w:World) (q:Nat) (v0 v1 v2 v3 v4:Value):Cg (fun k=>k=q) w (set5 w q v0 v1 v2 v3 v4) :=
 (((((Cg.refl (fun k=>k=q) w).set ⟨q,0,none⟩ rfl v0).set ⟨q,1,none⟩ rfl v1).set ⟨q,2,none⟩ rfl v2).set ⟨q,3,none⟩ rfl v3).set ⟨q,4,none⟩ rfl v4
def UnF (s:Nat) (w:World) (nv cv mv ov:Value) (U:UnitA):Prop:=∃ M:List (MethA × Value × Value),M.map (·.1)=U.methods∧∀ (G:Nat→Prop) (w2:World),Cg G w w2→(∀ k,G k→k < s)→UnV w2 nv cv mv ov U∧∃ g cap,mv=.slice (some ⟨g,0,none⟩) U.methods.length cap∧∀ (k:Nat) x,M[k]?=some x→w2.cell? ⟨g,k*4,none⟩=some (.int .i64 x.1.args)∧w2.cell? ⟨g,k*4+1,none⟩=some (.int .i64 x.1.temps)∧w2.cell? ⟨g,k*4+2,none⟩=some x.2.1∧w2.cell? ⟨g,k*4+3,none⟩=some x.2.2∧In64 x.1.args∧In64 x.1.temps∧PrV w2 x.2.1 x.1.lits∧ByV w2 x.2.2 x.1.code
theorem mt_own {w:World} {base:Nat} {e:TypeId} {v:Value} {T:List (MethA × Value × Value)} (h:w.ownsRow base e 4 v T.length (mt4s T)) (h0:0 < T.length):∃ g cap,v=.slice (some ⟨g,0,none⟩) T.length cap∧∀ (k:Nat) x,T[k]?=some x→w.cell? ⟨g,k*4,none⟩=some (.int .i64 x.1.args)∧w.cell? ⟨g,k*4+1,none⟩=some (.int .i64 x.1.temps)∧w.cell? ⟨g,k*4+2,none⟩=some x.2.1∧w.cell? ⟨g,k*4+3,none⟩=some x.2.2:=by
 rcases h.2 with ⟨rfl,hz⟩ | ⟨g,cap,cur,rfl,h1,h2,h3,h4,_⟩
 ·omega
 ·refine⟨g,cap,rfl,fun k x hx=>?_⟩;have hk:=(List.getElem?_eq_some_iff.1 hx).1;obtain⟨c0,c1,c2,c3⟩:=mt4s_get T k x hx;exact⟨(h.cellAt (k*4) (by omega)).trans c0,(h.cellAt (k*4+1) (by omega)).trans c1,(h.cellAt (k*4+2) (by omega)).trans c2,(h.cellAt (k*4+3) (by omega)).trans c3⟩
theorem P4.done {w wB wr:World} {p n B Bn g cp m H H3 H4 N:Nat} {ad:Option Addr} {mv ov:Value} {T:List (ClassA × Value)} {M:List (MethA × Value × Value)} {O:List (ObjA × Value)} (h:P4 w wB wr p n ad B (.slice (some ⟨Bn,0,none⟩) 6 6) g cp m T H mv M H3 H4 N ov N O) (hm:3≤m∧m≤5) (hN1:1≤N) (hN5:N≤5) (e1:wB.heap[Bn]?=some (.cells (strs nameL).toArray 9 (0,0))) (hb:w.heap.size+1=Bn) (hB:Bn+1=B) {w9:World} (hc:Cg (fun k=>k=w.heap.size) wr w9):∃ U,UnV w9 (.slice (some ⟨Bn,0,none⟩) 6 6) (.slice (some ⟨g,0,none⟩) m cp) mv ov U∧TapeU U∧Tp w9 p ad n∧Cg (fun k=>k=p) w w9∧UnF (w.heap.size+1) w9 (.slice (some ⟨Bn,0,none⟩) 6 6) (.slice (some ⟨g,0,none⟩) m cp) mv ov U:=by
 have hks:=h.un.ks.other hc (fun k hk=>by omega);have hpB:=h.un.ks.p0;have hrow:∀ {b sz len:Nat} {e:TypeId} {v:Value} {xs:List Value},wr.ownsRow b e sz v len xs→w.heap.size < b→w9.ownsRow b e sz v len xs:=fun ho hlt=>row_cg ho hc (fun k hk hf=>by have:=(ho.lt k hk).1;omega);have hBH:=h.fin.BH;have hHH:=h.fin.HH;have hHB:=h.HB;have hlT:=h.fin.len;have hlM:=h.fin.mr.len;have hlO:=h.len;have hnm:w9.heap[Bn]?=some (.cells (strs nameL).toArray 9 (0,0)):=by
  have hsz:=h.un.cg.size;have hbs:=h.un.bs;exact (hc.block Bn (by omega) (by omega)).trans ((h.un.cg.block Bn (by omega) (by omega)).trans e1)
 have hnm2:∀ (G:Nat→Prop) (w2:World),Cg G w9 w2→(∀ k,G k→k < w.heap.size+1)→UnV w2 (.slice (some ⟨Bn,0,none⟩) 6 6) (.slice (some ⟨g,0,none⟩) m cp) mv ov ⟨nameL,T.map (·.1),M.map (·.1),O.map (·.1),6⟩:=by
  intro G w2 hG hlt2;have hrow2:∀ {b sz len:Nat} {e:TypeId} {v:Value} {xs:List Value},wr.ownsRow b e sz v len xs→w.heap.size < b→w2.ownsRow b e sz v len xs:=fun ho hlt=>row_cg (hrow ho hlt) hG (fun k hk hf=>by have:=(ho.lt k hk).1;have:=hlt2 k hf;omega);have hB9:=(Array.getElem?_eq_some_iff.1 hnm).1;have hnmw:w2.heap[Bn]?=some (.cells (strs nameL).toArray 9 (0,0)):=(hG.block Bn hB9 (fun hf=>by have:=hlt2 _ hf;omega)).trans hnm;refine⟨NmV.own hnmw (by decide),?_,?_,?_⟩
  ·have hr:=hrow2 h.fin.row (by omega);rw[hlT] at hr ⊢;refine ClV.own hr (fun x hx=>?_);obtain⟨k,hk⟩:=List.getElem?_of_mem hx;have hkl:=(List.getElem?_eq_some_iff.1 hk).1;obtain⟨i1,i2⟩:=cls_in (h.fin.ok k x hk) (by omega);exact⟨i1,i2,PrV.own (hrow2 (h.fin.bnd k x hk) (by omega)) (bnd_in (h.fin.don k x hk).2 (by omega))⟩
  ·have hr:=hrow2 h.fin.mr.row (by omega);rw[hlM] at hr;refine MtV.own hr (fun x hx=>?_);obtain⟨k,hk⟩:=List.getElem?_of_mem hx;have ho:=h.fin.mr.ok k x hk;obtain⟨i1,i2⟩:=meth_in ho;have hs:=h.fin.mr.sub x hx;obtain⟨I,hI,eI⟩:=ho.code;exact⟨i1,i2,PrV.own (hrow2 hs.l (by omega)) (lits_in ho.lits (by omega)),ByV.own (hrow2 hs.c (by omega)) (by rw[eI];exact flat_by (codeOk_by hI))⟩
  ·have hr:=hrow2 h.row (by omega);rw[hlO] at hr;refine ObV.own hr (fun x hx=>?_);obtain⟨k,hk⟩:=List.getElem?_of_mem hx;have ho:=h.ok k x hk;exact⟨obj_in ho (by simp;omega),PrV.own (hrow2 (h.sub x hx) (by omega)) (fun v hv=>val_in (ho.flds v hv) (by omega))⟩
 refine⟨_,hnm2 (fun _=>False) w9 (Cg.refl _ _) (fun _ e=>e.elim),⟨rfl,by simp;omega,by simp;omega,?_,by simp;omega,?_,by simp;omega,by simp;omega,?_,rfl⟩,hks.tp,hks.cg,M,rfl,fun G w2 hG hlt2=>⟨hnm2 G w2 hG hlt2,?_⟩⟩
 ·intro k c hc';obtain⟨x,hx,rfl⟩:∃ x,T[k]?=some x∧x.1=c:=by simpa using hc'
  obtain⟨a,b⟩:=h.fin.don k x hx;exact⟨h.fin.ok k x hx,a,b⟩
 ·intro k c hc';obtain⟨x,hx,rfl⟩:∃ x,M[k]?=some x∧x.1=c:=by simpa using hc'
  have:=h.fin.mr.ok k x hx;rw[hlT] at this;simpa using this
 ·intro k c hc';obtain⟨x,hx,rfl⟩:∃ x,O[k]?=some x∧x.1=c:=by simpa using hc'
  have:=h.ok k x hx;simpa [← hlO] using this
 ·have hrow2:∀ {b sz len:Nat} {e:TypeId} {v:Value} {xs:List Value},wr.ownsRow b e sz v len xs→w.heap.size < b→w2.ownsRow b e sz v len xs:=fun ho hlt=>row_cg (hrow ho hlt) hG (fun k hk hf=>by have:=(ho.lt k hk).1;have:=hlt2 k hf;omega);have hr:=hrow2 h.fin.mr.row (by omega);rw[hlM] at hr;obtain⟨g',cap',e',hcl⟩:=mt_own hr (by omega);refine⟨g',cap',by rw[e'];simp,fun k x hx=>?_⟩;obtain⟨c0,c1,c2,c3⟩:=hcl k x hx;have ho:=h.fin.mr.ok k x hx;obtain⟨i1,i2⟩:=meth_in ho;have hs:=h.fin.mr.sub x (List.mem_of_getElem? hx);obtain⟨I,hI,eI⟩:=ho.code;exact⟨c0,c1,c2,c3,i1,i2,PrV.own (hrow2 hs.l (by omega)) (lits_in ho.lits (by omega)),ByV.own (hrow2 hs.c (by omega)) (by rw[eI];exact flat_by (codeOk_by hI))⟩
structure MeV (w:World) (v:Value) (m:MethA):Prop where
 mk ::
 ex:∃ la lc ca cc,v=.agg #[.int .i64 m.args,.int .i64 m.temps,.slice la m.lits.length lc,.slice ca m.code.length cc]∧PrV w (.slice la m.lits.length lc) m.lits∧ByV w (.slice ca m.code.length cc) m.code
 a64:In64 m.args
 t64:In64 m.temps
theorem PrV.le {w:World} {v:Value} {L:List (Int × Int)} (h:PrV w v L):L.length≤maxLen:=by
 obtain⟨ad,cap,_,h1,h2,_⟩:=h.ex;omega
theorem ByV.form {w:World} {v:Value} {L:List Int} (h:ByV w v L):∃ ad cap,v=.slice ad L.length cap∧L.length≤cap∧cap≤maxLen:=by
 obtain⟨ad,cap,e,h1,h2,h3⟩:=h.ex;exact⟨ad,cap,e,h1,h2⟩
theorem ByV.le {w:World} {v:Value} {L:List Int} (h:ByV w v L):L.length≤maxLen:=by
 obtain⟨ad,cap,_,h1,h2⟩:=h.form;omega
theorem ByV.at {w:World} {ad:Option Addr} {n cap:Nat} {L:List Int} (h:ByV w (.slice ad n cap) L) {k:Nat} {x:Int} (hk:L[k]?=some x):(0≤x∧x≤255)∧∃ g off,ad=some ⟨g,off,none⟩∧w.cell? ⟨g,off+k,none⟩=some (.int .u8 x):=by
 obtain⟨ad',cap',e,h1,h2,h3⟩:=h.ex;cases e;exact h3 k x hk
theorem ByV.take {w:World} {ad:Option Addr} {n cap:Nat} {L:List Int} (h:ByV w (.slice ad n cap) L) (k:Nat) (hk:k≤L.length):ByV w (.slice ad k cap) (L.take k):=by
 obtain⟨ad',cap',e,h1,h2,h3⟩:=h.ex;cases e;have hl:(L.take k).length=k:=by rw[List.length_take];omega
 refine⟨ad,cap,by rw[hl],by omega,h2,fun j x hx=>h3 j x ?_⟩;rw[List.getElem?_take] at hx
 split at hx
 ·exact hx
 ·cases hx
theorem MeV.up {w w1:World} {v:Value} {m:MethA} (h:MeV w v m) (b:Below w.heap.size w w1):MeV w1 v m:=by
 obtain⟨la,lc,ca,cc,e,h1,h2⟩:=h.ex;exact⟨⟨la,lc,ca,cc,e,h1.up b,h2.up b⟩,h.a64,h.t64⟩
def byAt (C:List Int) (k:Nat):Int:=C.getD k 0
theorem byAt_some {C:List Int} {k:Nat} (h:k < C.length):C[k]?=some (byAt C k):=by
 unfold byAt;rw[List.getD_eq_getElem?_getD,List.getElem?_eq_getElem h];rfl
def fetR (C:List Int) (pc:Int):Int × Int × Bool:=if pc < 0∨pc % 2≠0∨pc > (C.length:Int) - 2 then (0,0,false) else (byAt C pc.toNat,byAt C (pc.toNat+1),true)
def takL:List Int:=[2,2,2,2,2,2,1,1,2,3,1,1,2,2,0,1,1,0,1,3,2,0,1,0]
def takR (p:Int):Int:=if p < 0∨p > 23 then -1 else takL.getD p.toNat 0
def litAt (L:List (Int × Int)) (i:Int):Int × Int:=L.getD i.toNat (0,0)
def hasLit (L:List (Int × Int)) (i kind:Int):Bool:=decide (i < (L.length:Int)) && decide ((litAt L i).1=kind)
def insR (m:MethA) (pc op arg:Int):Bool :=
 if op=0∨op=10 then decide (arg < m.args+m.temps)
 else if op=1∨op=11 then decide (arg < 62)
 else if op=2 then hasLit m.lits arg 3
 else if op=12∨op=13 then hasLit m.lits arg 5
 else if op=20 then hasLit m.lits arg 6 && decide ((litAt m.lits arg).2 > 1)
 else if op=18 then hasLit m.lits arg 7
 else if op=15∨op=17 then decide (pc+2+2*arg < (m.code.length:Int))
 else if op=16 then decide (2*arg≤pc)
 else if op=21 then decide (arg≤23)
 else decide (op≤21)
def litR (x:Int × Int) (nn nc nm:Nat):Bool :=
 if x.1=3 then decide (-1073741824≤x.2) && decide (x.2≤1073741823)
 else if x.1=5 then decide (0≤x.2) && decide (x.2 < (nn:Int))
 else if x.1=6 then decide (0≤x.2) && decide (x.2 < (nc:Int))
 else if x.1=7 then decide (0≤x.2) && decide (x.2 < (nm:Int))
 else false
def insF (m:MethA):Nat→Nat→Bool
 | 0,_=>true
 | f+1,pc=>insR m (pc:Int) (byAt m.code pc) (byAt m.code (pc+1)) && insF m f (pc+2)
def metR (m:MethA) (nn nc nm:Nat):Int :=
 if m.code.length > 128∨m.lits.length > 16∨m.args < 0∨m.temps < 0∨m.args > 8∨m.temps > 8 - m.args then 3
 else if m.code.length < 2∨m.code.length % 2≠0 then 12
 else if byAt m.code (m.code.length - 2)≠14∧byAt m.code (m.code.length - 2)≠19∧byAt m.code (m.code.length - 2)≠16 then 12
 else if m.lits.all (fun x=>litR x nn nc nm)=false then 12
 else if insF m (m.code.length / 2) 0=false then 12
 else 0
theorem fet_no {C:List Int} {pc:Int} (h:pc < 0∨pc % 2≠0∨pc > (C.length:Int) - 2):fetR C pc=(0,0,false):=if_pos h
theorem fet_yes {C:List Int} {pc:Int} (h0:0≤pc) (h1:pc % 2=0) (h2:pc≤(C.length:Int) - 2):fetR C pc=(byAt C pc.toNat,byAt C (pc.toNat+1),true):=if_neg (by omega)
theorem mod2 {n:Nat}:Int.tmod (n:Int) 2=((n % 2:Nat):Int):=by
 show Int.tmod _ ((2:Nat):Int)=_;rw[← Int.ofNat_tmod]
end Wd
end Go.Proofs.YtgfnelhbdhbklaaGreat
namespace Go.Proofs.YtgfnelhbdhbklaaGreat
open Go.RowKit
set_option linter.unusedVariables false
set_option maxRecDepth 20000
namespace Wd
set_option maxHeartbeats 4000000 in
theorem rnumber_c (x:Int) (w:World) :
  Calls Tryz.prog 87 #[.int .i64 x] w fun e w'=>e=.returned (.bool (decide (-1073741824≤x) && decide (x≤1073741823)))∧w'=w:=by
 by_cases h:-1073741824≤x
 ·by_cases h2:x≤1073741823
  ·have d1:decide (x ≥ -1073741824)=true:=by simp;omega
   have d2:decide (x≤1073741823)=true:=by simp;omega
   rw[decide_eq_true h,decide_eq_true h2];go_enter Tryz.func87,Tryz.ntmps87
   go_wp2
   go_ret;exact⟨rfl,rfl⟩
  ·have d1:decide (x ≥ -1073741824)=true:=by simp;omega
   have d2:decide (x≤1073741823)=false:=by simp;omega
   rw[decide_eq_true h,decide_eq_false h2];go_enter Tryz.func87,Tryz.ntmps87
   go_wp2
   go_ret;exact⟨rfl,rfl⟩
 ·have d1:decide (x ≥ -1073741824)=false:=by simp;omega
  rw[decide_eq_false h];go_enter Tryz.func87,Tryz.ntmps87
  go_wp2
  go_ret;exact⟨rfl,rfl⟩
end Wd
end Go.Proofs.YtgfnelhbdhbklaaGreat
namespace Go.Proofs.YtgfnelhbdhbklaaGreat
open Go.RowKit
set_option linter.unusedVariables false
set_option maxRecDepth 20000
namespace Wd
structure MeB (w:World) (q:Nat) (v:Value) (m:MethA) (la ca:Option Addr) (lc cc:Nat):Prop where
 e:v=.agg #[.int .i64 m.args,.int .i64 m.temps,.slice la m.lits.length lc,.slice ca m.code.length cc]
 c0:w.cell? ⟨q,0,none⟩=some (.int .i64 m.args)
 c1:w.cell? ⟨q,1,none⟩=some (.int .i64 m.temps)
 c2:w.cell? ⟨q,2,none⟩=some (.slice la m.lits.length lc)
 c3:w.cell? ⟨q,3,none⟩=some (.slice ca m.code.length cc)
 me:MeV w v m
theorem MeB.born {w:World} {m:MethA} {la ca:Option Addr} {lc cc:Nat} (h:MeV w (.agg #[.int .i64 m.args,.int .i64 m.temps,.slice la m.lits.length lc,.slice ca m.code.length cc]) m):MeB (w.alloc (.cells #[.int .i64 m.args,.int .i64 m.temps,.slice la m.lits.length lc,.slice ca m.code.length cc] 63)) w.heap.size (.agg #[.int .i64 m.args,.int .i64 m.temps,.slice la m.lits.length lc,.slice ca m.code.length cc]) m la ca lc cc :=
 ⟨rfl,by simp,by simp,by simp,by simp,h.up ((Below.refl _ _).alloc (Nat.le_refl _) _)⟩
theorem MeB.lt {w:World} {q:Nat} {v:Value} {m:MethA} {la ca:Option Addr} {lc cc:Nat} (h:MeB w q v m la ca lc cc):q < w.heap.size:=World.block_lt_of_cell? w _ h.c0
theorem MeB.up {w w1:World} {q:Nat} {v:Value} {m:MethA} {la ca:Option Addr} {lc cc:Nat} (h:MeB w q v m la ca lc cc) (b:Below w.heap.size w w1):MeB w1 q v m la ca lc cc :=
 ⟨h.e,cell_up b h.c0,cell_up b h.c1,cell_up b h.c2,cell_up b h.c3,h.me.up b⟩
theorem MeB.py {w:World} {q:Nat} {v:Value} {m:MethA} {la ca:Option Addr} {lc cc:Nat} (h:MeB w q v m la ca lc cc):PrV w (.slice la m.lits.length lc) m.lits∧ByV w (.slice ca m.code.length cc) m.code:=by
 obtain⟨la',lc',ca',cc',e,h1,h2⟩:=h.me.ex;rw[h.e] at e;cases e;exact⟨h1,h2⟩
theorem len_le {n:Nat} (h:n≤maxLen):(n:Int)≤9223372036854775807:=by
 have:maxLen≤9223372036854775807:=by decide
 omega
set_option maxHeartbeats 8000000 in
theorem rfetch_c {w:World} {v:Value} {m:MethA} (h:MeV w v m) (pc:Int) (hp:In64 pc) :
  Calls Tryz.prog 101 #[v,.int .i64 pc] w fun e w'=>e=.returned (.tuple #[.int .i64 (fetR m.code pc).1,.int .i64 (fetR m.code pc).2.1,.bool (fetR m.code pc).2.2])∧Below w.heap.size w w':=by
 obtain⟨la,lc,ca,cc,rfl,hl,hc⟩:=h.ex;have hB:=HD (MeB.born h);have hW:=HD ((Below.refl w.heap.size w).alloc (Nat.le_refl _) (.cells #[.int .i64 m.args,.int .i64 m.temps,.slice la m.lits.length lc,.slice ca m.code.length cc] 63));have hle:=len_le hc.le;obtain⟨p0,p1⟩:=hp;by_cases h0:pc < 0
 ·have d1:decide (pc < 0)=true:=by simpa using h0
  have e:=HD (fet_no (C:=m.code) (Or.inl h0));go_enter Tryz.func101,Tryz.ntmps101
  go_wp2
  go_returns
  exact⟨by rw[e.out];rfl,hW.out⟩
 ·have d1:decide (pc < 0)=false:=by simpa using h0
  obtain⟨k,rfl⟩:∃ k:Nat,pc=k:=⟨pc.toNat,by omega⟩
  have hm:=mod2 (n:=k);rcases (show k % 2=1∨k % 2=0 by omega) with h1 | h1
  ·have e:=HD (fet_no (C:=m.code) (pc:=(k:Int)) (Or.inr (Or.inl (by omega))));rw[h1] at hm;replace hm:Int.tmod (k:Int) 2=1:=hm;go_enter Tryz.func101,Tryz.ntmps101
   go_wp2
   go_returns
   exact⟨by rw[e.out];rfl,hW.out⟩
  ·rw[h1] at hm;replace hm:Int.tmod (k:Int) 2=0:=hm;have wm:IntKind.i64.wrap ((m.code.length:Int) - 2)=(m.code.length:Int) - 2:=by rw[IntKind.wrap_i64];omega
   by_cases h2:(k:Int) > (m.code.length:Int) - 2
   ·have e:=HD (fet_no (C:=m.code) (pc:=(k:Int)) (Or.inr (Or.inr h2)));have d2:decide ((k:Int) > (m.code.length:Int) - 2)=true:=by simpa using h2
    go_enter Tryz.func101,Tryz.ntmps101
    go_wp2
    go_returns
    exact⟨by rw[e.out];rfl,hW.out⟩
   ·have e:=fet_yes (C:=m.code) (pc:=(k:Int)) (by omega) (by omega) (by omega);have d2:decide ((k:Int) > (m.code.length:Int) - 2)=false:=by simpa using h2
    rw[Int.toNat_natCast] at e;replace e:=HD e;have k0:(0:Int)≤(k:Int):=by omega
    have k1:(k:Int) < (m.code.length:Int):=by omega
    have k2:(0:Int)≤(k:Int)+1:=by omega
    have k3:(k:Int)+1 < (m.code.length:Int):=by omega
    have wk:IntKind.i64.wrap ((k:Int)+1)=(k:Int)+1:=by rw[IntKind.wrap_i64];omega
    obtain⟨b0,g,off,rfl,c0⟩:=hB.out.py.2.at (byAt_some (C:=m.code) (k:=k) (by omega));obtain⟨b1,g',off',eg,c1⟩:=hB.out.py.2.at (byAt_some (C:=m.code) (k:=k+1) (by omega));cases eg;generalize byAt m.code k=x at *;generalize byAt m.code (k+1)=y at *;have wx:IntKind.i64.wrap x=x:=by rw[IntKind.wrap_i64];omega
    have wy:IntKind.i64.wrap y=y:=by rw[IntKind.wrap_i64];omega
    have a0:=hB.out.c0;have a1:=hB.out.c1;have a2:=hB.out.c2;have a3:=hB.out.c3;go_enter Tryz.func101,Tryz.ntmps101
    go_upto_region 1 with fail
    generalize w.alloc (.cells #[.int .i64 m.args,.int .i64 m.temps,.slice la m.lits.length lc,.slice (some ⟨g,off,none⟩) m.code.length cc] 63)=W at *
    go_wp2
    go_big_quiet (fail)
    go_wp2
    go_returns
    exact⟨by rw[e.out];rfl,hW.out.trans (Below.mono (drewK _ _) hW.out.size)⟩
theorem litAt_some {L:List (Int × Int)} {k:Nat} (h:k < L.length):L[k]?=some (litAt L (k:Int)):=by
 unfold litAt;rw[Int.toNat_natCast,List.getD_eq_getElem?_getD,List.getElem?_eq_getElem h];rfl
set_option maxHeartbeats 8000000 in
theorem rlit_c {w:World} {v:Value} {m:MethA} (h:MeV w v m) (i kind:Int) (i0:0≤i) (i1:i≤255) :
  Calls Tryz.prog 102 #[v,.int .i64 i,.int .i64 kind] w fun e w'=>e=.returned (.bool (hasLit m.lits i kind))∧Below w.heap.size w w':=by
 obtain⟨la,lc,ca,cc,rfl,hl,hc⟩:=h.ex;have hB:=HD (MeB.born h);have hW:=HD ((Below.refl w.heap.size w).alloc (Nat.le_refl _) (.cells #[.int .i64 m.args,.int .i64 m.temps,.slice la m.lits.length lc,.slice ca m.code.length cc] 63));have hle:=len_le hl.le;obtain⟨k,rfl⟩:∃ k:Nat,i=k:=⟨i.toNat,by omega⟩
 by_cases h0:k < m.lits.length
 ·have d0:decide ((k:Int) < (m.lits.length:Int))=true:=by simp;omega
  have k0:(0:Int)≤(k:Int):=by omega
  have k1:(k:Int) < (m.lits.length:Int):=by omega
  obtain⟨_,_,g,off,rfl,c0,c1⟩:=hB.out.py.1.at (litAt_some h0);have e:Hid (hasLit m.lits (k:Int) kind=((litAt m.lits (k:Int)).1 == kind)):=HD (by
   unfold hasLit;rw[d0,Bool.true_and];rfl)
  generalize (litAt m.lits (k:Int)).1=x at *;have a2:=hB.out.c2;go_enter Tryz.func102,Tryz.ntmps102
  go_upto_region 1 with fail
  generalize w.alloc (.cells #[.int .i64 m.args,.int .i64 m.temps,.slice (some ⟨g,off,none⟩) m.lits.length lc,.slice ca m.code.length cc] 63)=W at *
  go_wp2
  go_ret;exact⟨by rw[e.out];rfl,hW.out⟩
 ·have d0:decide ((k:Int) < (m.lits.length:Int))=false:=by simp;omega
  have e:Hid (hasLit m.lits (k:Int) kind=false):=HD (by unfold hasLit;rw[d0];rfl);have a2:=hB.out.c2;go_enter Tryz.func102,Tryz.ntmps102
  go_wp2
  go_ret;exact⟨by rw[e.out];rfl,hW.out⟩
structure UnK (w:World) (v:Value) (U:UnitA):Prop where
 mk ::
 ex:∃ na nc ca cc ma mc oa oc,v=.agg #[.slice na U.names.length nc,.slice ca U.classes.length cc,.slice ma U.methods.length mc,.slice oa U.objects.length oc,.int .i64 U.main]∧UnV w (.slice na U.names.length nc) (.slice ca U.classes.length cc) (.slice ma U.methods.length mc) (.slice oa U.objects.length oc) U
theorem UnK.up {w w1:World} {v:Value} {U:UnitA} (h:UnK w v U) (b:Below w.heap.size w w1):UnK w1 v U:=by
 obtain⟨na,nc,ca,cc,ma,mc,oa,oc,e,h⟩:=h.ex;exact⟨⟨na,nc,ca,cc,ma,mc,oa,oc,e,h.up b⟩⟩
def num30 (x:Int):Bool:=decide (-1073741824≤x) && decide (x≤1073741823)
def inN (x:Int) (n:Nat):Bool:=decide (0≤x) && decide (x < (n:Int))
theorem lit_num (x:Int) (nn nc nm:Nat):litR (3,x) nn nc nm=num30 x:=rfl
theorem lit_sel (x:Int) (nn nc nm:Nat):litR (5,x) nn nc nm=inN x nn:=rfl
theorem lit_cls (x:Int) (nn nc nm:Nat):litR (6,x) nn nc nm=inN x nc:=rfl
theorem lit_blk (x:Int) (nn nc nm:Nat):litR (7,x) nn nc nm=inN x nm:=rfl
theorem lit_no {k x:Int} (nn nc nm:Nat) (h3:k≠3) (h5:k≠5) (h6:k≠6) (h7:k≠7):litR (k,x) nn nc nm=false:=by
 unfold litR;rw[if_neg h3,if_neg h5,if_neg h6,if_neg h7]
theorem inN_y {x:Int} {n:Nat} (h0:0≤x):inN x n=decide (x < (n:Int)):=by unfold inN;rw[decide_eq_true h0];rfl
theorem inN_n {x:Int} {n:Nat} (h0:¬ 0≤x):inN x n=false:=by unfold inN;rw[decide_eq_false h0];rfl
set_option maxHeartbeats 8000000 in
theorem rliteral_c {w:World} {u:Value} {U:UnitA} (h:UnK w u U) (k x:Int) :
  Calls Tryz.prog 83 #[.agg #[.int .i64 k,.int .i64 x],u] w fun e w'=>e=.returned (.bool (litR (k,x) U.names.length U.classes.length U.methods.length))∧Below w.heap.size w w':=by
 obtain⟨na,nc,ca,cc,ma,mc,oa,oc,rfl,hu⟩:=h.ex;clear h hu;generalize U.names.length=nn at *;generalize U.classes.length=nk at *;generalize U.methods.length=nm at *;generalize U.objects.length=no at *;generalize U.main=um at *;have hW:=HD (((Below.refl w.heap.size w).alloc (Nat.le_refl _) (.cells #[.int .i64 k,.int .i64 x] 68)).alloc (by simp only[World.size_alloc];omega) (.cells #[.slice na nn nc,.slice ca nk cc,.slice ma nm mc,.slice oa no oc,.int .i64 um] 27));by_cases h3:k=3
 ·subst h3;have PN:=HD (fun w=>rnumber_c x w);have e:Hid (litR (3,x) nn nk nm=num30 x):=HD (lit_num x nn nk nm);go_enter Tryz.func83,Tryz.ntmps83
  go_wp2_with fail
  refine (PN.out _).mono ?_;rintro e1 w1 ⟨rfl,hw⟩;subst w1
  go_wp2
  go_ret;exact⟨by rw[e.out];rfl,hW.out⟩
 by_cases h5:k=5
 ·subst h5;by_cases h0:0≤x
  ·have d0:decide (x ≥ 0)=true:=by simpa using h0
   have e:Hid (litR (5,x) nn nk nm=decide (x < (nn:Int))):=HD ((lit_sel x nn nk nm).trans (inN_y h0));go_enter Tryz.func83,Tryz.ntmps83
   go_wp2
   go_ret;exact⟨by rw[e.out];rfl,hW.out⟩
  ·have d0:decide (x ≥ 0)=false:=by simpa using h0
   have e:Hid (litR (5,x) nn nk nm=false):=HD ((lit_sel x nn nk nm).trans (inN_n h0));go_enter Tryz.func83,Tryz.ntmps83
   go_wp2
   go_ret;exact⟨by rw[e.out];rfl,hW.out⟩
 by_cases h6:k=6
 ·subst h6;by_cases h0:0≤x
  ·have d0:decide (x ≥ 0)=true:=by simpa using h0
   have e:Hid (litR (6,x) nn nk nm=decide (x < (nk:Int))):=HD ((lit_cls x nn nk nm).trans (inN_y h0));go_enter Tryz.func83,Tryz.ntmps83
   go_wp2
   go_ret;exact⟨by rw[e.out];rfl,hW.out⟩
  ·have d0:decide (x ≥ 0)=false:=by simpa using h0
   have e:Hid (litR (6,x) nn nk nm=false):=HD ((lit_cls x nn nk nm).trans (inN_n h0));go_enter Tryz.func83,Tryz.ntmps83
   go_wp2
   go_ret;exact⟨by rw[e.out];rfl,hW.out⟩
 by_cases h7:k=7
 ·subst h7;by_cases h0:0≤x
  ·have d0:decide (x ≥ 0)=true:=by simpa using h0
   have e:Hid (litR (7,x) nn nk nm=decide (x < (nm:Int))):=HD ((lit_blk x nn nk nm).trans (inN_y h0));go_enter Tryz.func83,Tryz.ntmps83
   go_wp2
   go_ret;exact⟨by rw[e.out];rfl,hW.out⟩
  ·have d0:decide (x ≥ 0)=false:=by simpa using h0
   have e:Hid (litR (7,x) nn nk nm=false):=HD ((lit_blk x nn nk nm).trans (inN_n h0));go_enter Tryz.func83,Tryz.ntmps83
   go_wp2
   go_ret;exact⟨by rw[e.out];rfl,hW.out⟩
 have e:Hid (litR (k,x) nn nk nm=false):=HD (lit_no nn nk nm h3 h5 h6 h7);have f3:(k == 3)=false:=by simpa using h3
 have f5:(k == 5)=false:=by simpa using h5
 have f6:(k == 6)=false:=by simpa using h6
 have f7:(k == 7)=false:=by simpa using h7
 clear h3 h5 h6 h7;go_enter Tryz.func83,Tryz.ntmps83
 go_wp2
 go_ret;exact⟨by rw[e.out];rfl,hW.out⟩
end Wd
end Go.Proofs.YtgfnelhbdhbklaaGreat
