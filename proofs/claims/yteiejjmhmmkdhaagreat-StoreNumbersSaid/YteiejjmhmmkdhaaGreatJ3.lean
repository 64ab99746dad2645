/- Texts joined: KX. -/
import Derived.Test.YteiejjmhmmkdhaaGreatJ2
/- A tape's program, whole: what is read of it. -/
namespace Go.Proofs.YteiejjmhmmkdhaaGreat
open Go.RowKit
set_option linter.unusedVariables false
set_option maxRecDepth 20000
namespace Wd
def by2 (y:Int × Int):Prop:=(0≤y.1∧y.1≤255)∧(0≤y.2∧y.2≤255)
theorem by2_wr8 (a b:Int):by2 (wr8 a,wr8 b):=⟨wr8_bd a,wr8_bd b⟩
theorem pieceOk_by {l:List (Int × Int)} (h:pieceOk l):∀ y∈l,by2 y:=by
 unfold pieceOk at h
 rcases h with h | h | h | h | h | h | h | h | h | h | h | h | h | h | h | h | h | h
 ·obtain⟨_,_,rfl⟩:=h
  intro y hy
  simp only [List.mem_cons,List.not_mem_nil,or_false] at hy
  rcases hy with rfl | rfl | rfl <;> exact by2_wr8 _ _
 ·obtain⟨_,_,rfl⟩:=h
  intro y hy
  simp only [List.mem_cons,List.not_mem_nil,or_false] at hy
  rcases hy with rfl | rfl | rfl <;> exact by2_wr8 _ _
 ·obtain⟨_,_,_,_,rfl⟩:=h
  intro y hy
  simp only [List.mem_cons,List.not_mem_nil,or_false] at hy
  rcases hy with rfl | rfl | rfl | rfl | rfl <;> exact by2_wr8 _ _
 ·obtain⟨_,_,_,_,_,_,rfl⟩:=h
  intro y hy
  simp only [List.mem_cons,List.not_mem_nil,or_false] at hy
  rcases hy with rfl | rfl | rfl | rfl | rfl <;> exact by2_wr8 _ _
 ·obtain⟨_,_,_,_,rfl⟩:=h
  intro y hy
  simp only [List.mem_cons,List.not_mem_nil,or_false] at hy
  rcases hy with rfl | rfl | rfl <;> exact by2_wr8 _ _
 ·obtain⟨_,_,_,_,rfl⟩:=h
  intro y hy
  simp only [List.mem_cons,List.not_mem_nil,or_false] at hy
  rcases hy with rfl | rfl | rfl | rfl <;> exact by2_wr8 _ _
 ·obtain⟨_,_,_,_,_,_,_,_,rfl⟩:=h
  intro y hy
  simp only [List.mem_cons,List.not_mem_nil,or_false] at hy
  rcases hy with rfl | rfl | rfl | rfl | rfl <;> exact by2_wr8 _ _
 ·obtain⟨_,_,_,_,rfl⟩:=h
  intro y hy
  simp only [List.mem_cons,List.not_mem_nil,or_false] at hy
  rcases hy with rfl | rfl | rfl | rfl <;> exact by2_wr8 _ _
 ·cases h
  intro y hy
  simp only [List.mem_cons,List.not_mem_nil,or_false] at hy
  rcases hy with rfl | rfl | rfl <;> exact by2_wr8 _ _
 ·obtain⟨_,_,rfl⟩:=h
  intro y hy
  simp only [List.mem_cons,List.not_mem_nil,or_false] at hy
  rcases hy with rfl | rfl | rfl | rfl <;> exact by2_wr8 _ _
 ·obtain⟨_,_,rfl⟩:=h
  intro y hy
  simp only [List.mem_cons,List.not_mem_nil,or_false] at hy
  rcases hy with rfl | rfl | rfl | rfl <;> exact by2_wr8 _ _
 ·obtain⟨_,_,_,_,rfl⟩:=h
  intro y hy
  simp only [List.mem_cons,List.not_mem_nil,or_false] at hy
  rcases hy with rfl | rfl | rfl <;> exact by2_wr8 _ _
 ·obtain⟨_,_,rfl⟩:=h
  intro y hy
  simp only [List.mem_cons,List.not_mem_nil,or_false] at hy
  rcases hy with rfl | rfl <;> exact by2_wr8 _ _
 ·obtain⟨_,_,_,_,rfl⟩:=h
  intro y hy
  simp only [List.mem_cons,List.not_mem_nil,or_false] at hy
  rcases hy with rfl | rfl | rfl | rfl <;> exact by2_wr8 _ _
 ·obtain⟨_,_,rfl⟩:=h
  intro y hy
  simp only [List.mem_cons,List.not_mem_nil,or_false] at hy
  rcases hy with rfl | rfl | rfl | rfl | rfl <;> exact by2_wr8 _ _
 ·obtain⟨_,_,rfl⟩:=h
  intro y hy
  simp only [List.mem_cons,List.not_mem_nil,or_false] at hy
  rcases hy with rfl | rfl | rfl | rfl <;> exact by2_wr8 _ _
 ·obtain⟨_,_,_,_,rfl⟩:=h
  intro y hy
  simp only [List.mem_cons,List.not_mem_nil,or_false] at hy
  rcases hy with rfl | rfl | rfl <;> exact by2_wr8 _ _
 ·obtain⟨_,_,_,_,rfl⟩:=h
  intro y hy
  simp only [List.mem_cons,List.not_mem_nil,or_false] at hy
  rcases hy with rfl | rfl <;> exact by2_wr8 _ _
theorem codeOk_by {bl:Bool} {I:List (Int × Int)} (h:codeOk bl I):∀ y∈I,by2 y:=by
 obtain⟨P,S,q,r,l,rfl,_,_,hP,hS,_⟩:=h.ex
 intro y hy
 rcases List.mem_append.1 hy with hy | hy
 ·rcases List.mem_append.1 hy with hy | hy
  ·obtain⟨x,hx,hyx⟩:=List.mem_flatten.1 hy
   exact pieceOk_by (hP x hx) y hyx
  ·rcases hS with rfl | rfl
   ·cases hy
   ·simp only [List.mem_cons,List.not_mem_nil,or_false] at hy
    rcases hy with rfl | rfl <;> exact by2_wr8 _ _
 ·simp only [List.mem_cons,List.not_mem_nil,or_false] at hy
  rcases hy with rfl | rfl <;> exact by2_wr8 _ _
theorem flat_by {I:List (Int × Int)} (h:∀ y∈I,by2 y):∀ x∈flat I,0≤x∧x≤255:=by
 intro x hx
 obtain⟨y,hy,hxy⟩:=List.mem_flatMap.1 hx
 simp only [List.mem_cons,List.not_mem_nil,or_false] at hxy
 rcases hxy with rfl | rfl
 ·exact (h y hy).1
 ·exact (h y hy).2
theorem in64_of {x:Int} (h0:-1000000000000≤x) (h1:x≤1000000000000):In64 x:=⟨by omega,by omega⟩
theorem bnd_in {k:Nat} {b:List (Int × Int)} (h:bndSub k b) (hk:k≤1000):∀ x∈b,In64 x.1∧In64 x.2:=by
 obtain⟨S,_,h2,rfl⟩:=h
 intro x hx
 obtain⟨s,hs,rfl⟩:=List.mem_map.1 hx
 have:=h2 s hs
 exact⟨in64_of (by simp only;omega) (by simp only;omega),in64_of (by simp only;omega) (by simp only;omega)⟩
theorem lits_in {c:Int} {X:List (Int × Int)} (h:litsOk c X) (hc:c≤1000):∀ x∈X,In64 x.1∧In64 x.2:=by
 obtain⟨A,B,rfl,_,_,hA,hB⟩:=h
 intro x hx
 rcases List.mem_append.1 hx with hx | hx
 ·rcases List.mem_append.1 hx with hx | hx
  ·rcases List.mem_append.1 hx with hx | hx
   ·obtain⟨e,h⟩:=hA x hx
    exact⟨in64_of (by omega) (by omega),in64_of (by omega) (by omega)⟩
   ·obtain⟨s,hs,rfl⟩:=List.mem_map.1 hx
    have:=List.mem_range.1 hs
    exact⟨in64_of (by simp only;omega) (by simp only;omega),in64_of (by simp only;omega) (by simp only;omega)⟩
  ·obtain⟨e,h0,h1⟩:=hB x hx
   exact⟨in64_of (by omega) (by omega),in64_of (by omega) (by omega)⟩
 ·simp only [List.mem_cons,List.not_mem_nil,or_false] at hx
  rcases hx with rfl | rfl <;> exact⟨in64_of (by simp only;omega) (by simp only;omega),in64_of (by simp only;omega) (by simp only;omega)⟩
theorem val_in {N:Nat} {v:Int × Int} (h:valOk N v) (hN:N≤1000):In64 v.1∧In64 v.2:=by
 rcases h with rfl | rfl | rfl | ⟨e,h0,h1⟩ | ⟨e,h0,h1⟩
 ·exact⟨in64_of (by simp only;omega) (by simp only;omega),in64_of (by simp only;omega) (by simp only;omega)⟩
 ·exact⟨in64_of (by simp only;omega) (by simp only;omega),in64_of (by simp only;omega) (by simp only;omega)⟩
 ·exact⟨in64_of (by simp only;omega) (by simp only;omega),in64_of (by simp only;omega) (by simp only;omega)⟩
 ·exact⟨in64_of (by omega) (by omega),in64_of (by omega) (by omega)⟩
 ·exact⟨in64_of (by omega) (by omega),in64_of (by omega) (by omega)⟩
theorem cls_in {L:List ClassA} {k:Nat} {c:ClassA} (h:clsOk L k c) (hk:k≤1000):In64 c.super∧In64 c.fields:=by
 rcases (show k=0∨k=1∨2≤k by omega) with e | e | e
 ·obtain⟨_,a,b⟩:=h.z e
  rw [a,b]
  exact⟨in64_of (by omega) (by omega),in64_of (by omega) (by omega)⟩
 ·obtain⟨_,a,b⟩:=h.o e
  rw [a,b]
  exact⟨in64_of (by omega) (by omega),in64_of (by omega) (by omega)⟩
 ·obtain⟨a,b⟩:=h.fld e
  refine⟨?_,in64_of (by omega) (by omega)⟩
  rcases h.sup e with e1 | ⟨e1,e2,_⟩
  ·rw [e1];exact in64_of (by omega) (by omega)
  ·exact in64_of (by omega) (by omega)
theorem meth_in {c:Int} {j:Nat} {x:MethA} (h:methOk c j x):In64 x.args∧In64 x.temps:=by
 refine⟨?_,by rw [h.temps];exact in64_of (by omega) (by omega)⟩
 rw [h.args]
 split
 ·have:=argOf_le j;exact in64_of (by omega) (by omega)
 ·split <;> exact in64_of (by omega) (by omega)
theorem obj_in {L:List ClassA} {N j:Nat} {x:ObjA} (h:objOk L N j x) (hL:L.length≤1000):In64 x.cls:=by
 rcases h.cls with ⟨h2,d,hd,_⟩ | ⟨_,e,_⟩
 ·have:=(List.getElem?_eq_some_iff.1 hd).1
  exact in64_of (by omega) (by omega)
 ·rw [e];exact in64_of (by omega) (by omega)
abbrev set5 (w:World) (q:Nat) (v0 v1 v2 v3 v4:Value):World:=(set4 w q v0 v1 v2 v3).setCell ⟨q,4,none⟩ v4
theorem cell_far5 {w:World} {q i j:Nat} {v:Value} (hij:i≠j):(w.setCell ⟨q,i,none⟩ v).cell? ⟨q,j,none⟩=w.cell? ⟨q,j,none⟩:=World.cell?_setCell_other _ _ _ _ (by intro e;injection e with _ h2;omega)
theorem set4_five {w:World} {q:Nat} {v0 v1 v2 v3 u4:Value} (c4:w.cell? ⟨q,4,none⟩=some u4):(set4 w q v0 v1 v2 v3).cell? ⟨q,4,none⟩=some u4 :=
 (cell_far5 (by decide)).trans ((cell_far5 (by decide)).trans ((cell_far5 (by decide)).trans ((cell_far5 (by decide)).trans c4)))
theorem set1_at {w:World} {q:Nat} {v0 v1 v2 v3 v4 u4:Value} (a0:w.cell? ⟨q,0,none⟩=some v0) (a1:w.cell? ⟨q,1,none⟩=some v1) (a2:w.cell? ⟨q,2,none⟩=some v2) (a3:w.cell? ⟨q,3,none⟩=some v3) (a4:w.cell? ⟨q,4,none⟩=some u4):(w.setCell ⟨q,4,none⟩ v4).cell? ⟨q,0,none⟩=some v0∧(w.setCell ⟨q,4,none⟩ v4).cell? ⟨q,1,none⟩=some v1∧(w.setCell ⟨q,4,none⟩ v4).cell? ⟨q,2,none⟩=some v2∧(w.setCell ⟨q,4,none⟩ v4).cell? ⟨q,3,none⟩=some v3∧(w.setCell ⟨q,4,none⟩ v4).cell? ⟨q,4,none⟩=some v4 :=
 ⟨(cell_far5 (by decide)).trans a0,(cell_far5 (by decide)).trans a1,(cell_far5 (by decide)).trans a2,(cell_far5 (by decide)).trans a3,World.cell?_setCell_same _ _ _ a4⟩
theorem set5_at {w:World} {q:Nat} {v0 v1 v2 v3 v4 u0 u1 u2 u3 u4:Value} (c0:w.cell? ⟨q,0,none⟩=some u0) (c1:w.cell? ⟨q,1,none⟩=some u1) (c2:w.cell? ⟨q,2,none⟩=some u2) (c3:w.cell? ⟨q,3,none⟩=some u3) (c4:w.cell? ⟨q,4,none⟩=some u4):(set5 w q v0 v1 v2 v3 v4).cell? ⟨q,0,none⟩=some v0∧(set5 w q v0 v1 v2 v3 v4).cell? ⟨q,1,none⟩=some v1∧(set5 w q v0 v1 v2 v3 v4).cell? ⟨q,2,none⟩=some v2∧(set5 w q v0 v1 v2 v3 v4).cell? ⟨q,3,none⟩=some v3∧(set5 w q v0 v1 v2 v3 v4).cell? ⟨q,4,none⟩=some v4:=by
 obtain⟨a0,a1,a2,a3⟩:=set4_at (v0:=v0) (v1:=v1) (v2:=v2) (v3:=v3) c0 c1 c2 c3
 exact set1_at a0 a1 a2 a3 (set4_five c4)
theorem set5_cg (w:World) (q:Nat) (v0 v1 v2 v3 v4:Value):Cg (fun k=>k=q) w (set5 w q v0 v1 v2 v3 v4) :=
 (((((Cg.refl (fun k=>k=q) w).set ⟨q,0,none⟩ rfl v0).set ⟨q,1,none⟩ rfl v1).set ⟨q,2,none⟩ rfl v2).set ⟨q,3,none⟩ rfl v3).set ⟨q,4,none⟩ rfl v4
def UnF (s:Nat) (w:World) (nv cv mv ov:Value) (U:UnitA):Prop:=∃ M:List (MethA × Value × Value),M.map (·.1)=U.methods∧∀ (G:Nat→Prop) (w2:World),Cg G w w2→(∀ k,G k→k < s)→UnV w2 nv cv mv ov U∧∃ g cap,mv=.slice (some ⟨g,0,none⟩) U.methods.length cap∧∀ (k:Nat) x,M[k]?=some x→w2.cell? ⟨g,k*4,none⟩=some (.int .i64 x.1.args)∧w2.cell? ⟨g,k*4+1,none⟩=some (.int .i64 x.1.temps)∧w2.cell? ⟨g,k*4+2,none⟩=some x.2.1∧w2.cell? ⟨g,k*4+3,none⟩=some x.2.2∧In64 x.1.args∧In64 x.1.temps∧PrV w2 x.2.1 x.1.lits∧ByV w2 x.2.2 x.1.code
theorem mt_own {w:World} {base:Nat} {e:TypeId} {v:Value} {T:List (MethA × Value × Value)} (h:w.ownsRow base e 4 v T.length (mt4s T)) (h0:0 < T.length):∃ g cap,v=.slice (some ⟨g,0,none⟩) T.length cap∧∀ (k:Nat) x,T[k]?=some x→w.cell? ⟨g,k*4,none⟩=some (.int .i64 x.1.args)∧w.cell? ⟨g,k*4+1,none⟩=some (.int .i64 x.1.temps)∧w.cell? ⟨g,k*4+2,none⟩=some x.2.1∧w.cell? ⟨g,k*4+3,none⟩=some x.2.2:=by
 rcases h.2 with ⟨rfl,hz⟩ | ⟨g,cap,cur,rfl,h1,h2,h3,h4,_⟩
 ·omega
 ·refine⟨g,cap,rfl,fun k x hx=>?_⟩
  have hk:=(List.getElem?_eq_some_iff.1 hx).1
  obtain⟨c0,c1,c2,c3⟩:=mt4s_get T k x hx
  exact⟨(h.cellAt (k*4) (by omega)).trans c0,(h.cellAt (k*4+1) (by omega)).trans c1,(h.cellAt (k*4+2) (by omega)).trans c2,(h.cellAt (k*4+3) (by omega)).trans c3⟩
theorem P4.done {w wB wr:World} {p n B Bn g cp m H H3 H4 N:Nat} {ad:Option Addr} {mv ov:Value} {T:List (ClassA × Value)} {M:List (MethA × Value × Value)} {O:List (ObjA × Value)} (h:P4 w wB wr p n ad B (.slice (some ⟨Bn,0,none⟩) 6 6) g cp m T H mv M H3 H4 N ov N O) (hm:3≤m∧m≤5) (hN1:1≤N) (hN5:N≤5) (e1:wB.heap[Bn]?=some (.cells (strs nameL).toArray 9 (0,0))) (hb:w.heap.size+1=Bn) (hB:Bn+1=B) {w9:World} (hc:Cg (fun k=>k=w.heap.size) wr w9):∃ U,UnV w9 (.slice (some ⟨Bn,0,none⟩) 6 6) (.slice (some ⟨g,0,none⟩) m cp) mv ov U∧TapeU U∧Tp w9 p ad n∧Cg (fun k=>k=p) w w9∧UnF (w.heap.size+1) w9 (.slice (some ⟨Bn,0,none⟩) 6 6) (.slice (some ⟨g,0,none⟩) m cp) mv ov U:=by
 have hks:=h.un.ks.other hc (fun k hk=>by omega)
 have hpB:=h.un.ks.p0
 have hrow:∀ {b sz len:Nat} {e:TypeId} {v:Value} {xs:List Value},wr.ownsRow b e sz v len xs→w.heap.size < b→w9.ownsRow b e sz v len xs:=fun ho hlt=>row_cg ho hc (fun k hk hf=>by have:=(ho.lt k hk).1;omega)
 have hBH:=h.fin.BH
 have hHH:=h.fin.HH
 have hHB:=h.HB
 have hlT:=h.fin.len
 have hlM:=h.fin.mr.len
 have hlO:=h.len
 have hnm:w9.heap[Bn]?=some (.cells (strs nameL).toArray 9 (0,0)):=by
  have hsz:=h.un.cg.size
  have hbs:=h.un.bs
  exact (hc.block Bn (by omega) (by omega)).trans ((h.un.cg.block Bn (by omega) (by omega)).trans e1)
 have hnm2:∀ (G:Nat→Prop) (w2:World),Cg G w9 w2→(∀ k,G k→k < w.heap.size+1)→UnV w2 (.slice (some ⟨Bn,0,none⟩) 6 6) (.slice (some ⟨g,0,none⟩) m cp) mv ov ⟨nameL,T.map (·.1),M.map (·.1),O.map (·.1),6⟩:=by
  intro G w2 hG hlt2
  have hrow2:∀ {b sz len:Nat} {e:TypeId} {v:Value} {xs:List Value},wr.ownsRow b e sz v len xs→w.heap.size < b→w2.ownsRow b e sz v len xs:=fun ho hlt=>row_cg (hrow ho hlt) hG (fun k hk hf=>by have:=(ho.lt k hk).1;have:=hlt2 k hf;omega)
  have hB9:=(Array.getElem?_eq_some_iff.1 hnm).1
  have hnmw:w2.heap[Bn]?=some (.cells (strs nameL).toArray 9 (0,0)):=(hG.block Bn hB9 (fun hf=>by have:=hlt2 _ hf;omega)).trans hnm
  refine⟨NmV.own hnmw (by decide),?_,?_,?_⟩
  ·have hr:=hrow2 h.fin.row (by omega)
   rw [hlT] at hr ⊢
   refine ClV.own hr (fun x hx=>?_)
   obtain⟨k,hk⟩:=List.getElem?_of_mem hx
   have hkl:=(List.getElem?_eq_some_iff.1 hk).1
   obtain⟨i1,i2⟩:=cls_in (h.fin.ok k x hk) (by omega)
   exact⟨i1,i2,PrV.own (hrow2 (h.fin.bnd k x hk) (by omega)) (bnd_in (h.fin.don k x hk).2 (by omega))⟩
  ·have hr:=hrow2 h.fin.mr.row (by omega)
   rw [hlM] at hr
   refine MtV.own hr (fun x hx=>?_)
   obtain⟨k,hk⟩:=List.getElem?_of_mem hx
   have ho:=h.fin.mr.ok k x hk
   obtain⟨i1,i2⟩:=meth_in ho
   have hs:=h.fin.mr.sub x hx
   obtain⟨I,hI,eI⟩:=ho.code
   exact⟨i1,i2,PrV.own (hrow2 hs.l (by omega)) (lits_in ho.lits (by omega)),ByV.own (hrow2 hs.c (by omega)) (by rw [eI];exact flat_by (codeOk_by hI))⟩
  ·have hr:=hrow2 h.row (by omega)
   rw [hlO] at hr
   refine ObV.own hr (fun x hx=>?_)
   obtain⟨k,hk⟩:=List.getElem?_of_mem hx
   have ho:=h.ok k x hk
   exact⟨obj_in ho (by simp;omega),PrV.own (hrow2 (h.sub x hx) (by omega)) (fun v hv=>val_in (ho.flds v hv) (by omega))⟩
 refine⟨_,hnm2 (fun _=>False) w9 (Cg.refl _ _) (fun _ e=>e.elim),⟨rfl,by simp;omega,by simp;omega,?_,by simp;omega,?_,by simp;omega,by simp;omega,?_,rfl⟩,hks.tp,hks.cg,M,rfl,fun G w2 hG hlt2=>⟨hnm2 G w2 hG hlt2,?_⟩⟩
 ·intro k c hc'
  obtain⟨x,hx,rfl⟩:∃ x,T[k]?=some x∧x.1=c:=by simpa using hc'
  obtain⟨a,b⟩:=h.fin.don k x hx
  exact⟨h.fin.ok k x hx,a,b⟩
 ·intro k c hc'
  obtain⟨x,hx,rfl⟩:∃ x,M[k]?=some x∧x.1=c:=by simpa using hc'
  have:=h.fin.mr.ok k x hx
  rw [hlT] at this
  simpa using this
 ·intro k c hc'
  obtain⟨x,hx,rfl⟩:∃ x,O[k]?=some x∧x.1=c:=by simpa using hc'
  have:=h.ok k x hx
  simpa [← hlO] using this
 ·have hrow2:∀ {b sz len:Nat} {e:TypeId} {v:Value} {xs:List Value},wr.ownsRow b e sz v len xs→w.heap.size < b→w2.ownsRow b e sz v len xs:=fun ho hlt=>row_cg (hrow ho hlt) hG (fun k hk hf=>by have:=(ho.lt k hk).1;have:=hlt2 k hf;omega)
  have hr:=hrow2 h.fin.mr.row (by omega)
  rw [hlM] at hr
  obtain⟨g',cap',e',hcl⟩:=mt_own hr (by omega)
  refine⟨g',cap',by rw [e'];simp,fun k x hx=>?_⟩
  obtain⟨c0,c1,c2,c3⟩:=hcl k x hx
  have ho:=h.fin.mr.ok k x hx
  obtain⟨i1,i2⟩:=meth_in ho
  have hs:=h.fin.mr.sub x (List.mem_of_getElem? hx)
  obtain⟨I,hI,eI⟩:=ho.code
  exact⟨c0,c1,c2,c3,i1,i2,PrV.own (hrow2 hs.l (by omega)) (lits_in ho.lits (by omega)),ByV.own (hrow2 hs.c (by omega)) (by rw [eI];exact flat_by (codeOk_by hI))⟩
end Wd
end Go.Proofs.YteiejjmhmmkdhaaGreat
