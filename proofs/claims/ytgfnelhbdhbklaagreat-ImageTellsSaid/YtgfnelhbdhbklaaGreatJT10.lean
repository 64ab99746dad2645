/- Texts joined: ILX, IRK, ILA, ILB, ILC, VA, LB. -/
import Derived.Test.YtgfnelhbdhbklaaGreatJT1
import Derived.Test.YtgfnelhbdhbklaaGreatJT4
import Derived.Test.YtgfnelhbdhbklaaGreatJT5
import Derived.Test.YtgfnelhbdhbklaaGreatJT8
import Derived.Test.YtgfnelhbdhbklaaGreatJT9
import Derived.Lib.BytesEntry
import Derived.Lib.IndexLaws
namespace Go.Proofs.YtgfnelhbdhbklaaGreat
open Go.RowKit
set_option linter.unusedVariables false
set_option maxRecDepth 20000
namespace Wd
abbrev z5U:Array Value:=#[.slice none 0 0,.slice none 0 0,.slice none 0 0,.slice none 0 0,.int .i64 0]
structure EB (w y W:World) (p:Nat) (v:Value) (s:Rd8) (C2:Array Value):Prop where
 r:RI w W p v s
 plt:p < y.heap.size
 cg:Cg (fun k=>k=p) y W
 b2:W.heap[y.heap.size]?=some (.cells C2 27 (0,0))
structure EU (w y W:World) (p:Nat) (v:Value) (s:Rd8) (E:Nat) (C2 C3:Array Value):Prop where
 b:EB w y W p v s C2
 elt:y.heap.size < E
 b3:W.heap[E]?=some (.cells C3 27 (0,0))
section
variable {w y W W1:World} {p E:Nat} {v v1:Value} {s s1:Rd8} {C2 C3:Array Value}
theorem EB.lt (h:EB w y W p v s C2):y.heap.size < W.heap.size:=(Array.getElem?_eq_some_iff.1 h.b2).1
theorem EB.born (h:RI w y p v s):EB w y (y.alloc (.cells C2 27)) p v s C2 :=
 ⟨h.up ((Below.refl y.heap.size y).alloc (Nat.le_refl _) _),h.lt,(Cg.refl _ y).alloc _,heap_alloc_new _ _⟩
theorem EB.call (h:EB w y W p v s C2) (r:RI w W1 p v1 s1) (c:Cg (fun k=>k=p) W W1):EB w y W1 p v1 s1 C2:=by
 have:=h.plt;exact⟨r,h.plt,h.cg.trans c,(c.block _ h.lt (by omega)).trans h.b2⟩
theorem EU.born (h:EB w y W p v s C2):EU w y (W.alloc (.cells C3 27)) p v s W.heap.size C2 C3:=by
 have b:=(Below.refl W.heap.size W).alloc (Nat.le_refl _) (.cells C3 27);exact⟨⟨h.r.up b,h.plt,h.cg.alloc _,(b.block _ h.lt).trans h.b2⟩,h.lt,heap_alloc_new _ _⟩
theorem EU.lt (h:EU w y W p v s E C2 C3):E < W.heap.size:=(Array.getElem?_eq_some_iff.1 h.b3).1
theorem EU.call (h:EU w y W p v s E C2 C3) (r:RI w W1 p v1 s1) (c:Cg (fun k=>k=p) W W1):EU w y W1 p v1 s1 E C2 C3:=by
 have:=h.b.plt;have:=h.elt;exact⟨h.b.call r c,h.elt,(c.block _ h.lt (by omega)).trans h.b3⟩
theorem EU.set3 (h:EU w y W p v s E C2 C3) (o:Nat) (x:Value):EU w y (W.setCell ⟨E,o,none⟩ x) p v s E C2 (C3.setIfInBounds o x):=by
 have c:=(Cg.refl (fun k=>k=E) W).set ⟨E,o,none⟩ rfl x;have hp:=h.b.plt;have he:=h.elt;have hlo:=h.b.r.lo;exact⟨⟨h.b.r.cg c (fun k e=>⟨by omega,by omega⟩),h.b.plt,h.b.cg.trans' c (fun k e=>Or.inr (by omega)),(bx_far (by omega) x).trans h.b.b2⟩,h.elt,bx_set h.b3 x⟩
theorem EU.set2 (h:EU w y W p v s E C2 C3) (o:Nat) (x:Value):EU w y (W.setCell ⟨y.heap.size,o,none⟩ x) p v s E (C2.setIfInBounds o x) C3:=by
 have c:=(Cg.refl (fun k=>k=y.heap.size) W).set ⟨y.heap.size,o,none⟩ rfl x;have hp:=h.b.plt;have he:=h.elt;have hlo:=h.b.r.lo;exact⟨⟨h.b.r.cg c (fun k e=>⟨by omega,by omega⟩),h.b.plt,h.b.cg.trans' c (fun k e=>Or.inr (by omega)),bx_set h.b.b2 x⟩,h.elt,(bx_far (by omega) x).trans h.b3⟩
theorem EU.e2 (h:EU w y W p v s E C2 C3) {o:Nat} {x:Value} (hx:C2[o]?=some x):W.cell? ⟨y.heap.size,o,none⟩=some x:=cells_at h.b.b2 hx
theorem EU.e3 (h:EU w y W p v s E C2 C3) {o:Nat} {x:Value} (hx:C3[o]?=some x):W.cell? ⟨E,o,none⟩=some x:=cells_at h.b3 hx
theorem EU.z2 (h:EU w y W p v s E C2 C3) (o:Nat):W.frozen? ⟨y.heap.size,o,none⟩=false:=loose_at h.b.b2 o
theorem EU.z3 (h:EU w y W p v s E C2 C3) (o:Nat):W.frozen? ⟨E,o,none⟩=false:=loose_at h.b3 o
end
theorem thereU5 {W:World} {E:Nat} {a b c d e:Value} {T:TypeId} (h:W.heap[E]?=some (.cells #[a,b,c,d,e] T (0,0))):W.there E 0 5:=by
 intro j hj;have z:=loose_at h j;rcases (show j=0∨j=1∨j=2∨j=3∨j=4 by omega) with rfl | rfl | rfl | rfl | rfl
 ·exact⟨by (have:=cells_at (o:=0) h rfl;first | exact⟨_,this⟩ | (rw[Nat.zero_add,this];rfl)),by first | exact z | simpa using z⟩
 ·exact⟨by (have:=cells_at (o:=1) h rfl;first | exact⟨_,this⟩ | (rw[Nat.zero_add,this];rfl)),by first | exact z | simpa using z⟩
 ·exact⟨by (have:=cells_at (o:=2) h rfl;first | exact⟨_,this⟩ | (rw[Nat.zero_add,this];rfl)),by first | exact z | simpa using z⟩
 ·exact⟨by (have:=cells_at (o:=3) h rfl;first | exact⟨_,this⟩ | (rw[Nat.zero_add,this];rfl)),by first | exact z | simpa using z⟩
 ·exact⟨by (have:=cells_at (o:=4) h rfl;first | exact⟨_,this⟩ | (rw[Nat.zero_add,this];rfl)),by first | exact z | simpa using z⟩
theorem rangeU5 {W:World} {E:Nat} {a b c d e:Value} {T:TypeId} (h:W.heap[E]?=some (.cells #[a,b,c,d,e] T (0,0))):W.rangeAt E 0 [a,b,c,d,e] :=
 orange5 (cells_at h rfl) (cells_at h rfl) (cells_at h rfl) (cells_at h rfl) (cells_at h rfl)
theorem lies4 {b b':Nat} {J1 J2 J3 J4:Nat→Prop} {W:World} {P1 P2 P3 P4:World→Prop} (h1:Lies b J1 W P1) (h2:Lies b J2 W P2) (h3:Lies b J3 W P3) (h4:Lies b J4 W P4) (hb:b'≤b):Lies b' (fun k=>J1 k∨J2 k∨J3 k∨J4 k) W (fun w=>P1 w∧P2 w∧P3 w∧P4 w):=by
 refine⟨fun w2 c=>⟨h1.1 w2 (c.mono (fun k hk e=>hk (Or.inl e))),h2.1 w2 (c.mono (fun k hk e=>hk (Or.inr (Or.inl e)))),h3.1 w2 (c.mono (fun k hk e=>hk (Or.inr (Or.inr (Or.inl e))))),h4.1 w2 (c.mono (fun k hk e=>hk (Or.inr (Or.inr (Or.inr e)))))⟩,fun k hk=>?_⟩;rcases hk with hk | hk | hk | hk
 ·have:=h1.2 k hk;omega
 ·have:=h2.2 k hk;omega
 ·have:=h3.2 k hk;omega
 ·have:=h4.2 k hk;omega
theorem mark_list:(⟨#[84,87,49,0]⟩:ByteArray).toList=[84,87,49,0]:=by
 first | rfl | decide | simp
theorem text_mark {T:List Int} (h:Bd8 T):textOf T=⟨#[84,87,49,0]⟩↔T=[84,87,49,0]:=by
 constructor
 ·intro e;have h1:=tby_of h;rw[e] at h1;rw[← h1];rfl
 ·intro e;rw[e];rfl
theorem program_res {ts:Array Value} {w:World} {q:Nat} {v0 v1 v2 v3 v4:Value} (h8:ts.getD 2 undef=.pointer (some ⟨q,0,none⟩)) (r0:w.cell? ⟨q,0,none⟩=some v0) (r1:w.cell? ⟨q,1,none⟩=some v1) (r2:w.cell? ⟨q,2,none⟩=some v2) (r3:w.cell? ⟨q,3,none⟩=some v3) (r4:w.cell? ⟨q,4,none⟩=some v4) :
  (results Tryz.f40 ts).run Tryz.prog w=.ok (.agg #[v0,v1,v2,v3,v4]) w:=by
 have h8':ts[2]?.getD undef=.pointer (some ⟨q,0,none⟩):=by rw[← Array.getD_eq_getD_getElem?];exact h8
 simp[results,Tryz.results40,go_sem,h8',r0,r1,r2,r3,r4]
set_option maxHeartbeats 32000000 in
theorem program_c {w y:World} {p:Nat} {v:Value} {b:List Int} (h:RI w y p v (b,false)) (hs:b.length≤100000) :
  Calls Tryz.prog 40 #[.pointer (some ⟨p,0,none⟩)] y fun e y'=>(∃ u J,e=.returned u∧Lies y.heap.size J y' (fun w2=>UnK w2 u (unL (markL b)).1))∧(∃ v',RI w y' p v' (unL (markL b)).2)∧Cg (fun k=>k=p) y y':=by
 have hlM:=markL_le b;have hM:markL b=if (cutR 4 (b,false)).1=[84,87,49,0] then (cutR 4 (b,false)).2 else ((cutR 4 (b,false)).2.1,true):=rfl
 have hBT:=((cutR_all 4 (by omega) (b,false)).2.2.1 h.bd).2;have hB:=HD (EB.born (C2:=z5U) h);have P1:=HD (take_i hB.out.r 4 (by omega) (by omega));generalize cutR 4 (b,false)=r at hM hBT P1;obtain⟨T,s1⟩:=r;simp only at hM hBT P1;have hT:=text_mark hBT;generalize markL b=s0 at hlM hM ⊢;have hs0:s0.1.length≤100000:=by omega
 have hl1:=Nat.le_trans ((rowL_eat nmL_eat).le s0) hs0;have hl2:=Nat.le_trans ((rowL_eat clL_eat).le (rowL nmL s0).2) hl1;have hl3:=Nat.le_trans ((rowL_eat mtL_eat).le (rowL clL (rowL nmL s0).2).2) hl2;have hU:unL s0=(⟨(rowL nmL s0).1,(rowL clL (rowL nmL s0).2).1,(rowL mtL (rowL clL (rowL nmL s0).2).2).1,(rowL obL (rowL mtL (rowL clL (rowL nmL s0).2).2).2).1,(numL (rowL obL (rowL mtL (rowL clL (rowL nmL s0).2).2).2).2).1⟩,(numL (rowL obL (rowL mtL (rowL clL (rowL nmL s0).2).2).2).2).2):=rfl;rw[hU];clear hU hlM hs h hBT;generalize hQ1:rowL nmL s0=q1 at hl1 hl2 hl3;generalize hQ2:rowL clL q1.2=q2 at hl2 hl3;generalize hQ3:rowL mtL q2.2=q3 at hl3;generalize hQ4:rowL obL q3.2=q4;generalize hQ5:numL q4.2=q5;replace hQ1:=HD hQ1;replace hQ2:=HD hQ2;replace hQ3:=HD hQ3;replace hQ4:=HD hQ4;replace hQ5:=HD hQ5;replace hM:=HD hM;have hmf:∀ (fn:Fn) (first cap:Array Value) (w:World),(Instr.makeFunc fn first cap).run Tryz.prog w=.ok (.func fn first cap) w:=fun _ _ _ _=>rfl;go_enter Tryz.func40,Tryz.ntmps40
 go_wp2_with fail
 with_reducible refine P1.out.mono ?_
 rintro e1 y0 ⟨⟨t0,rfl,hf,ht⟩,⟨v0,hR⟩,hc⟩;have PT:=by_text (ht.up hR.bel);replace hB:=HD (hB.out.call hR hc);clear P1 hR hc hf ht
 go_upto_if 7 with fail
 go_cut [] (fun wx=>∃ v',Hid (EB w y wx p v' s0 z5U))
 case first =>
  by_cases q:T=[84,87,49,0]
  ·have e1:((textOf T).toList == [84,87,49,0])=true:=by rw[← mark_list];exact bl_eq (hT.2 q)
   have hf:=hB.out;have e3:=hM.out;rw[if_pos q] at e3;rw[← e3] at hf;replace hf:=HD hf;clear q hT e3;simp only[e1,Bool.not_true]
   go_wp2
   go_meet
   case rel=>exact⟨_,hf⟩
  ·have e1:((textOf T).toList == [84,87,49,0])=false:=by rw[← mark_list];exact bl_ne (fun e=>q (hT.1 e))
   have e3:=hM.out;rw[if_neg q] at e3;have c1:=hB.out.r.c1;have z1:=hB.out.r.z 1;have hs1:=hB.out.r.set1 true;have hf:=hB.out.call hs1.1 hs1.2;rw[← e3] at hf;replace hf:=HD hf;clear q hT e3 hs1;simp only[e1,Bool.not_false]
   go_wp2
   go_meet
   case rel=>exact⟨_,hf⟩
 case rest =>
 obtain⟨v0',hB⟩:=hcut;have hE:=HD (EU.born (C3:=z5U) hB.out);have hwc:=hB.out.lt;have hpy:=hB.out.plt;clear PT hT hM
 go_upto_region 4 with fail
 generalize hEE:wc.heap.size=E at *;generalize wc.alloc (.cells #[.slice none 0 0,.slice none 0 0,.slice none 0 0,.slice none 0 0,.int .i64 0] 27)=W0 at *;have hyE:=hE.out.b.lt;have hlE:=hE.out.lt;have P1:=grows_c hE.out.b.r (by omega);rw[hQ1.out] at P1;replace P1:=HD P1
 go_wp2_with fail
 with_reducible refine P1.out.mono ?_
 rintro e1 y1 ⟨⟨bv,A,I,rfl,hG,hA⟩,⟨v1,hR⟩,hc⟩;have hL1:=lies_gr hG hG.nmv;rw[hA] at hL1;obtain⟨a1,m1,c1,rfl⟩:∃ a m c,bv=.slice a m c:=by
  rcases hG.own.2 with ⟨e,_⟩ | ⟨g,cap,cur,e,_⟩
  ·exact⟨_,_,_,e⟩
  ·exact⟨_,_,_,e⟩
 replace hL1:=HD (hL1.imp (b':=E+1) (by omega) (fun w2 hp=>hp));replace hE:=HD (hE.out.call hR hc);clear P1 hR hc hG hA hyE hlE;have d0:=hE.out.e3 (o:=0) rfl;have z0:=hE.out.z3 0
 go_upto_region 5 with fail
 replace hE:=HD (hE.out.set3 0 (.slice a1 m1 c1));replace hL1:=HD (hL1.out.set (E:=E) (o:=0) (by omega) (.slice a1 m1 c1));generalize y1.setCell ⟨E,0,none⟩ (.slice a1 m1 c1)=W1 at *;clear d0 z0;have hyE:=hE.out.b.lt;have hlE:=hE.out.lt;have P1:=growc_c hE.out.b.r (by omega);rw[hQ2.out] at P1;replace P1:=HD P1
 go_wp2_with fail
 with_reducible refine P1.out.mono ?_
 rintro e1 y2 ⟨⟨bv,A,I,rfl,hG,hA⟩,⟨v2,hR⟩,hc⟩;have hL2:=lies_gr hG hG.clv;rw[hA] at hL2;obtain⟨a2,m2,c2,rfl⟩:∃ a m c,bv=.slice a m c:=by
  rcases hG.own.2 with ⟨e,_⟩ | ⟨g,cap,cur,e,_⟩
  ·exact⟨_,_,_,e⟩
  ·exact⟨_,_,_,e⟩
 replace hL2:=HD (hL2.imp (b':=E+1) (by omega) (fun w2 hp=>hp));replace hL1:=HD (hL1.out.cg hc (fun k e=>by omega));replace hE:=HD (hE.out.call hR hc);clear P1 hR hc hG hA hyE hlE;have d0:=hE.out.e3 (o:=1) rfl;have z0:=hE.out.z3 1
 go_upto_region 6 with fail
 replace hE:=HD (hE.out.set3 1 (.slice a2 m2 c2));replace hL1:=HD (hL1.out.set (E:=E) (o:=1) (by omega) (.slice a2 m2 c2));replace hL2:=HD (hL2.out.set (E:=E) (o:=1) (by omega) (.slice a2 m2 c2));generalize y2.setCell ⟨E,1,none⟩ (.slice a2 m2 c2)=W2 at *;clear d0 z0;have hyE:=hE.out.b.lt;have hlE:=hE.out.lt;have P1:=growm_c hE.out.b.r (by omega);rw[hQ3.out] at P1;replace P1:=HD P1
 go_wp2_with fail
 with_reducible refine P1.out.mono ?_
 rintro e1 y3 ⟨⟨bv,A,I,rfl,hG,hA⟩,⟨v3,hR⟩,hc⟩;have hL3:=lies_gr hG hG.mtv;rw[hA] at hL3;obtain⟨a3,m3,c3,rfl⟩:∃ a m c,bv=.slice a m c:=by
  rcases hG.own.2 with ⟨e,_⟩ | ⟨g,cap,cur,e,_⟩
  ·exact⟨_,_,_,e⟩
  ·exact⟨_,_,_,e⟩
 replace hL3:=HD (hL3.imp (b':=E+1) (by omega) (fun w2 hp=>hp));replace hL1:=HD (hL1.out.cg hc (fun k e=>by omega));replace hL2:=HD (hL2.out.cg hc (fun k e=>by omega));replace hE:=HD (hE.out.call hR hc);clear P1 hR hc hG hA hyE hlE;have d0:=hE.out.e3 (o:=2) rfl;have z0:=hE.out.z3 2
 go_upto_region 7 with fail
 replace hE:=HD (hE.out.set3 2 (.slice a3 m3 c3));replace hL1:=HD (hL1.out.set (E:=E) (o:=2) (by omega) (.slice a3 m3 c3));replace hL2:=HD (hL2.out.set (E:=E) (o:=2) (by omega) (.slice a3 m3 c3));replace hL3:=HD (hL3.out.set (E:=E) (o:=2) (by omega) (.slice a3 m3 c3));generalize y3.setCell ⟨E,2,none⟩ (.slice a3 m3 c3)=W3 at *;clear d0 z0;have hyE:=hE.out.b.lt;have hlE:=hE.out.lt;have P1:=growo_c hE.out.b.r (by omega);rw[hQ4.out] at P1;replace P1:=HD P1
 go_wp2_with fail
 with_reducible refine P1.out.mono ?_
 rintro e1 y4 ⟨⟨bv,A,I,rfl,hG,hA⟩,⟨v4,hR⟩,hc⟩;have hL4:=lies_gr hG hG.obv;rw[hA] at hL4;obtain⟨a4,m4,c4,rfl⟩:∃ a m c,bv=.slice a m c:=by
  rcases hG.own.2 with ⟨e,_⟩ | ⟨g,cap,cur,e,_⟩
  ·exact⟨_,_,_,e⟩
  ·exact⟨_,_,_,e⟩
 replace hL4:=HD (hL4.imp (b':=E+1) (by omega) (fun w2 hp=>hp));replace hL1:=HD (hL1.out.cg hc (fun k e=>by omega));replace hL2:=HD (hL2.out.cg hc (fun k e=>by omega));replace hL3:=HD (hL3.out.cg hc (fun k e=>by omega));replace hE:=HD (hE.out.call hR hc);clear P1 hR hc hG hA hyE hlE;have d0:=hE.out.e3 (o:=3) rfl;have z0:=hE.out.z3 3
 go_upto_region 8 with fail
 replace hE:=HD (hE.out.set3 3 (.slice a4 m4 c4));replace hL1:=HD (hL1.out.set (E:=E) (o:=3) (by omega) (.slice a4 m4 c4));replace hL2:=HD (hL2.out.set (E:=E) (o:=3) (by omega) (.slice a4 m4 c4));replace hL3:=HD (hL3.out.set (E:=E) (o:=3) (by omega) (.slice a4 m4 c4));replace hL4:=HD (hL4.out.set (E:=E) (o:=3) (by omega) (.slice a4 m4 c4));generalize y4.setCell ⟨E,3,none⟩ (.slice a4 m4 c4)=W4 at *;clear d0 z0;have hyE:=hE.out.b.lt;have hlE:=hE.out.lt;have P1:=number_c hE.out.b.r;rw[hQ5.out] at P1;replace P1:=HD P1
 go_wp2_with fail
 with_reducible refine P1.out.mono ?_
 rintro e1 y5 ⟨rfl,⟨v5,hR⟩,hc⟩;replace hL1:=HD (hL1.out.cg hc (fun k e=>by omega));replace hL2:=HD (hL2.out.cg hc (fun k e=>by omega));replace hL3:=HD (hL3.out.cg hc (fun k e=>by omega));replace hL4:=HD (hL4.out.cg hc (fun k e=>by omega));replace hE:=HD (hE.out.call hR hc);clear P1 hR hc;have d0:=hE.out.e3 (o:=4) rfl;have z0:=hE.out.z3 4
 go_upto_region 9 with fail
 replace hE:=HD (hE.out.set3 4 (.int .i64 q5.1));replace hL1:=HD (hL1.out.set (E:=E) (o:=4) (by omega) (.int .i64 q5.1));replace hL2:=HD (hL2.out.set (E:=E) (o:=4) (by omega) (.int .i64 q5.1));replace hL3:=HD (hL3.out.set (E:=E) (o:=4) (by omega) (.int .i64 q5.1));replace hL4:=HD (hL4.out.set (E:=E) (o:=4) (by omega) (.int .i64 q5.1));generalize y5.setCell ⟨E,4,none⟩ (.int .i64 q5.1)=W5 at *;clear d0 z0 hyE hlE;have hyE:=hE.out.elt;have hlE:=hE.out.lt;have b2:W5.heap[y.heap.size]?=some (.cells z5U 27 (0,0)):=hE.out.b.b2;have b3:W5.heap[E]?=some (.cells #[.slice a1 m1 c1,.slice a2 m2 c2,.slice a3 m3 c3,.slice a4 m4 c4,.int .i64 q5.1] 27 (0,0)):=hE.out.b3;obtain⟨dU,hdU,hrU⟩:=orowU;refine wp_region_lit ?_;refine wpList_load_mid rfl 27 (.tmp 3) rfl E 0 rfl _ dU (rangeU5 b3) hdU hrU infoU5 ?_
 try simp only[nA]
 refine wpList_store_mid rfl 27 (.tmp 2) (.tmp 34) rfl y.heap.size 0 #[.slice a1 m1 c1,.slice a2 m2 c2,.slice a3 m3 c3,.slice a4 m4 c4,.int .i64 q5.1] (by simp[Act.eval]) (by simp[Act.eval]) (thereU5 b2) infoU5 (all_oneCell_toArray (cs:=[.slice a1 m1 c1,.slice a2 m2 c2,.slice a3 m3 c3,.slice a4 m4 c4,.int .i64 q5.1]) (fun v hv=>by simp only[List.mem_cons,List.not_mem_nil,or_false] at hv;rcases hv with rfl | rfl | rfl | rfl | rfl <;> rfl)) ?_;refine wpList_nil ?_;have hW9:W5.setCells y.heap.size 0 [.slice a1 m1 c1,.slice a2 m2 c2,.slice a3 m3 c3,.slice a4 m4 c4,.int .i64 q5.1]=(((((W5.setCell ⟨y.heap.size,0,none⟩ (.slice a1 m1 c1)).setCell ⟨y.heap.size,1,none⟩ (.slice a2 m2 c2)).setCell ⟨y.heap.size,2,none⟩ (.slice a3 m3 c3)).setCell ⟨y.heap.size,3,none⟩ (.slice a4 m4 c4)).setCell ⟨y.heap.size,4,none⟩ (.int .i64 q5.1)):=rfl;simp only[hW9];clear hW9;have hE9:=HD (((((hE.out.set2 0 (.slice a1 m1 c1)).set2 1 (.slice a2 m2 c2)).set2 2 (.slice a3 m3 c3)).set2 3 (.slice a4 m4 c4)).set2 4 (.int .i64 q5.1));have hM1:=HD (((((hL1.out.set (E:=y.heap.size) (o:=0) (by omega) (.slice a1 m1 c1)).set (E:=y.heap.size) (o:=1) (by omega) (.slice a2 m2 c2)).set (E:=y.heap.size) (o:=2) (by omega) (.slice a3 m3 c3)).set (E:=y.heap.size) (o:=3) (by omega) (.slice a4 m4 c4)).set (E:=y.heap.size) (o:=4) (by omega) (.int .i64 q5.1));have hM2:=HD (((((hL2.out.set (E:=y.heap.size) (o:=0) (by omega) (.slice a1 m1 c1)).set (E:=y.heap.size) (o:=1) (by omega) (.slice a2 m2 c2)).set (E:=y.heap.size) (o:=2) (by omega) (.slice a3 m3 c3)).set (E:=y.heap.size) (o:=3) (by omega) (.slice a4 m4 c4)).set (E:=y.heap.size) (o:=4) (by omega) (.int .i64 q5.1));have hM3:=HD (((((hL3.out.set (E:=y.heap.size) (o:=0) (by omega) (.slice a1 m1 c1)).set (E:=y.heap.size) (o:=1) (by omega) (.slice a2 m2 c2)).set (E:=y.heap.size) (o:=2) (by omega) (.slice a3 m3 c3)).set (E:=y.heap.size) (o:=3) (by omega) (.slice a4 m4 c4)).set (E:=y.heap.size) (o:=4) (by omega) (.int .i64 q5.1));have hM4:=HD (((((hL4.out.set (E:=y.heap.size) (o:=0) (by omega) (.slice a1 m1 c1)).set (E:=y.heap.size) (o:=1) (by omega) (.slice a2 m2 c2)).set (E:=y.heap.size) (o:=2) (by omega) (.slice a3 m3 c3)).set (E:=y.heap.size) (o:=3) (by omega) (.slice a4 m4 c4)).set (E:=y.heap.size) (o:=4) (by omega) (.int .i64 q5.1));generalize (((((W5.setCell ⟨y.heap.size,0,none⟩ (.slice a1 m1 c1)).setCell ⟨y.heap.size,1,none⟩ (.slice a2 m2 c2)).setCell ⟨y.heap.size,2,none⟩ (.slice a3 m3 c3)).setCell ⟨y.heap.size,3,none⟩ (.slice a4 m4 c4)).setCell ⟨y.heap.size,4,none⟩ (.int .i64 q5.1))=W9 at *;clear hE hL1 hL2 hL3 hL4 b2 b3;have d0:W9.cell? ⟨y.heap.size,0,none⟩=some (.slice a1 m1 c1):=hE9.out.e2 (o:=0) rfl;have d1:W9.cell? ⟨y.heap.size,1,none⟩=some (.slice a2 m2 c2):=hE9.out.e2 (o:=1) rfl;have d2:W9.cell? ⟨y.heap.size,2,none⟩=some (.slice a3 m3 c3):=hE9.out.e2 (o:=2) rfl;have d3:W9.cell? ⟨y.heap.size,3,none⟩=some (.slice a4 m4 c4):=hE9.out.e2 (o:=3) rfl;have d4:W9.cell? ⟨y.heap.size,4,none⟩=some (.int .i64 q5.1):=hE9.out.e2 (o:=4) rfl
 rename (∀ (a:Act) (w:World),Code.wp _ _ _ a w→_)=>hKr
 refine hKr _ _ ?_;refine wp_ret ?_;refine bodyPost_ret (program_res rfl d0 d1 d2 d3 d4) rfl ?_;exact⟨⟨_,_,rfl,(lies4 hM1.out hM2.out hM3.out hM4.out (by omega)).imp (Nat.le_refl _) (fun w2 hp=>UnV.unk (U:=⟨q1.1,q2.1,q3.1,q4.1,q5.1⟩) ⟨hp.1,hp.2.1,hp.2.2.1,hp.2.2.2⟩)⟩,⟨_,hE9.out.b.r⟩,hE9.out.b.cg⟩
theorem RS.bd {w y:World} {p:Nat} {v:Value} {s:Rd8} (h:RS w y p v s):Bd8 s.1:=fun x hx=>by
 obtain⟨k,hk⟩:=List.getElem?_of_mem hx;obtain⟨ad,cap,e,h1,h2,h3⟩:=h.b.ex;exact (h3 k x hk).1
theorem numR_yes {s:Rd8} (h:¬ (s.2=true∨s.1.length < 4)):∃ a b c d L,s.1=a :: b :: c :: d :: L∧numR s=(num4 a b c d,(L,false)):=by
 obtain⟨L,f⟩:=s;obtain⟨h1,h2⟩:=not_or.1 h;simp only[Bool.not_eq_true] at h1;subst h1
 match L,h2 with
 | [],h=>simp at h
 | [_],h=>simp at h
 | [_,_],h=>simp at h
 | [_,_,_],h=>simp at h
 | a :: b :: c :: d :: L,h=>exact⟨a,b,c,d,L,rfl,rfl⟩
theorem numR_all {s:Rd8}:(numR s).2.1.length≤s.1.length∧(Bd8 s.1→R32 (numR s).1∧Bd8 (numR s).2.1):=by
 by_cases h:s.2=true∨s.1.length < 4
 ·rw[numR_no h];exact⟨Nat.le_refl _,fun hb=>⟨⟨by omega,by omega⟩,hb⟩⟩
 ·obtain⟨a,b,c,d,L,e,e2⟩:=numR_yes h;rw[e2,e];exact⟨by simp;omega,fun hb=>⟨num4_R hb.head hb.tail.head hb.tail.tail.head hb.tail.tail.tail.head,hb.tail.tail.tail.tail⟩⟩
theorem cntR_bd {s:Rd8} (hb:Bd8 s.1):Bd8 (cntR s).2.1:=by
 unfold cntR;simp only
 split <;> exact (numR_all.2 hb).2
theorem nmR_all {s:Rd8}:(nmR s).2.1.length≤s.1.length∧(Bd8 s.1→Bd8 (nmR s).2.1):=by
 have h1:(nmR s).2.1=(cntR s).2.1.drop (cntR s).1.toNat:=rfl;rw[h1];exact⟨by rw[List.length_drop];have:=cntR_len s;omega,fun hb=>(cntR_bd hb).drop _⟩
theorem prR_all {s:Rd8}:(prR s).2.1.length≤s.1.length∧(Bd8 s.1→Qp (prR s).1 default∧Bd8 (prR s).2.1) :=
 ⟨Nat.le_trans numR_all.1 numR_all.1,fun hb=>⟨⟨(numR_all.2 hb).1.i64,(numR_all.2 (numR_all.2 hb).2).1.i64⟩,(numR_all.2 (numR_all.2 hb).2).2⟩⟩
theorem manyR_len {T:Type} {f:Rd8→T × Rd8} (h:∀ s,(f s).2.1.length≤s.1.length):∀ (n:Nat) (acc:List T) (s:Rd8),(manyR f n acc s).2.1.length≤s.1.length
 | 0,acc,s=>Nat.le_refl _
 | n+1,acc,s=>by
  rw[manyR];by_cases q:s.2=true
  ·rw[if_pos q];exact Nat.le_refl _
  ·rw[if_neg q];exact Nat.le_trans (manyR_len h n _ _) (h s)
theorem manyR_all {T:Type} {f:Rd8→T × Rd8} {Q:T→Prop} (h:∀ s,Bd8 s.1→Q (f s).1∧Bd8 (f s).2.1):∀ (n:Nat) (acc:List T) (s:Rd8),Bd8 s.1→(∀ x∈acc,Q x)→(∀ x∈(manyR f n acc s).1,Q x)∧Bd8 (manyR f n acc s).2.1
 | 0,acc,s,hb,ha=>⟨ha,hb⟩
 | n+1,acc,s,hb,ha=>by
  rw[manyR];by_cases q:s.2=true
  ·rw[if_pos q];exact⟨ha,hb⟩
  ·rw[if_neg q];refine manyR_all h n _ _ (h s hb).2 (fun x hx=>?_);rcases List.mem_append.1 hx with hx | hx
   ·exact ha x hx
   ·rw[List.mem_singleton.1 hx];exact (h s hb).1
theorem rowR_all {s:Rd8}:(rowR prR s).2.1.length≤s.1.length∧(Bd8 s.1→(∀ x∈(rowR prR s).1,Qp x default)∧Bd8 (rowR prR s).2.1) :=
 ⟨Nat.le_trans (manyR_len (fun s=>prR_all.1) _ _ _) (cntR_len s),fun hb=>manyR_all (Q:=fun x=>Qp x default) (fun s h=>prR_all.2 h) _ _ _ (cntR_bd hb) (fun x hx=>by cases hx)⟩
structure EZ (w y W:World) (p:Nat) (v:Value) (s:Rd8) (T2:TypeId) (E2:Nat) (C2:Array Value) (T:TypeId) (E:Nat) (C:Array Value):Prop where
 r:RS w W p v s
 cg:Cg (fun k=>k=p) y W
 b2:W.heap[E2]?=some (.cells C2 T2 (0,0))
 b3:W.heap[E]?=some (.cells C T (0,0))
 ne:p≠E2∧p≠E∧E2≠E
 fr:y.heap.size≤E2∧y.heap.size≤E∧w.heap.size≤y.heap.size
section
variable {w y W W1:World} {p E E2:Nat} {v v1:Value} {s s1:Rd8} {T T2:TypeId} {C2 C:Array Value}
theorem EZ.lt (h:EZ w y W p v s T2 E2 C2 T E C):E2 < W.heap.size∧E < W.heap.size∧p < W.heap.size:=⟨(Array.getElem?_eq_some_iff.1 h.b2).1,(Array.getElem?_eq_some_iff.1 h.b3).1,h.r.lt⟩
theorem EZ.call (h:EZ w y W p v s T2 E2 C2 T E C) (r:RS w W1 p v1 s1) (c:Cg (fun k=>k=p) W W1):EZ w y W1 p v1 s1 T2 E2 C2 T E C :=
 ⟨r,h.cg.trans c,(c.block _ h.lt.1 (fun e=>h.ne.1 e.symm)).trans h.b2,(c.block _ h.lt.2.1 (fun e=>h.ne.2.1 e.symm)).trans h.b3,h.ne,h.fr⟩
theorem EZ.app {G:Nat→Prop} (h:EZ w y W p v s T2 E2 C2 T E C) (c:Cg G W W1) (hG:∀ k,G k→k≠p∧k≠E2∧k≠E∧y.heap.size≤k):EZ w y W1 p v s T2 E2 C2 T E C:=by
 have hf:=h.fr;exact⟨h.r.cg c (fun k e=>⟨(hG k e).1,by have:=(hG k e).2.2.2;omega⟩),h.cg.trans' c (fun k e=>Or.inr (hG k e).2.2.2),(c.block _ h.lt.1 (fun e=>(hG _ e).2.1 rfl)).trans h.b2,(c.block _ h.lt.2.1 (fun e=>(hG _ e).2.2.1 rfl)).trans h.b3,h.ne,h.fr⟩
theorem EZ.up (h:EZ w y W p v s T2 E2 C2 T E C) (b:Below W.heap.size W W1):EZ w y W1 p v s T2 E2 C2 T E C:=h.app (G:=fun _=>False) (Cg.below _ b) (fun k e=>e.elim)
theorem EZ.set3 (h:EZ w y W p v s T2 E2 C2 T E C) (o:Nat) (x:Value):EZ w y (W.setCell ⟨E,o,none⟩ x) p v s T2 E2 C2 T E (C.setIfInBounds o x):=by
 have c:=(Cg.refl (fun k=>k=E) W).set ⟨E,o,none⟩ rfl x;have hf:=h.fr;have hn:=h.ne;exact⟨h.r.cg c (fun k e=>⟨by omega,by omega⟩),h.cg.trans' c (fun k e=>Or.inr (by omega)),(bx_far (by omega) x).trans h.b2,bx_set h.b3 x,h.ne,h.fr⟩
theorem EZ.set2 (h:EZ w y W p v s T2 E2 C2 T E C) (o:Nat) (x:Value):EZ w y (W.setCell ⟨E2,o,none⟩ x) p v s T2 E2 (C2.setIfInBounds o x) T E C:=by
 have c:=(Cg.refl (fun k=>k=E2) W).set ⟨E2,o,none⟩ rfl x;have hf:=h.fr;have hn:=h.ne;exact⟨h.r.cg c (fun k e=>⟨by omega,by omega⟩),h.cg.trans' c (fun k e=>Or.inr (by omega)),bx_set h.b2 x,(bx_far (by omega) x).trans h.b3,h.ne,h.fr⟩
theorem EZ.e2 (h:EZ w y W p v s T2 E2 C2 T E C) {o:Nat} {x:Value} (hx:C2[o]?=some x):W.cell? ⟨E2,o,none⟩=some x:=cells_at h.b2 hx
theorem EZ.e3 (h:EZ w y W p v s T2 E2 C2 T E C) {o:Nat} {x:Value} (hx:C[o]?=some x):W.cell? ⟨E,o,none⟩=some x:=cells_at h.b3 hx
theorem EZ.z2 (h:EZ w y W p v s T2 E2 C2 T E C) (o:Nat):W.frozen? ⟨E2,o,none⟩=false:=loose_at h.b2 o
theorem EZ.z3 (h:EZ w y W p v s T2 E2 C2 T E C) (o:Nat):W.frozen? ⟨E,o,none⟩=false:=loose_at h.b3 o
end
theorem rclass_res {ts:Array Value} {w:World} {q:Nat} {v0 v1 v2 v3:Value} (h8:ts.getD 2 undef=.pointer (some ⟨q,0,none⟩)) (r0:w.cell? ⟨q,0,none⟩=some v0) (r1:w.cell? ⟨q,1,none⟩=some v1) (r2:w.cell? ⟨q,2,none⟩=some v2) (r3:w.cell? ⟨q,3,none⟩=some v3) :
  (results Tryz.f55 ts).run Tryz.prog w=.ok (.agg #[v0,v1,v2,v3]) w:=by
 have h8':ts[2]?.getD undef=.pointer (some ⟨q,0,none⟩):=by rw[← Array.getD_eq_getD_getElem?];exact h8
 simp[results,Tryz.results55,go_sem,h8',r0,r1,r2,r3]
set_option maxHeartbeats 32000000 in
theorem rclass_c {w y:World} {p:Nat} {v:Value} {s:Rd8} (h:RS w y p v s) (hs:s.1.length≤100000) :
  Calls Tryz.prog 55 #[.pointer (some ⟨p,0,none⟩)] y fun e y'=>(∃ bv J,e=.returned (.agg #[.string (clR s).1.nm,.int .i64 (clR s).1.super,.int .i64 (clR s).1.fields,bv])∧Lies y.heap.size J y' (Qc ((clR s).1,bv))∧∃ a m c,bv=.slice a m c)∧(∃ v',RS w y' p v' (clR s).2)∧Cg (fun k=>k=p) y y':=by
 obtain⟨i0,hi0,hz0,hz1,hz2⟩:=info_parts infoBind;have hmx:400000≤maxLen:=by decide
 have hl:clR s=(⟨(nmR s).1,(numR (nmR s).2).1,(numR (numR (nmR s).2).2).1,(manyR prR (cntR (numR (numR (nmR s).2).2).2).1.toNat [] (cntR (numR (numR (nmR s).2).2).2).2).1⟩,(manyR prR (cntR (numR (numR (nmR s).2).2).2).1.toNat [] (cntR (numR (numR (nmR s).2).2).2).2).2):=rfl;rw[hl];clear hl;have hl3:(numR (numR (nmR s).2).2).2.1.length≤100000:=Nat.le_trans numR_all.1 (Nat.le_trans numR_all.1 (Nat.le_trans nmR_all.1 hs));have hcb:=cnt_bd (numR (numR (nmR s).2).2).2;have hcl:=Nat.le_trans (cntR_len (numR (numR (nmR s).2).2).2) hl3;have hpy:=h.lt;have hwy:=h.bel.size;have hr0:=h.up ((Below.refl y.heap.size y).alloc (Nat.le_refl _) (.cells #[.string ⟨#[]⟩,.int .i64 0,.int .i64 0,.slice none 0 0] 60));have hb0:(y.alloc (.cells #[.string ⟨#[]⟩,.int .i64 0,.int .i64 0,.slice none 0 0] 60)).heap[y.heap.size]?=some (.cells #[.string ⟨#[]⟩,.int .i64 0,.int .i64 0,.slice none 0 0] 60 (0,0)):=heap_alloc_new _ _;have hs0:(y.alloc (.cells #[.string ⟨#[]⟩,.int .i64 0,.int .i64 0,.slice none 0 0] 60)).heap.size=y.heap.size+1:=by simp
 have hc0:Cg (fun k=>k=p) y (y.alloc (.cells #[.string ⟨#[]⟩,.int .i64 0,.int .i64 0,.slice none 0 0] 60)):=(Cg.refl _ y).alloc _;have P1:=HD (rtext_c hr0);generalize nmR s=q1 at P1 hl3 hcb hcl ⊢;generalize hQ2:numR q1.2=q2 at hl3 hcb hcl;generalize hQ3:numR q2.2=q3 at hl3 hcb hcl;generalize hQ4:cntR q3.2=q4 at hcb hcl;generalize hQ5:manyR prR q4.1.toNat [] q4.2=q5;replace hQ2:=HD hQ2;replace hQ3:=HD hQ3;replace hQ4:=HD hQ4;obtain⟨n,hn⟩:∃ n:Nat,q4.1=n:=⟨q4.1.toNat,by omega⟩
 rw[hn] at hcb hQ5;rw[Int.toNat_natCast] at hQ5;have hn1:n≤100000:=by omega
 replace hQ5:=HD hQ5;replace hn:=HD hn;clear hs h hl3 hcb hcl hr0;go_enter Tryz.func55,Tryz.ntmps55
 go_wp2_with fail
 generalize y.alloc (.cells #[.string ⟨#[]⟩,.int .i64 0,.int .i64 0,.slice none 0 0] 60)=y0 at *
 with_reducible refine P1.out.mono ?_
 rintro e1 y1 ⟨rfl,⟨v1,hR⟩,hc⟩;have hsy:=hc.size;have hE:EZ w y (y1.alloc (.cells #[.string q1.1,.int .i64 0,.int .i64 0,.slice none 0 0] 60)) p v1 q1.2 60 y.heap.size #[.string ⟨#[]⟩,.int .i64 0,.int .i64 0,.slice none 0 0] 60 y1.heap.size #[.string q1.1,.int .i64 0,.int .i64 0,.slice none 0 0]:=by
  have bb:=(Below.refl y1.heap.size y1).alloc (Nat.le_refl _) (.cells #[.string q1.1,.int .i64 0,.int .i64 0,.slice none 0 0] 60);have:=hR.lt;exact⟨hR.up bb,(hc0.trans hc).alloc _,(bb.block _ (by omega)).trans ((hc.block _ (by omega) (by omega)).trans hb0),heap_alloc_new _ _,⟨by omega,by omega,by omega⟩,⟨by omega,by omega,by omega⟩⟩
 replace hE:=HD hE
 go_upto_region 2 with fail
 generalize hEE:y1.heap.size=E at *;generalize y1.alloc (.cells #[.string q1.1,.int .i64 0,.int .i64 0,.slice none 0 0] 60)=W1 at *;clear P1 hc hR hc0 hb0;replace hEE:=HD hEE;have P1:=num_c hE.out.r;have n2:=(numR_all.2 hE.out.r.bd).1.i64;rw[hQ2.out] at P1 n2;replace P1:=HD P1;replace n2:=HD n2
 go_wp2_with fail
 with_reducible refine P1.out.mono ?_
 rintro e1 y1 ⟨rfl,⟨v2,hR⟩,hc⟩;replace hE:=HD (hE.out.call hR hc);clear P1 hR hc;have c0:=hE.out.e3 (o:=1) rfl;have z0:=hE.out.z3 1
 go_upto_region 3 with fail
 replace hE:=HD (hE.out.set3 1 (.int .i64 q2.1));generalize y1.setCell ⟨E,1,none⟩ (.int .i64 q2.1)=W2 at *;clear c0 z0;have P1:=num_c hE.out.r;have n3:=(numR_all.2 hE.out.r.bd).1.i64;rw[hQ3.out] at P1 n3;replace P1:=HD P1;replace n3:=HD n3
 go_wp2_with fail
 with_reducible refine P1.out.mono ?_
 rintro e1 y1 ⟨rfl,⟨v3,hR⟩,hc⟩;replace hE:=HD (hE.out.call hR hc);clear P1 hR hc;have c0:=hE.out.e3 (o:=2) rfl;have z0:=hE.out.z3 2
 go_upto_region 4 with fail
 replace hE:=HD (hE.out.set3 2 (.int .i64 q3.1));generalize y1.setCell ⟨E,2,none⟩ (.int .i64 q3.1)=W3 at *;clear c0 z0;have P1:=count_c hE.out.r;rw[hQ4.out,hn.out] at P1;replace P1:=HD P1
 go_wp2_with fail
 with_reducible refine P1.out.mono ?_
 rintro e1 W4 ⟨rfl,⟨v4,hR⟩,hc⟩;replace hE:=HD (hE.out.call hR hc);clear P1 hR hc;have hL4:=hE.out.lt;have hfr:=hE.out.fr;obtain⟨B,hB⟩:∃ B,W4.heap.size=B:=⟨_,rfl⟩
 rw[hB] at hL4
 go_wp2
 have hG:Hid (GrB B W4 (fun _=>False) (.slice none 0 0) []):=HD (GrX.nil rfl)
 go_loopw [4] (fun i4 wr=>∃ (j:Nat) (A:List (Int × Int)) (s':Rd8) (v':Value) (I:Nat→Prop) (u:Value),A.length+j≤n∧i4=.int .i64 j∧Hid (manyR prR j A s'=q5)∧Hid (EZ w y wr p v' s' 60 y.heap.size #[.string ⟨#[]⟩,.int .i64 0,.int .i64 0,.slice none 0 0] 60 E #[.string q1.1,.int .i64 q2.1,.int .i64 q3.1,u])∧Hid (GrB B wr I u A)∧B≤wr.heap.size) (fun i4 _=>(intOf i4).toNat)
 case atStart=>exact⟨n,[],_,_,_,_,by simp,rfl,hQ5,hE,hG,by omega⟩
 case round =>
  clear hE hG hQ5;obtain⟨j,A,s',v',I,u,hj,rfl,hQ5,hE,hG,hBr⟩:=hrel;have c1:=hE.out.r.c1;obtain⟨M,b⟩:=s';simp only at c1;obtain⟨ua,um,uc,rfl⟩:∃ a m c,u=.slice a m c:=by
   rcases hG.out.own.2 with ⟨e,_⟩ | ⟨g,cap,cur,e,_⟩
   ·exact⟨_,_,_,e⟩
   ·exact⟨_,_,_,e⟩
  by_cases hend:j=0∨b=true
  ·have hq:Hid (q5=(A,(M,b))):=HD (by
    rw[← hQ5.out];rcases hend with rfl | rfl
    ·rfl
    ·cases j <;> rfl)
   have x0:=hE.out.e3 (o:=0) rfl;have x1:=hE.out.e3 (o:=1) rfl;have x2:=hE.out.e3 (o:=2) rfl;have x3:=hE.out.e3 (o:=3) rfl;have d0:=hE.out.e2 (o:=0) rfl;have d1:=hE.out.e2 (o:=1) rfl;have d2:=hE.out.e2 (o:=2) rfl;have d3:=hE.out.e2 (o:=3) rfl;have z0:=hE.out.z2 0;have z1:=hE.out.z2 1;have z2:=hE.out.z2 2;have z3:=hE.out.z2 3;have hE9:=HD ((((hE.out.set2 0 (.string q1.1)).set2 1 (.int .i64 q2.1)).set2 2 (.int .i64 q3.1)).set2 3 (.slice ua um uc));have hL9:=HD (((((lies_gr hG.out hG.out.prv).set (E:=y.heap.size) (o:=0) (by omega) (.string q1.1)).set (E:=y.heap.size) (o:=1) (by omega) (.int .i64 q2.1)).set (E:=y.heap.size) (o:=2) (by omega) (.int .i64 q3.1)).set (E:=y.heap.size) (o:=3) (by omega) (.slice ua um uc));have hW:∀ W9,(((wr.setCell ⟨y.heap.size,0,none⟩ (.string q1.1)).setCell ⟨y.heap.size,1,none⟩ (.int .i64 q2.1)).setCell ⟨y.heap.size,2,none⟩ (.int .i64 q3.1)).setCell ⟨y.heap.size,3,none⟩ (.slice ua um uc)=W9→True:=fun _ _=>trivial;rcases hend with rfl | rfl
   ·clear hQ5 hW;have t1:decide ((0:Int) < ((0:Nat):Int))=false:=by decide
    go_wp2
    generalize (((wr.setCell ⟨y.heap.size,0,none⟩ (.string q1.1)).setCell ⟨y.heap.size,1,none⟩ (.int .i64 q2.1)).setCell ⟨y.heap.size,2,none⟩ (.int .i64 q3.1)).setCell ⟨y.heap.size,3,none⟩ (.slice ua um uc)=W9 at *;clear x0 x1 x2 x3 d0 d1 d2 d3;have d0:W9.cell? ⟨y.heap.size,0,none⟩=some (.string q1.1):=hE9.out.e2 (o:=0) rfl;have d1:W9.cell? ⟨y.heap.size,1,none⟩=some (.int .i64 q2.1):=hE9.out.e2 (o:=1) rfl;have d2:W9.cell? ⟨y.heap.size,2,none⟩=some (.int .i64 q3.1):=hE9.out.e2 (o:=2) rfl;have d3:W9.cell? ⟨y.heap.size,3,none⟩=some (.slice ua um uc):=hE9.out.e2 (o:=3) rfl;refine bodyPost_ret (rclass_res rfl d0 d1 d2 d3) rfl ?_;rw[hq.out];exact⟨⟨_,_,rfl,hL9.out.imp (by omega) (fun w2 hp=>⟨n2.out,n3.out,hp⟩),⟨_,_,_,rfl⟩⟩,⟨_,hE9.out.r⟩,hE9.out.cg⟩
   ·clear hQ5 hW;have hE9':=hE9;cases j with
    | succ j =>
     have t1:decide ((0:Int) < ((j+1:Nat):Int))=true:=by simp
     go_wp2
     generalize (((wr.setCell ⟨y.heap.size,0,none⟩ (.string q1.1)).setCell ⟨y.heap.size,1,none⟩ (.int .i64 q2.1)).setCell ⟨y.heap.size,2,none⟩ (.int .i64 q3.1)).setCell ⟨y.heap.size,3,none⟩ (.slice ua um uc)=W9 at *;clear x0 x1 x2 x3 d0 d1 d2 d3;have d0:W9.cell? ⟨y.heap.size,0,none⟩=some (.string q1.1):=hE9.out.e2 (o:=0) rfl;have d1:W9.cell? ⟨y.heap.size,1,none⟩=some (.int .i64 q2.1):=hE9.out.e2 (o:=1) rfl;have d2:W9.cell? ⟨y.heap.size,2,none⟩=some (.int .i64 q3.1):=hE9.out.e2 (o:=2) rfl;have d3:W9.cell? ⟨y.heap.size,3,none⟩=some (.slice ua um uc):=hE9.out.e2 (o:=3) rfl;refine bodyPost_ret (rclass_res rfl d0 d1 d2 d3) rfl ?_;rw[hq.out];exact⟨⟨_,_,rfl,hL9.out.imp (by omega) (fun w2 hp=>⟨n2.out,n3.out,hp⟩),⟨_,_,_,rfl⟩⟩,⟨_,hE9.out.r⟩,hE9.out.cg⟩
    | zero =>
     have t1:decide ((0:Int) < ((0:Nat):Int))=false:=by decide
     go_wp2
     generalize (((wr.setCell ⟨y.heap.size,0,none⟩ (.string q1.1)).setCell ⟨y.heap.size,1,none⟩ (.int .i64 q2.1)).setCell ⟨y.heap.size,2,none⟩ (.int .i64 q3.1)).setCell ⟨y.heap.size,3,none⟩ (.slice ua um uc)=W9 at *;clear x0 x1 x2 x3 d0 d1 d2 d3;have d0:W9.cell? ⟨y.heap.size,0,none⟩=some (.string q1.1):=hE9.out.e2 (o:=0) rfl;have d1:W9.cell? ⟨y.heap.size,1,none⟩=some (.int .i64 q2.1):=hE9.out.e2 (o:=1) rfl;have d2:W9.cell? ⟨y.heap.size,2,none⟩=some (.int .i64 q3.1):=hE9.out.e2 (o:=2) rfl;have d3:W9.cell? ⟨y.heap.size,3,none⟩=some (.slice ua um uc):=hE9.out.e2 (o:=3) rfl;refine bodyPost_ret (rclass_res rfl d0 d1 d2 d3) rfl ?_;rw[hq.out];exact⟨⟨_,_,rfl,hL9.out.imp (by omega) (fun w2 hp=>⟨n2.out,n3.out,hp⟩),⟨_,_,_,rfl⟩⟩,⟨_,hE9.out.r⟩,hE9.out.cg⟩
  ·obtain⟨hj0,hb⟩:=not_or.1 hend;simp only[Bool.not_eq_true] at hb;subst hb;obtain⟨j,rfl⟩:∃ i,j=i+1:=⟨j - 1,by omega⟩
   clear hend hj0;have d1:decide ((0:Int) < ((j+1:Nat):Int))=true:=by simp
   have hq:manyR prR j (A++[(prR (M,false)).1]) (prR (M,false)).2=q5:=hQ5.out;have hpr:prR (M,false)=(((numR (M,false)).1,(numR (numR (M,false)).2).1),(numR (numR (M,false)).2).2):=rfl;have hqp:=(prR_all.2 hE.out.r.bd).1;rw[hpr] at hq hqp;clear hQ5 hpr;have P1:=num_c hE.out.r;generalize numR (M,false)=r1 at P1 hq hqp;obtain⟨a,s1⟩:=r1;generalize hR2:numR s1=r2 at hq hqp;obtain⟨b,s2⟩:=r2;replace P1:=HD P1;replace hR2:=HD hR2;simp only at hq hqp;replace hq:=HD hq;replace hqp:=HD hqp
   go_upto_region 8 with (first | (go_at_call 56;((with_reducible refine P1.out.mono ?_);rintro e1 y1 ⟨rfl,⟨v1,hR1⟩,hc1⟩)))
   have hG0:=hG;replace hG:=HD (hG.out.cg hc1 (fun k e=>by omega));replace hE:=HD (hE.out.call hR1 hc1);have hB1:=hc1.size;have hlt:=HD (fun k (e:(Value.slice ua um uc).ownBlock=some k)=>(hG0.out.own.lt k e).2);clear P1 hR1 hc1 c1 hG0;have hum:um=A.length:=by
    rcases hG.out.own.2 with ⟨e,e2⟩ | ⟨g,cap,cur,e,_⟩
    ·cases e;exact e2.symm
    ·cases e;rfl
   subst hum;refine wp_region_last (d:=9) (fuel:=9) (S:=(fun W=>W.cell? ⟨E,3,none⟩=some (.slice ua A.length uc))) (by kernel_rfl) (by kernel_rfl) rfl ?_ (fun hHeld=>?_)
   ·(try dsimp only);exact hE.out.e3 (o:=3) rfl
   try simp only[nA]
   replace hE:=HD (hE.out.up (Below.refl _ _).drew);replace hG:=HD (hG.out.up (Below.refl _ _).drew);replace hB1:wr.heap.size≤y1.drew.heap.size:=hB1;generalize y1.drew=y2 at *;have P1:=num_c hE.out.r;rw[hR2.out] at P1;replace P1:=HD P1;refine tk (i:=0) (oi:=⟨some 30,.fieldAddr 60 (.tmp 3) 3,0,"ref.go:340",#[],none⟩) ?_
   try simp only[nA]
   refine tk (i:=1) (oi:=⟨some 31,.load 58 (.tmp 30),58,"ref.go:340",#[⟨0,.data⟩],none⟩) ?_
   try simp only[nA]
   refine tk (i:=2) (oi:=⟨some 32,.move (.tmp 5),3,"ref.go:340",#[],none⟩) ?_
   try simp only[nA]
   refine tk (i:=3) (oi:=⟨some 33,.move (.tmp 0),101,"ref.go:340",#[],none⟩) ?_
   try simp only[nA]
   refine wpAnyH_ready (rs:=[4]) (by kernel_rfl) (by simp) ?_;refine AllReadyH.cons (o:=⟨some 34,.call { callee:=.value (.func 56),args:=#[.tmp 33],argTypes:=#[101] },3,"ref.go:340",#[⟨3,.data⟩],none⟩) rfl (fun K9 hK=>?_) AllReadyH.nil;go_simp
   with_reducible refine P1.out.mono ?_
   rintro e y3 ⟨rfl,⟨v3,hR3⟩,hc3⟩;replace hG:=HD (hG.out.cg hc3 (fun k e=>by omega));replace hE:=HD (hE.out.call hR3 hc3);have hB3:=hc3.size;clear P1 hR3 hc3
   go_wp2_with fail
   refine hK.out _ _ ?_ ?_
   ·(try dsimp only);exact hE.out.e3 (o:=3) rfl
   clear hK K9 hHeld;intro hHeld
   try simp only[nA]
   refine tk (i:=5) (oi:=⟨some 35,.build 66 #[(0,.tmp 32),(1,.tmp 34)],66,"ref.go:340",#[⟨2,.data⟩,⟨4,.data⟩],none⟩) ?_
   try simp only[nA]
   refine wpAnyH_ready (rs:=[6]) (by kernel_rfl) (by simp) ?_;refine AllReadyH.cons (o:=⟨some 36,.buildSlice 58 1 #[(0,.tmp 35)],58,"ref.go:340",#[⟨5,.data⟩],none⟩) rfl (fun K9 hK=>?_) AllReadyH.nil;go_simp;have hA3:=(Below.refl y3.heap.size y3).alloc (Nat.le_refl _) (.cells #[.int .i64 a,.int .i64 b] 66);have hOA:=HD (row_bel hG.out.own hA3);have hE5:=HD (hE.out.up hA3);have rd5:Hid (∀ j u,(pr2 [(a,b)])[j]?=some u→(y3.alloc (.cells #[.int .i64 a,.int .i64 b] 66)).cell? ((⟨y3.heap.size,0,none⟩:Addr).add j)=some u):=HD (World.news_of_block (alloc_at _ _ _ rfl));have hlt5:=HD (fun k hk=>(hG.out.own.lt k hk));have hB5:B≤(y3.alloc (.cells #[.int .i64 a,.int .i64 b] 66)).heap.size:=by simp only[World.size_alloc];omega
   replace hA3:=HD hA3;refine hK.out _ _ ?_ ?_
   ·(try dsimp only);exact hE5.out.e3 (o:=3) rfl
   clear hK K9 hHeld;intro hHeld
   try simp only[nA]
   refine wpAnyH_ready (rs:=[7]) (by kernel_rfl) (by simp) ?_;refine AllReadyH.cons (o:=⟨some 37,.call { callee:=.builtin .append,args:=#[.tmp 31,.tmp 36],argTypes:=#[58,58] },58,"ref.go:340",#[⟨1,.data⟩,⟨6,.data⟩,⟨4,.chain⟩],none⟩) rfl (fun K9 hK=>?_) AllReadyH.nil;refine step_append_lies _ rfl (.tmp 31) (.tmp 36) 58 rfl B 66 i0 (.agg #[.int .i64 0,.int .i64 0]) 2 16 Tryz.underlying58 hi0 hz0 hz1 hz2 rfl (by decide) (.slice ua A.length uc) A.length _ rfl hOA.out ⟨y3.heap.size,0,none⟩ 1 1 (pr2 [(a,b)]) rfl rfl rd5.out (pr2_one _) (by omega) (by omega) (by omega) hB5 _ rfl ?_;intro g1 cap1 w7 hown1 hgrow1 hat1 hlt1;have hP:=HD (hG.out.push (x:=(a,b)) (J:=fun _=>False) (s:=wr.heap.size) (Stay.const hqp.out) (fun k e=>e.elim) (fun k e=>hlt.out k e) hBr hA3.out hown1 hgrow1 (fun k hk=>by
    have e1:g1=k:=by simpa [Value.ownBlock] using hk
    rcases hat1 with e | e
    ·exact Or.inl (by rw[← e1];exact e)
    ·exact Or.inr (by rw[← e1];exact e)) (pr2_app' A (a,b)))
   have hc7:Cg (fun k=>(Value.slice ua A.length uc).ownBlock=some k) y3 w7:=(Cg.below _ hA3.out).grown hgrow1 (fun k e=>Or.inl e);replace hE:=HD (hE.out.app hc7 (fun k e=>by have:=(hlt5.out k e).1;exact⟨by omega,by omega,by omega,by omega⟩));have hB7:=hc7.size;clear hown1 hgrow1 hat1 hlt1 hOA hA3 hE5 rd5 hB5 hc7 hlt5 hG;refine hK.out _ _ ?_ ?_
   ·(try dsimp only);exact hE.out.e3 (o:=3) rfl
   clear hK K9 hHeld;intro hHeld
   try simp only[nA]
   refine tk (i:=8) (oi:=⟨some 38,.fieldAddr 60 (.tmp 3) 3,0,"ref.go:340",#[⟨0,.phase⟩,⟨1,.phase⟩,⟨2,.phase⟩,⟨3,.phase⟩,⟨4,.phase⟩,⟨5,.phase⟩,⟨6,.phase⟩,⟨7,.phase⟩],none⟩) ?_
   try simp only[nA]
   have x3:=hE.out.e3 (o:=3) rfl;have z3:=hE.out.z3 3;refine last_step (o:=⟨none,.store 58 (.tmp 38) (.tmp 37),0,"ref.go:340",#[⟨8,.data⟩,⟨7,.data⟩,⟨7,.chain⟩,⟨0,.phase⟩,⟨1,.phase⟩,⟨2,.phase⟩,⟨3,.phase⟩,⟨4,.phase⟩,⟨5,.phase⟩,⟨6,.phase⟩,⟨7,.phase⟩],none⟩) rfl (by kernel_rfl) (fun K hK=>?_);go_simp;refine hK.out _ _ ?_;clear hK K
   try simp only[nA]
   replace hE:=HD (hE.out.set3 3 (.slice (some ⟨g1,0,none⟩) (A.length+1) cap1));replace hP:=HD (hP.out.cg ((Cg.refl (fun k=>k=E) w7).set ⟨E,3,none⟩ rfl (.slice (some ⟨g1,0,none⟩) (A.length+1) cap1)) (fun k e=>by omega))
   go_wp2
   go_roundw
   case rel=>exact⟨j,A++[(a,b)],s2,_,_,_,by rw[List.length_append];simp only[List.length_cons,List.length_nil];omega,by go_num,hq,hE,hP,by rw[World.size_setCell];omega⟩
   case measure=>simp[intOf]
end Wd
end Go.Proofs.YtgfnelhbdhbklaaGreat
namespace Go.Proofs.YtgfnelhbdhbklaaGreat
open Go.RowKit
set_option linter.unusedVariables false
set_option maxRecDepth 20000
namespace Wd
set_option maxHeartbeats 16000000 in
theorem pnum_c {w:World} {base:Nat} {v:Value} {L:List Int} (h:RB w base 5 v (bys L)) (hb:base≤w.heap.size) (hl:L.length≤1000000000) (n:Int) :
  Calls Tryz.prog 39 #[v,.int .i64 n] w fun e w'=>∃ v',e=.returned v'∧Wr base w w' v v' (L++b4 n):=by
 obtain⟨i0,hi0,hz0,hz1,hz2⟩:=info_parts infoB8;have hmx:2000000000≤maxLen:=by decide
 have hbl:=bys_ln L;replace h:=HD h;go_enter Tryz.func39,Tryz.ntmps39
 go_wp2_with (first | (at_builtin;refine wpList_app_rb rfl (.tmp 8) (.tmp 20) 36 rfl base 5 i0 (.int .u8 0) Tryz.underlying36 hi0 hz0 hz1 hz2 rfl v (bys L) (by simp[Act.eval]) (h.out.kept (fun k hk=>((Below.refl w.heap.size w).alloc (Nat.le_refl _) _).block k (h.out.lt k hk).2)) ⟨w.heap.size,0,none⟩ 4 4 (bys [_,_,_,_]) (by simp[Act.eval]) (by simp[bys]) (bys_four ((World.cell?_alloc_new _ _ _ 0).trans rfl) ((World.cell?_alloc_new _ _ _ 1).trans rfl) ((World.cell?_alloc_new _ _ _ 2).trans rfl) ((World.cell?_alloc_new _ _ _ 3).trans rfl)) (bys_one _) (by omega) (by omega) (by simp only[World.size_alloc];omega) ?_;intro v1 w1 hown1 hgrow1 hat1))
 go_ret;have e4:[n % 4294967296 / 16777216,n % 4294967296 / 65536 % 256,n % 4294967296 / 256 % 256,n % 256]=b4 n:=by
  unfold b4
  congr 4
  omega
 rw[e4,← bys_cat] at hown1;refine⟨_,rfl,hown1,((Cg.refl _ w).alloc _).grown hgrow1 (fun k e=>Or.inl e),fun k hk=>?_⟩;replace hk:v1.ownBlock=some k:=hk;rcases hat1 with e | e
 ·exact Or.inl (by rw[← e];exact hk)
 ·rw[e] at hk;have:=Option.some.inj hk;simp only[World.size_alloc] at this;exact Or.inr (by omega)
set_option maxHeartbeats 16000000 in
theorem ptext_c {w:World} {base:Nat} {v:Value} {L:List Int} (h:RB w base 5 v (bys L)) (hb:base≤w.heap.size) (s:ByteArray) (hl:L.length+s.size≤900000000) :
  Calls Tryz.prog 32 #[v,.string s] w fun e w'=>∃ v',e=.returned v'∧Wr base w w' v v' (L++txt s):=by
 obtain⟨i0,hi0,hz0,hz1,hz2⟩:=info_parts infoB8;have hmx:2000000000≤maxLen:=by decide
 replace h:=HD h;go_enter Tryz.func32,Tryz.ntmps32
 go_wp2_with fail
 with_reducible refine (pnum_c h.out hb (by omega) _).mono ?_
 rintro e w1 ⟨v1,rfl,h1⟩;replace h1:=HD h1;have hs1:=h1.out.cg.size;have hbl:=bys_ln (L++b4 s.size);rw[List.length_append,b4_len] at hbl
 go_wp2_with (first | (at_builtin;refine wpList_app_rbs rfl (.tmp 8) (.tmp 9) 36 9 rfl base 5 i0 Tryz.underlying36 Tryz.underlying9 hi0 hz0 hz1 hz2 v1 (bys (L++b4 s.size)) (by simp[Act.eval]) h1.out.rb s (by simp[Act.eval]) (by omega) (by omega) (by omega) ?_;intro v2 w2 hown2 hgrow2 hat2))
 go_ret;rw[strB,← bys_cat,List.append_assoc] at hown2;refine⟨_,rfl,h1.out.trans ⟨hown2,(Cg.refl _ w1).grown hgrow2 (fun k e=>Or.inl e),fun k hk=>?_⟩⟩;replace hk:v2.ownBlock=some k:=hk;rcases hat2 with e | e
 ·exact Or.inl (by rw[← e];exact hk)
 ·rw[e] at hk;have:=Option.some.inj hk;exact Or.inr (by omega)
end Wd
end Go.Proofs.YtgfnelhbdhbklaaGreat
namespace Go.Proofs.YtgfnelhbdhbklaaGreat
open Go.RowKit
set_option linter.unusedVariables false
set_option maxRecDepth 20000
namespace Wd
structure BX (base:Nat) (w y:World) (E:Nat) (C:List Value) (v0 v:Value) (L:List Int):Prop where
 wr:Wr base w y v0 v L
 lt:E < y.heap.size
 ne:v.ownBlock≠some E
 ks:∀ o x,C[o]?=some x→y.cell? ⟨E,o,none⟩=some x
 hb:base≤y.heap.size
section
variable {base:Nat} {w y y1:World} {E:Nat} {C:List Value} {v0 v v1:Value} {L M:List Int}
theorem BX.born (h:RB w base 5 v (bys L)) (hb:base≤w.heap.size) (T:TypeId) (C:List Value) (D:Array Value) (hD:D.toList=C):BX base w (w.alloc (.cells D T)) w.heap.size C v v L :=
 ⟨(Wr.refl h).app _,by simp,fun e=>by have:=(h.lt _ e).2;omega,fun o x hx=>by
  subst hD;exact (World.cell?_alloc_new _ _ _ o).trans (by simpa using hx),by simp only[World.size_alloc];omega⟩
theorem BX.step (h:BX base w y E C v0 v L) (g:Wr base y y1 v v1 M):BX base w y1 E C v0 v1 M :=
 ⟨h.wr.trans g,Nat.lt_of_lt_of_le h.lt g.cg.size,fun e=>by
  rcases g.ob _ e with e | e
  ·exact h.ne e
  ·have:=h.lt;omega,fun o x hx=>(cell_heap (g.cg.block E h.lt h.ne) o).trans (h.ks o x hx),Nat.le_trans h.hb g.cg.size⟩
theorem BX.drew (h:BX base w y E C v0 v L):BX base w y.drew E C v0 v L:=⟨h.wr.drew,h.lt,h.ne,h.ks,h.hb⟩
theorem BX.s2 {a b:Value} (h:BX base w y E [a,b] v0 v L):y.cell? ⟨E,0,none⟩=some a∧y.cell? ⟨E,1,none⟩=some b:=⟨h.ks 0 _ rfl,h.ks 1 _ rfl⟩
theorem BX.s4 {a b c d:Value} (h:BX base w y E [a,b,c,d] v0 v L):y.cell? ⟨E,0,none⟩=some a∧y.cell? ⟨E,1,none⟩=some b∧y.cell? ⟨E,2,none⟩=some c∧y.cell? ⟨E,3,none⟩=some d:=⟨h.ks 0 _ rfl,h.ks 1 _ rfl,h.ks 2 _ rfl,h.ks 3 _ rfl⟩
end
set_option maxHeartbeats 16000000 in
theorem pval_c {w:World} {base:Nat} {v:Value} {L:List Int} (h:RB w base 5 v (bys L)) (hb:base≤w.heap.size) (hl:L.length≤900000000) (a b:Int) :
  Calls Tryz.prog 67 #[v,.agg #[.int .i64 a,.int .i64 b]] w fun e w'=>∃ v',e=.returned v'∧Wr base w w' v v' (L++(b4 a++b4 b)):=by
 have hB:=HD (BX.born h hb 68 [.int .i64 a,.int .i64 b] #[.int .i64 a,.int .i64 b] rfl);have hsz:=h.lt;clear h;go_enter Tryz.func67,Tryz.ntmps67
 go_upto_region 1 with fail
 obtain⟨E,hE⟩:∃ E,w.heap.size=E:=⟨_,rfl⟩
 obtain⟨y0,hy0⟩:∃ y,w.alloc (.cells #[.int .i64 a,.int .i64 b] 68)=y:=⟨_,rfl⟩
 rw[hy0,hE] at hB;simp only[hy0,hE];clear hy0;replace hB:=HD hB.out.drew;refine wp_region_held_drew (S:=(fun y=>y.cell? ⟨E,0,none⟩=some (.int .i64 a)∧y.cell? ⟨E,1,none⟩=some (.int .i64 b))) (by kernel_rfl) ?_ (fun hHeld=>?_)
 ·(try dsimp only);exact hB.out.s2
 try simp only[nA]
 generalize y0.drew=y1 at *;have P1:=HD (pnum_c hB.out.wr.rb hB.out.hb (by omega) a);refine tk (i:=0) (oi:=⟨some 5,.move (.tmp 0),36,"put.go:47",#[],none⟩) (hy:=by intro w hSw;(try dsimp only at hSw);obtain⟨s0,s1⟩:=hSw;go_simp <;> with_reducible rfl) ?_
 try simp only[nA]
 refine tk (i:=1) (oi:=⟨some 6,.fieldAddr 68 (.tmp 3) 0,0,"put.go:47",#[],none⟩) (hy:=by intro w hSw;(try dsimp only at hSw);obtain⟨s0,s1⟩:=hSw;go_simp <;> with_reducible rfl) ?_
 try simp only[nA]
 refine tk (i:=2) (oi:=⟨some 7,.load 3 (.tmp 6),3,"put.go:47",#[⟨1,.data⟩],none⟩) (hy:=by intro w hSw;(try dsimp only at hSw);obtain⟨s0,s1⟩:=hSw;go_simp <;> with_reducible rfl) ?_
 try simp only[nA]
 refine tk (i:=4) (oi:=⟨some 9,.fieldAddr 68 (.tmp 3) 1,0,"put.go:47",#[],none⟩) (hy:=by intro w hSw;(try dsimp only at hSw);obtain⟨s0,s1⟩:=hSw;go_simp <;> with_reducible rfl) ?_
 try simp only[nA]
 refine tk (i:=5) (oi:=⟨some 10,.load 3 (.tmp 9),3,"put.go:47",#[⟨4,.data⟩],none⟩) (hy:=by intro w hSw;(try dsimp only at hSw);obtain⟨s0,s1⟩:=hSw;go_simp <;> with_reducible rfl) ?_
 try simp only[nA]
 refine wpAnyH_ready (rs:=[3]) (by kernel_rfl) (by simp) ?_;refine AllReadyH.cons (o:=⟨some 8,.call { callee:=.value (.func 39),args:=#[.tmp 5,.tmp 7],argTypes:=#[36,3] },36,"put.go:47",#[⟨0,.data⟩,⟨2,.data⟩],none⟩) rfl (fun K9 hK=>?_) AllReadyH.nil;go_simp
 with_reducible refine P1.out.mono ?_
 rintro e y2 ⟨v2,rfl,hR2⟩;replace hB:=HD (hB.out.step hR2);clear hR2 P1;have P2:=HD (pnum_c hB.out.wr.rb hB.out.hb (by rw[List.length_append,b4_len];omega) b)
 go_wp2_with fail
 refine hK.out _ _ ?_ ?_
 ·(try dsimp only);exact hB.out.s2
 clear hK K9 hHeld;intro hHeld
 try simp only[nA]
 refine wpAnyH_ready (rs:=[6]) (by kernel_rfl) (by simp) ?_;refine AllReadyH.cons (o:=⟨some 11,.call { callee:=.value (.func 39),args:=#[.tmp 8,.tmp 10],argTypes:=#[36,3] },36,"put.go:47",#[⟨3,.data⟩,⟨5,.data⟩,⟨3,.chain⟩],none⟩) rfl (fun K9 hK=>?_) AllReadyH.nil;go_simp
 with_reducible refine P2.out.mono ?_
 rintro e y3 ⟨v3,rfl,hR3⟩;replace hB:=HD (hB.out.step hR3);clear hR3 P2
 go_wp2_with fail
 refine hK.out _ _ ?_ ?_
 ·(try dsimp only);exact hB.out.s2
 clear hK K9 hHeld;intro hHeld
 try simp only[nA]
 refine tk (i:=7) (oi:=⟨some 4,.assign (.tmp 11),36,"put.go:47",#[⟨6,.data⟩,⟨6,.chain⟩,⟨0,.phase⟩,⟨1,.phase⟩,⟨2,.phase⟩,⟨3,.phase⟩,⟨4,.phase⟩,⟨5,.phase⟩,⟨6,.phase⟩],none⟩) (hy:=by intro w hSw;(try dsimp only at hSw);obtain⟨s0,s1⟩:=hSw;go_simp <;> with_reducible rfl) ?_
 try simp only[nA]
 refine wpAnyH_done (by kernel_rfl) ?_ _
 go_wp2
 go_ret;have hf:=hB.out.wr;rw[List.append_assoc] at hf;exact⟨_,rfl,hf⟩
set_option maxHeartbeats 16000000 in
theorem pbind_c {w:World} {base:Nat} {v:Value} {L:List Int} (h:RB w base 5 v (bys L)) (hb:base≤w.heap.size) (hl:L.length≤900000000) (a b:Int) :
  Calls Tryz.prog 65 #[v,.agg #[.int .i64 a,.int .i64 b]] w fun e w'=>∃ v',e=.returned v'∧Wr base w w' v v' (L++(b4 a++b4 b)):=by
 have hB:=HD (BX.born h hb 66 [.int .i64 a,.int .i64 b] #[.int .i64 a,.int .i64 b] rfl);have hsz:=h.lt;clear h;go_enter Tryz.func65,Tryz.ntmps65
 go_upto_region 1 with fail
 obtain⟨E,hE⟩:∃ E,w.heap.size=E:=⟨_,rfl⟩
 obtain⟨y0,hy0⟩:∃ y,w.alloc (.cells #[.int .i64 a,.int .i64 b] 66)=y:=⟨_,rfl⟩
 rw[hy0,hE] at hB;simp only[hy0,hE];clear hy0;replace hB:=HD hB.out.drew;refine wp_region_held_drew (S:=(fun y=>y.cell? ⟨E,0,none⟩=some (.int .i64 a)∧y.cell? ⟨E,1,none⟩=some (.int .i64 b))) (by kernel_rfl) ?_ (fun hHeld=>?_)
 ·(try dsimp only);exact hB.out.s2
 try simp only[nA]
 generalize y0.drew=y1 at *;have P1:=HD (pnum_c hB.out.wr.rb hB.out.hb (by omega) a);refine tk (i:=0) (oi:=⟨some 5,.move (.tmp 0),36,"put.go:32",#[],none⟩) (hy:=by intro w hSw;(try dsimp only at hSw);obtain⟨s0,s1⟩:=hSw;go_simp <;> with_reducible rfl) ?_
 try simp only[nA]
 refine tk (i:=1) (oi:=⟨some 6,.fieldAddr 66 (.tmp 3) 0,0,"put.go:32",#[],none⟩) (hy:=by intro w hSw;(try dsimp only at hSw);obtain⟨s0,s1⟩:=hSw;go_simp <;> with_reducible rfl) ?_
 try simp only[nA]
 refine tk (i:=2) (oi:=⟨some 7,.load 3 (.tmp 6),3,"put.go:32",#[⟨1,.data⟩],none⟩) (hy:=by intro w hSw;(try dsimp only at hSw);obtain⟨s0,s1⟩:=hSw;go_simp <;> with_reducible rfl) ?_
 try simp only[nA]
 refine tk (i:=4) (oi:=⟨some 9,.fieldAddr 66 (.tmp 3) 1,0,"put.go:32",#[],none⟩) (hy:=by intro w hSw;(try dsimp only at hSw);obtain⟨s0,s1⟩:=hSw;go_simp <;> with_reducible rfl) ?_
 try simp only[nA]
 refine tk (i:=5) (oi:=⟨some 10,.load 3 (.tmp 9),3,"put.go:32",#[⟨4,.data⟩],none⟩) (hy:=by intro w hSw;(try dsimp only at hSw);obtain⟨s0,s1⟩:=hSw;go_simp <;> with_reducible rfl) ?_
 try simp only[nA]
 refine wpAnyH_ready (rs:=[3]) (by kernel_rfl) (by simp) ?_;refine AllReadyH.cons (o:=⟨some 8,.call { callee:=.value (.func 39),args:=#[.tmp 5,.tmp 7],argTypes:=#[36,3] },36,"put.go:32",#[⟨0,.data⟩,⟨2,.data⟩],none⟩) rfl (fun K9 hK=>?_) AllReadyH.nil;go_simp
 with_reducible refine P1.out.mono ?_
 rintro e y2 ⟨v2,rfl,hR2⟩;replace hB:=HD (hB.out.step hR2);clear hR2 P1;have P2:=HD (pnum_c hB.out.wr.rb hB.out.hb (by rw[List.length_append,b4_len];omega) b)
 go_wp2_with fail
 refine hK.out _ _ ?_ ?_
 ·(try dsimp only);exact hB.out.s2
 clear hK K9 hHeld;intro hHeld
 try simp only[nA]
 refine wpAnyH_ready (rs:=[6]) (by kernel_rfl) (by simp) ?_;refine AllReadyH.cons (o:=⟨some 11,.call { callee:=.value (.func 39),args:=#[.tmp 8,.tmp 10],argTypes:=#[36,3] },36,"put.go:32",#[⟨3,.data⟩,⟨5,.data⟩,⟨3,.chain⟩],none⟩) rfl (fun K9 hK=>?_) AllReadyH.nil;go_simp
 with_reducible refine P2.out.mono ?_
 rintro e y3 ⟨v3,rfl,hR3⟩;replace hB:=HD (hB.out.step hR3);clear hR3 P2
 go_wp2_with fail
 refine hK.out _ _ ?_ ?_
 ·(try dsimp only);exact hB.out.s2
 clear hK K9 hHeld;intro hHeld
 try simp only[nA]
 refine tk (i:=7) (oi:=⟨some 4,.assign (.tmp 11),36,"put.go:32",#[⟨6,.data⟩,⟨6,.chain⟩,⟨0,.phase⟩,⟨1,.phase⟩,⟨2,.phase⟩,⟨3,.phase⟩,⟨4,.phase⟩,⟨5,.phase⟩,⟨6,.phase⟩],none⟩) (hy:=by intro w hSw;(try dsimp only at hSw);obtain⟨s0,s1⟩:=hSw;go_simp <;> with_reducible rfl) ?_
 try simp only[nA]
 refine wpAnyH_done (by kernel_rfl) ?_ _
 go_wp2
 go_ret;have hf:=hB.out.wr;rw[List.append_assoc] at hf;exact⟨_,rfl,hf⟩
set_option maxHeartbeats 16000000 in
theorem prowv_c {wu w:World} {base:Nat} {v u:Value} {L:List Int} {V:List (Int × Int)} (hq:wu.heap.size≤base) (hu:PrV wu u V) (hbu:Below wu.heap.size wu w) (h:RB w base 5 v (bys L)) (hb:base≤w.heap.size) (hl:L.length+(rowB (fun v:Int × Int=>b4 v.1++b4 v.2) V).length≤800000000) :
  Calls Tryz.prog 66 #[v,u,.func (.func 67) #[] #[]] w fun e w'=>∃ v',e=.returned v'∧Wr base w w' v v' (L++rowB (fun v:Int × Int=>b4 v.1++b4 v.2) V):=by
 obtain⟨ad,cap,rfl,hcap,hmx⟩:=hu.form;rw[rowB_fl] at hl ⊢;rw[List.length_append,b4_len] at hl;have hat:=HD (fun k x (hx:V[k]?=some x)=>fl_at (f:=(fun v:Int × Int=>b4 v.1++b4 v.2)) hx);obtain⟨n,hn⟩:∃ n,n=V.length:=⟨_,rfl⟩
 rw[← hn] at hu hcap ⊢;have hn64:n≤maxLen:=by omega
 have hmx':maxLen≤9223372036854775807:=by decide
 replace hu:=HD hu;have hn':=HD hn;replace hbu:=HD hbu;replace h:=HD h;have hlt0:=HD (fun k hk=>(h.out.lt k hk).1);clear hmx hn;go_enter Tryz.func66,Tryz.ntmps66
 go_wp2_with fail
 with_reducible refine (pnum_c h.out hb (by omega) _).mono ?_
 rintro e w1 ⟨v1,rfl,h1⟩;replace h1:=HD h1
 go_wp2
 have hst:Hid (Wr base w w1 v v1 (L++b4 n++fl (fun v:Int × Int=>b4 v.1++b4 v.2) (V.take 0))):=HD (by simpa [fl] using h1.out)
 go_loopw [0,15] (fun i0 i15 wr=>∃ (k:Nat),k≤n∧i15=.int .i64 k∧Hid (Wr base w wr v i0 (L++b4 n++fl (fun v:Int × Int=>b4 v.1++b4 v.2) (V.take k)))) (fun _ i15 _=>n - (intOf i15).toNat)
 case atStart=>exact⟨0,by omega,rfl,hst⟩
 case round =>
  clear hst h1;obtain⟨k,hk,rfl,hR⟩:=hrel;by_cases hlt:k < n
  ·have d1:decide ((k:Int) < (n:Int))=true:=by simp;omega
   have p0:(0:Int)≤(k:Int):=by omega
   have p1:(k:Int) < (n:Int):=by omega
   obtain⟨x,hx⟩:∃ x,V[k]?=some x:=⟨V[k]'(by have:=hn'.out;omega),by simp⟩
   have hbr:=wr_bel hR.out.cg hlt0.out hq hbu.out;obtain⟨a,b⟩:=x;obtain⟨a64,b64,g,off,rfl,c0,c1⟩:=(hu.out.up hbr).at hx;simp only at a64 b64 c0 c1;have hle:(fl (fun v:Int × Int=>b4 v.1++b4 v.2) (V.take k)).length+((fun v:Int × Int=>b4 v.1++b4 v.2) (a,b)).length≤(fl (fun v:Int × Int=>b4 v.1++b4 v.2) V).length:=hat.out k (a,b) hx;have hlen:(L++b4 ↑n++fl (fun v:Int × Int=>b4 v.1++b4 v.2) (V.take k)).length+((fun v:Int × Int=>b4 v.1++b4 v.2) (a,b)).length≤800000000:=by rw[List.length_append,List.length_append,b4_len];omega
   have hnx:=HD (fl_next (f:=(fun v:Int × Int=>b4 v.1++b4 v.2)) hx);have hsz:=hR.out.cg.size;clear hx hle;have hR0:=HD (hR.out.app (.cells #[.int .i64 a,.int .i64 b] 68));have hbs:base≤(wr.alloc (.cells #[.int .i64 a,.int .i64 b] 68)).heap.size:=by simp only[World.size_alloc];omega
   have P:=HD (pval_c hR0.out.rb hbs (by omega) a b);clear hbr
   go_wp2_with (first | (go_at_call 67;((with_reducible refine P.out.mono ?_);rintro e1 w2 ⟨v2,rfl,hw2⟩)))
   have hf:=hR0.out.trans hw2;rw[List.append_assoc,← hnx.out] at hf;replace hf:=HD hf;clear hw2 P
   go_roundw
   case rel=>exact⟨k+1,by omega,by go_num,hf⟩
   case measure=>simp[intOf];omega
  ·have d1:decide ((k:Int) < (n:Int))=false:=by simp;omega
   have hf:=hR.out;rw[show k=V.length by have:=hn'.out;omega,List.take_length,List.append_assoc] at hf;replace hf:=HD hf
   go_wp2
   go_ret;exact⟨_,rfl,hf.out⟩
set_option maxHeartbeats 16000000 in
theorem prowb_c {wu w:World} {base:Nat} {v u:Value} {L:List Int} {V:List (Int × Int)} (hq:wu.heap.size≤base) (hu:PrV wu u V) (hbu:Below wu.heap.size wu w) (h:RB w base 5 v (bys L)) (hb:base≤w.heap.size) (hl:L.length+(rowB (fun v:Int × Int=>b4 v.1++b4 v.2) V).length≤800000000) :
  Calls Tryz.prog 64 #[v,u,.func (.func 65) #[] #[]] w fun e w'=>∃ v',e=.returned v'∧Wr base w w' v v' (L++rowB (fun v:Int × Int=>b4 v.1++b4 v.2) V):=by
 obtain⟨ad,cap,rfl,hcap,hmx⟩:=hu.form;rw[rowB_fl] at hl ⊢;rw[List.length_append,b4_len] at hl;have hat:=HD (fun k x (hx:V[k]?=some x)=>fl_at (f:=(fun v:Int × Int=>b4 v.1++b4 v.2)) hx);obtain⟨n,hn⟩:∃ n,n=V.length:=⟨_,rfl⟩
 rw[← hn] at hu hcap ⊢;have hn64:n≤maxLen:=by omega
 have hmx':maxLen≤9223372036854775807:=by decide
 replace hu:=HD hu;have hn':=HD hn;replace hbu:=HD hbu;replace h:=HD h;have hlt0:=HD (fun k hk=>(h.out.lt k hk).1);clear hmx hn;go_enter Tryz.func64,Tryz.ntmps64
 go_wp2_with fail
 with_reducible refine (pnum_c h.out hb (by omega) _).mono ?_
 rintro e w1 ⟨v1,rfl,h1⟩;replace h1:=HD h1
 go_wp2
 have hst:Hid (Wr base w w1 v v1 (L++b4 n++fl (fun v:Int × Int=>b4 v.1++b4 v.2) (V.take 0))):=HD (by simpa [fl] using h1.out)
 go_loopw [0,15] (fun i0 i15 wr=>∃ (k:Nat),k≤n∧i15=.int .i64 k∧Hid (Wr base w wr v i0 (L++b4 n++fl (fun v:Int × Int=>b4 v.1++b4 v.2) (V.take k)))) (fun _ i15 _=>n - (intOf i15).toNat)
 case atStart=>exact⟨0,by omega,rfl,hst⟩
 case round =>
  clear hst h1;obtain⟨k,hk,rfl,hR⟩:=hrel;by_cases hlt:k < n
  ·have d1:decide ((k:Int) < (n:Int))=true:=by simp;omega
   have p0:(0:Int)≤(k:Int):=by omega
   have p1:(k:Int) < (n:Int):=by omega
   obtain⟨x,hx⟩:∃ x,V[k]?=some x:=⟨V[k]'(by have:=hn'.out;omega),by simp⟩
   have hbr:=wr_bel hR.out.cg hlt0.out hq hbu.out;obtain⟨a,b⟩:=x;obtain⟨a64,b64,g,off,rfl,c0,c1⟩:=(hu.out.up hbr).at hx;simp only at a64 b64 c0 c1;have hle:(fl (fun v:Int × Int=>b4 v.1++b4 v.2) (V.take k)).length+((fun v:Int × Int=>b4 v.1++b4 v.2) (a,b)).length≤(fl (fun v:Int × Int=>b4 v.1++b4 v.2) V).length:=hat.out k (a,b) hx;have hlen:(L++b4 ↑n++fl (fun v:Int × Int=>b4 v.1++b4 v.2) (V.take k)).length+((fun v:Int × Int=>b4 v.1++b4 v.2) (a,b)).length≤800000000:=by rw[List.length_append,List.length_append,b4_len];omega
   have hnx:=HD (fl_next (f:=(fun v:Int × Int=>b4 v.1++b4 v.2)) hx);have hsz:=hR.out.cg.size;clear hx hle;have hR0:=HD (hR.out.app (.cells #[.int .i64 a,.int .i64 b] 66));have hbs:base≤(wr.alloc (.cells #[.int .i64 a,.int .i64 b] 66)).heap.size:=by simp only[World.size_alloc];omega
   have P:=HD (pbind_c hR0.out.rb hbs (by omega) a b);clear hbr
   go_wp2_with (first | (go_at_call 65;((with_reducible refine P.out.mono ?_);rintro e1 w2 ⟨v2,rfl,hw2⟩)))
   have hf:=hR0.out.trans hw2;rw[List.append_assoc,← hnx.out] at hf;replace hf:=HD hf;clear hw2 P
   go_roundw
   case rel=>exact⟨k+1,by omega,by go_num,hf⟩
   case measure=>simp[intOf];omega
  ·have d1:decide ((k:Int) < (n:Int))=false:=by simp;omega
   have hf:=hR.out;rw[show k=V.length by have:=hn'.out;omega,List.take_length,List.append_assoc] at hf;replace hf:=HD hf
   go_wp2
   go_ret;exact⟨_,rfl,hf.out⟩
theorem step_app_rb {P:Program} {w:World} {ops:Array Oper} {o:Oper} {a:Act} {K:Act→World→Prop} {Q:Exit→Act→World→Prop} {E:Prop} (hgd:o.guard=none) (s x:Operand) (t:TypeId)
  (ho:o.op=.call { callee:=.builtin .append,args:=#[s,x],argTypes:=#[t,t] })
  (base:Nat) (e:TypeId) (i:TypeInfo) (z:Value) (ht:P.underlying t=some (.slice e)) (hi:P.info? e=some i) (hz:i.zero=some z)
  (hsize:i.size=1) (hby:i.bytes=1) (hzs:z.cells.size=1)
  (v:Value) (xs:List Value) (hs:a.eval s=v) (hown:RB w base e v xs)
  (ad:Addr) (m c:Nat) (news:List Value) (hx:a.eval x=.slice (some ad) m c) (hl:news.length=m) (hnews:∀ j u,news[j]?=some u→w.cell? (ad.add j)=some u) (h1:∀ u∈news,u.oneCell'=true)
  (h63:xs.length+m≤maxLen) (hbytes:xs.length+m≤140737488355328) (hbase:base≤w.heap.size)
  (h:∀ v' w',RB w' base e v' (xs++news)→w.grownBy w' v.ownBlock→(v'.ownBlock=v.ownBlock∨v'.ownBlock=some w.heap.size)→K (a.put o.dst v') w') :
  if Region.wanted o (yielded ops a.tmps)=true then Oper.wp P o a w K Q else E:=by
 have hw:Region.wanted o (yielded ops a.tmps)=true:=by simp[Region.wanted,hgd]
 rw[if_pos hw];obtain⟨v',w',hr,h2,h3,h5⟩:=run_app_rb (P:=P) w base t o.type e i z ht hi hz hsize hby hzs v xs hown ad m c news hl hnews h1 h63 hbytes hbase;unfold Oper.wp execOp;simp only[ho,resolve,invoke,builtin,Sem.run_bind,Sem.run_pure,Result.andThen_ok,List.map_toArray,List.map_cons,List.map_nil,hs,hx,hr];exact h v' w' h2 h3 h5
theorem Wr.of_app {base:Nat} {w w1:World} {v v1:Value} {L M:List Int} (h:RB w1 base 5 v1 (bys L++bys M)) (g:w.grownBy w1 v.ownBlock) (ha:v1.ownBlock=v.ownBlock∨v1.ownBlock=some w.heap.size):Wr base w w1 v v1 (L++M) :=
 ⟨by rw[bys_cat];exact h,(Cg.refl _ w).grown g (fun k e=>Or.inl e),fun k hk=>by
  rcases ha with e | e
  ·exact Or.inl (by rw[← e];exact hk)
  ·rw[e] at hk;have:=Option.some.inj hk;exact Or.inr (by omega)⟩
theorem NmV.form {w:World} {v:Value} {L:List ByteArray} (h:NmV w v L):∃ ad cap,v=.slice ad L.length cap∧L.length≤cap∧cap≤maxLen:=by
 obtain⟨ad,cap,e,h1,h2,_⟩:=h.ex;exact⟨ad,cap,e,h1,h2⟩
theorem MtV.form {w:World} {v:Value} {L:List MethA} (h:MtV w v L):∃ ad cap,v=.slice ad L.length cap∧L.length≤cap∧cap≤maxLen:=by
 obtain⟨ad,cap,e,h1,h2,_⟩:=h.ex;exact⟨ad,cap,e,h1,h2⟩
theorem ByV.news {w:World} {g off n cap:Nat} {L:List Int} (h:ByV w (.slice (some ⟨g,off,none⟩) n cap) L):∀ j u,(bys L)[j]?=some u→w.cell? ((⟨g,off,none⟩:Addr).add j)=some u:=by
 intro j u hu;unfold bys at hu;rw[List.getElem?_map] at hu;obtain⟨x,hx,rfl⟩:=Option.map_eq_some_iff.1 hu;obtain⟨_,g',off',e,c⟩:=h.at hx;cases e;have hadd:(⟨g,off,none⟩:Addr).add j=⟨g,off+j,none⟩:=by unfold Addr.add;split <;> simp_all
 rw[hadd];exact c
theorem ClV.two {wu wr:World} {ad:Option Addr} {n cap:Nat} {L:List ClassA} (h:ClV wu (.slice ad n cap) L) (b:Below wu.heap.size wu wr) {k:Nat} {c:ClassA} (hk:L[k]?=some c):∃ g off l m,ad=some ⟨g,off,none⟩∧wr.cell? ⟨g,off+k*4,none⟩=some (.string c.nm)∧wr.cell? ⟨g,off+k*4+1,none⟩=some (.int .i64 c.super)∧wr.cell? ⟨g,off+k*4+2,none⟩=some (.int .i64 c.fields)∧wr.cell? ⟨g,off+k*4+3,none⟩=some (.slice l c.binds.length m)∧PrV wu (.slice l c.binds.length m) c.binds:=by
 obtain⟨_,_,g,off,bv,e,c0,c1,c2,c3,p⟩:=h.at hk;obtain⟨l,m,rfl,_,_⟩:=p.form;exact⟨g,off,l,m,e,cell_up b c0,cell_up b c1,cell_up b c2,cell_up b c3,p⟩
theorem ObV.two {wu wr:World} {ad:Option Addr} {n cap:Nat} {L:List ObjA} (h:ObV wu (.slice ad n cap) L) (b:Below wu.heap.size wu wr) {k:Nat} {c:ObjA} (hk:L[k]?=some c):∃ g off l m,ad=some ⟨g,off,none⟩∧wr.cell? ⟨g,off+k*2,none⟩=some (.int .i64 c.cls)∧wr.cell? ⟨g,off+k*2+1,none⟩=some (.slice l c.flds.length m)∧PrV wu (.slice l c.flds.length m) c.flds:=by
 obtain⟨_,g,off,bv,e,c0,c1,p⟩:=h.at hk;obtain⟨l,m,rfl,_,_⟩:=p.form;exact⟨g,off,l,m,e,cell_up b c0,cell_up b c1,p⟩
theorem MtV.two {wu wr:World} {ad:Option Addr} {n cap:Nat} {L:List MethA} (h:MtV wu (.slice ad n cap) L) (b:Below wu.heap.size wu wr) {k:Nat} {c:MethA} (hk:L[k]?=some c):∃ g off l m l2 m2,ad=some ⟨g,off,none⟩∧wr.cell? ⟨g,off+k*4,none⟩=some (.int .i64 c.args)∧wr.cell? ⟨g,off+k*4+1,none⟩=some (.int .i64 c.temps)∧wr.cell? ⟨g,off+k*4+2,none⟩=some (.slice l c.lits.length m)∧wr.cell? ⟨g,off+k*4+3,none⟩=some (.slice l2 c.code.length m2)∧PrV wu (.slice l c.lits.length m) c.lits∧ByV wu (.slice l2 c.code.length m2) c.code:=by
 obtain⟨ad',cap',e,_,_,h3⟩:=h.ex;cases e;obtain⟨_,_,g,off,lv,cv,e,c0,c1,c2,c3,p,q⟩:=h3 k c hk;obtain⟨l,m,rfl,_,_⟩:=p.form;obtain⟨l2,m2,rfl,_,_⟩:=q.form;exact⟨g,off,l,m,l2,m2,e,cell_up b c0,cell_up b c1,cell_up b c2,cell_up b c3,p,q⟩
theorem txt_len (x:ByteArray):(txt x).length=4+x.size:=by unfold txt;rw[List.length_append,b4_len,tby_len]
theorem ByV.some {w:World} {ad:Option Addr} {n cap:Nat} {L:List Int} (h:ByV w (.slice ad n cap) L) (h0:0 < L.length):∃ g off,ad=some ⟨g,off,none⟩:=by
 obtain⟨_,g,off,e,_⟩:=h.at (k:=0) (x:=L[0]) (by simp[h0]);exact⟨g,off,e⟩
set_option maxHeartbeats 16000000 in
theorem pcls_c {wu w:World} {base:Nat} {v bv:Value} {L:List Int} {B:List (Int × Int)} (nm:ByteArray) (su fi:Int) (hq:wu.heap.size≤base) (hu:PrV wu bv B) (hbu:Below wu.heap.size wu w) (h:RB w base 5 v (bys L)) (hb:base≤w.heap.size) (hl:L.length+(clB ⟨nm,su,fi,B⟩).length≤800000000) :
  Calls Tryz.prog 34 #[v,.agg #[.string nm,.int .i64 su,.int .i64 fi,bv]] w fun e w'=>∃ v',e=.returned v'∧Wr base w w' v v' (L++clB ⟨nm,su,fi,B⟩):=by
 have hB:=HD (BX.born h hb 60 [.string nm,.int .i64 su,.int .i64 fi,bv] #[.string nm,.int .i64 su,.int .i64 fi,bv] rfl);have hlt0:=HD (fun k hk=>(h.lt k hk).1);have hln:L.length+(4+nm.size)+4+4+(rowP B).length≤800000000:=by
  unfold clB txt at hl;simp only[List.length_append,b4_len,tby_len] at hl;omega
 have hcl:clB ⟨nm,su,fi,B⟩=txt nm++b4 su++b4 fi++rowP B:=rfl;rw[hcl];have ltx:(txt nm).length=4+nm.size:=by unfold txt;rw[List.length_append,b4_len,tby_len]
 obtain⟨l2,m2,rfl,_,_⟩:=hu.form;replace hu:=HD hu;replace hbu:=HD hbu;clear h hcl hl;go_enter Tryz.func34,Tryz.ntmps34;obtain⟨s0,s1,s2,s3⟩:=hB.out.s4;have P:=HD (ptext_c hB.out.wr.rb hB.out.hb nm (by omega))
 go_upto_region 2 with (first | (go_at_call 32;((with_reducible refine P.out.mono ?_);rintro e1 w2 ⟨v2,rfl,hw2⟩)))
 replace hB:=HD (hB.out.step hw2);clear P hw2 s0 s1 s2 s3;obtain⟨s0,s1,s2,s3⟩:=hB.out.s4;have P:=HD (pnum_c hB.out.wr.rb hB.out.hb (by rw[List.length_append,ltx];omega) su)
 go_upto_region 3 with (first | (go_at_call 39;((with_reducible refine P.out.mono ?_);rintro e1 w3 ⟨v3,rfl,hw3⟩)))
 replace hB:=HD (hB.out.step hw3);clear P hw3 s0 s1 s2 s3;obtain⟨s0,s1,s2,s3⟩:=hB.out.s4;have P:=HD (pnum_c hB.out.wr.rb hB.out.hb (by rw[List.length_append,List.length_append,ltx,b4_len];omega) fi)
 go_upto_region 4 with (first | (go_at_call 39;((with_reducible refine P.out.mono ?_);rintro e1 w4 ⟨v4,rfl,hw4⟩)))
 replace hB:=HD (hB.out.step hw4);clear P hw4 s0 s1 s2 s3;obtain⟨s0,s1,s2,s3⟩:=hB.out.s4;have P:=HD (prowb_c hq hu.out (wr_bel hB.out.wr.cg hlt0.out hq hbu.out) hB.out.wr.rb hB.out.hb (by rw[← rowP_eq];simp only[List.length_append,ltx,b4_len];omega))
 go_wp2_with (first | (go_at_call 64;((with_reducible refine P.out.mono ?_);rintro e1 w5 ⟨v5,rfl,hw5⟩)))
 go_ret;have hf:=hB.out.wr.trans hw5;refine⟨_,rfl,?_⟩;simp only[List.append_assoc] at hf ⊢;exact hf
set_option maxHeartbeats 16000000 in
theorem pobj_c {wu w:World} {base:Nat} {v bv:Value} {L:List Int} {B:List (Int × Int)} (c:Int) (hq:wu.heap.size≤base) (hu:PrV wu bv B) (hbu:Below wu.heap.size wu w) (h:RB w base 5 v (bys L)) (hb:base≤w.heap.size) (hl:L.length+(obB ⟨c,B⟩).length≤800000000) :
  Calls Tryz.prog 38 #[v,.agg #[.int .i64 c,bv]] w fun e w'=>∃ v',e=.returned v'∧Wr base w w' v v' (L++obB ⟨c,B⟩):=by
 obtain⟨l2,m2,rfl,_,_⟩:=hu.form;have hB:=HD (BX.born h hb 55 [.int .i64 c,.slice l2 B.length m2] #[.int .i64 c,.slice l2 B.length m2] rfl);have hlt0:=HD (fun k hk=>(h.lt k hk).1);have hln:L.length+4+(rowP B).length≤800000000:=by
  unfold obB at hl;simp only[List.length_append,b4_len] at hl;omega
 replace hu:=HD hu;replace hbu:=HD hbu;clear h hl;go_enter Tryz.func38,Tryz.ntmps38
 go_upto_region 1 with fail
 obtain⟨E,hE⟩:∃ E,w.heap.size=E:=⟨_,rfl⟩
 obtain⟨y0,hy0⟩:∃ y,w.alloc (.cells #[.int .i64 c,.slice l2 B.length m2] 55)=y:=⟨_,rfl⟩
 rw[hy0,hE] at hB;simp only[hy0,hE];clear hy0;replace hB:=HD hB.out.drew;refine wp_region_held_drew (S:=(fun y=>y.cell? ⟨E,0,none⟩=some (.int .i64 c)∧y.cell? ⟨E,1,none⟩=some (.slice l2 B.length m2))) (by kernel_rfl) ?_ (fun hHeld=>?_)
 ·(try dsimp only);exact hB.out.s2
 try simp only[nA]
 generalize y0.drew=y1 at *;have P1:=HD (pnum_c hB.out.wr.rb hB.out.hb (by omega) c);refine tk (i:=0) (oi:=⟨some 5,.move (.tmp 0),36,"put.go:43",#[],none⟩) (hy:=by intro w hSw;(try dsimp only at hSw);obtain⟨s0,s1⟩:=hSw;go_simp <;> with_reducible rfl) ?_
 try simp only[nA]
 refine tk (i:=1) (oi:=⟨some 6,.fieldAddr 55 (.tmp 3) 0,0,"put.go:43",#[],none⟩) (hy:=by intro w hSw;(try dsimp only at hSw);obtain⟨s0,s1⟩:=hSw;go_simp <;> with_reducible rfl) ?_
 try simp only[nA]
 refine tk (i:=2) (oi:=⟨some 7,.load 3 (.tmp 6),3,"put.go:43",#[⟨1,.data⟩],none⟩) (hy:=by intro w hSw;(try dsimp only at hSw);obtain⟨s0,s1⟩:=hSw;go_simp <;> with_reducible rfl) ?_
 try simp only[nA]
 refine tk (i:=4) (oi:=⟨some 9,.fieldAddr 55 (.tmp 3) 1,0,"put.go:43",#[],none⟩) (hy:=by intro w hSw;(try dsimp only at hSw);obtain⟨s0,s1⟩:=hSw;go_simp <;> with_reducible rfl) ?_
 try simp only[nA]
 refine tk (i:=5) (oi:=⟨some 10,.load 53 (.tmp 9),53,"put.go:43",#[⟨4,.data⟩],none⟩) (hy:=by intro w hSw;(try dsimp only at hSw);obtain⟨s0,s1⟩:=hSw;go_simp <;> with_reducible rfl) ?_
 try simp only[nA]
 refine wpAnyH_ready (rs:=[3]) (by kernel_rfl) (by simp) ?_;refine AllReadyH.cons (o:=⟨some 8,.call { callee:=.value (.func 39),args:=#[.tmp 5,.tmp 7],argTypes:=#[36,3] },36,"put.go:43",#[⟨0,.data⟩,⟨2,.data⟩],none⟩) rfl (fun K9 hK=>?_) AllReadyH.nil;go_simp
 with_reducible refine P1.out.mono ?_
 rintro e y2 ⟨v2,rfl,hR2⟩;replace hB:=HD (hB.out.step hR2);clear hR2 P1;have P2:=HD (prowv_c hq hu.out (wr_bel hB.out.wr.cg hlt0.out hq hbu.out) hB.out.wr.rb hB.out.hb (by rw[← rowP_eq];rw[List.length_append,b4_len];omega))
 go_wp2_with fail
 refine hK.out _ _ ?_ ?_
 ·(try dsimp only);exact hB.out.s2
 clear hK K9 hHeld;intro hHeld
 try simp only[nA]
 refine wpAnyH_ready (rs:=[6]) (by kernel_rfl) (by simp) ?_;refine AllReadyH.cons (o:=⟨some 11,.call { callee:=.value (.func 66),args:=#[.tmp 8,.tmp 10,.func 67],argTypes:=#[36,53,112] },36,"put.go:43",#[⟨3,.data⟩,⟨5,.data⟩,⟨3,.chain⟩],none⟩) rfl (fun K9 hK=>?_) AllReadyH.nil;go_simp
 with_reducible refine P2.out.mono ?_
 rintro e y3 ⟨v3,rfl,hR3⟩;replace hB:=HD (hB.out.step hR3);clear hR3 P2
 go_wp2_with fail
 refine hK.out _ _ ?_ ?_
 ·(try dsimp only);exact hB.out.s2
 clear hK K9 hHeld;intro hHeld
 try simp only[nA]
 refine tk (i:=7) (oi:=⟨some 4,.assign (.tmp 11),36,"put.go:43",#[⟨6,.data⟩,⟨6,.chain⟩,⟨0,.phase⟩,⟨1,.phase⟩,⟨2,.phase⟩,⟨3,.phase⟩,⟨4,.phase⟩,⟨5,.phase⟩,⟨6,.phase⟩],none⟩) (hy:=by intro w hSw;(try dsimp only at hSw);obtain⟨s0,s1⟩:=hSw;go_simp <;> with_reducible rfl) ?_
 try simp only[nA]
 refine wpAnyH_done (by kernel_rfl) ?_ _
 go_wp2
 go_ret;have hf:=hB.out.wr;rw[List.append_assoc] at hf;exact⟨_,rfl,hf⟩
set_option maxHeartbeats 16000000 in
theorem pmet_c {wu w:World} {base:Nat} {v lv cv:Value} {L:List Int} {B:List (Int × Int)} {C:List Int} (ar tm:Int) (hq:wu.heap.size≤base) (hu:PrV wu lv B) (hC:ByV wu cv C) (hC0:0 < C.length) (hbu:Below wu.heap.size wu w) (h:RB w base 5 v (bys L)) (hb:base≤w.heap.size) (hl:L.length+(mtB ⟨ar,tm,B,C⟩).length≤800000000) :
  Calls Tryz.prog 36 #[v,.agg #[.int .i64 ar,.int .i64 tm,lv,cv]] w fun e w'=>∃ v',e=.returned v'∧Wr base w w' v v' (L++mtB ⟨ar,tm,B,C⟩):=by
 obtain⟨i0,hi0,hz0,hz1,hz2⟩:=info_parts infoB8;have hmx:2000000000≤maxLen:=by decide
 obtain⟨l2,m2,rfl,_,_⟩:=hu.form;obtain⟨l3,m3,rfl,_,_⟩:=hC.form;obtain⟨g,off,rfl⟩:=hC.some hC0;have hB:=HD (BX.born h hb 63 [.int .i64 ar,.int .i64 tm,.slice l2 B.length m2,.slice (some ⟨g,off,none⟩) C.length m3] #[.int .i64 ar,.int .i64 tm,.slice l2 B.length m2,.slice (some ⟨g,off,none⟩) C.length m3] rfl);have hlt0:=HD (fun k hk=>(h.lt k hk).1);have hln:L.length+4+4+(rowP B).length+4+C.length≤800000000:=by
  unfold mtB at hl;simp only[List.length_append,b4_len] at hl;omega
 have hcl:mtB ⟨ar,tm,B,C⟩=b4 ar++b4 tm++rowP B++(b4 C.length++C):=rfl;rw[hcl];replace hu:=HD hu;replace hC:=HD hC;replace hbu:=HD hbu;clear h hl hcl;go_enter Tryz.func36,Tryz.ntmps36;obtain⟨s0,s1,s2,s3⟩:=hB.out.s4;have P:=HD (pnum_c hB.out.wr.rb hB.out.hb (by omega) ar)
 go_upto_region 2 with (first | (go_at_call 39;((with_reducible refine P.out.mono ?_);rintro e1 w2 ⟨v2,rfl,hw2⟩)))
 replace hB:=HD (hB.out.step hw2);clear P hw2 s0 s1 s2 s3;obtain⟨s0,s1,s2,s3⟩:=hB.out.s4;have P:=HD (pnum_c hB.out.wr.rb hB.out.hb (by simp only[List.length_append,b4_len];omega) tm)
 go_upto_region 3 with (first | (go_at_call 39;((with_reducible refine P.out.mono ?_);rintro e1 w3 ⟨v3,rfl,hw3⟩)))
 replace hB:=HD (hB.out.step hw3);clear P hw3 s0 s1 s2 s3;obtain⟨s0,s1,s2,s3⟩:=hB.out.s4;have P:=HD (prowv_c hq hu.out (wr_bel hB.out.wr.cg hlt0.out hq hbu.out) hB.out.wr.rb hB.out.hb (by rw[← rowP_eq];simp only[List.length_append,b4_len];omega))
 go_upto_region 4 with (first | (go_at_call 66;((with_reducible refine P.out.mono ?_);rintro e1 y4 ⟨v4,rfl,hw4⟩)))
 replace hB:=HD (hB.out.step hw4);clear P hw4 s0 s1 s2 s3;replace hB:=HD hB.out.drew;rw[← rowP_eq] at hB;generalize w.heap.size=E at hB ⊢;refine wp_region_held_drew (S:=(fun y=>y.cell? ⟨E,3,none⟩=some (.slice (some ⟨g,off,none⟩) C.length m3))) (by kernel_rfl) ?_ (fun hHeld=>?_)
 ·(try dsimp only);exact hB.out.s4.2.2.2
 try simp only[nA]
 generalize y4.drew=y5 at *;have P1:=HD (pnum_c hB.out.wr.rb hB.out.hb (by simp only[List.length_append,b4_len];omega) (C.length:Int));refine tk (i:=0) (oi:=⟨some 17,.move (.tmp 0),36,"put.go:39",#[],none⟩) ?_
 try simp only[nA]
 refine tk (i:=1) (oi:=⟨some 18,.fieldAddr 63 (.tmp 3) 3,0,"put.go:39",#[],none⟩) ?_
 try simp only[nA]
 refine tk (i:=2) (oi:=⟨some 19,.load 36 (.tmp 18),36,"put.go:39",#[⟨1,.data⟩],none⟩) ?_
 try simp only[nA]
 refine tk (i:=3) (oi:=⟨some 20,.call { callee:=.builtin .len,args:=#[.tmp 19],argTypes:=#[36] },3,"put.go:39",#[⟨2,.data⟩],none⟩) ?_
 try simp only[nA]
 refine tk (i:=5) (oi:=⟨some 22,.fieldAddr 63 (.tmp 3) 3,0,"put.go:39",#[],none⟩) ?_
 try simp only[nA]
 refine tk (i:=6) (oi:=⟨some 23,.load 36 (.tmp 22),36,"put.go:39",#[⟨5,.data⟩],none⟩) ?_
 try simp only[nA]
 refine wpAnyH_ready (rs:=[4]) (by kernel_rfl) (by simp) ?_;refine AllReadyH.cons (o:=⟨some 21,.call { callee:=.value (.func 39),args:=#[.tmp 17,.tmp 20],argTypes:=#[36,3] },36,"put.go:39",#[⟨0,.data⟩,⟨3,.data⟩],none⟩) rfl (fun K9 hK=>?_) AllReadyH.nil;go_simp
 with_reducible refine P1.out.mono ?_
 rintro e y6 ⟨v6,rfl,hR6⟩;replace hB:=HD (hB.out.step hR6);clear hR6 P1
 go_wp2_with fail
 refine hK.out _ _ ?_ ?_
 ·(try dsimp only);exact hB.out.s4.2.2.2
 clear hK K9 hHeld;intro hHeld
 try simp only[nA]
 refine wpAnyH_ready (rs:=[7]) (by kernel_rfl) (by simp) ?_;refine AllReadyH.cons (o:=⟨some 24,.call { callee:=.builtin .append,args:=#[.tmp 21,.tmp 23],argTypes:=#[36,36] },36,"put.go:39",#[⟨4,.data⟩,⟨6,.data⟩,⟨4,.chain⟩],none⟩) rfl (fun K9 hK=>?_) AllReadyH.nil;refine step_app_rb rfl (.tmp 21) (.tmp 23) 36 rfl base 5 i0 (.int .u8 0) Tryz.underlying36 hi0 hz0 hz1 hz2 rfl v6 (bys _) rfl hB.out.wr.rb ⟨g,off,none⟩ C.length m3 (bys C) rfl (bys_ln C) ((hC.out.up (wr_bel hB.out.wr.cg hlt0.out hq hbu.out)).news) (bys_one _) (by rw[bys_ln];simp only[List.length_append,b4_len];omega) (by rw[bys_ln];simp only[List.length_append,b4_len];omega) hB.out.hb ?_;intro v7 y7 hown7 hgrow7 hat7;replace hB:=HD (hB.out.step (Wr.of_app hown7 hgrow7 hat7));clear hown7 hgrow7 hat7;refine hK.out _ _ ?_ ?_
 ·(try dsimp only);exact hB.out.s4.2.2.2
 clear hK K9 hHeld;intro hHeld
 try simp only[nA]
 refine tk (i:=8) (oi:=⟨some 4,.assign (.tmp 24),36,"put.go:39",#[⟨7,.data⟩,⟨7,.chain⟩,⟨0,.phase⟩,⟨1,.phase⟩,⟨2,.phase⟩,⟨3,.phase⟩,⟨4,.phase⟩,⟨5,.phase⟩,⟨6,.phase⟩,⟨7,.phase⟩],none⟩) ?_
 try simp only[nA]
 refine wpAnyH_done (by kernel_rfl) ?_ _
 go_wp2
 go_ret;have hf:=hB.out.wr;refine⟨_,rfl,?_⟩;simp only[List.append_assoc] at hf ⊢;exact hf
set_option maxHeartbeats 16000000 in
theorem prows_c {wu w:World} {base:Nat} {v u:Value} {L:List Int} {V:List ByteArray} (hq:wu.heap.size≤base) (hu:NmV wu u V) (hbu:Below wu.heap.size wu w) (h:RB w base 5 v (bys L)) (hb:base≤w.heap.size) (hl:L.length+(rowB txt V).length≤800000000) :
  Calls Tryz.prog 31 #[v,u,.func (.func 32) #[] #[]] w fun e w'=>∃ v',e=.returned v'∧Wr base w w' v v' (L++rowB txt V):=by
 obtain⟨ad,cap,rfl,hcap,hmx⟩:=hu.form;rw[rowB_fl] at hl ⊢;rw[List.length_append,b4_len] at hl;have hat:=HD (fun k x (hx:V[k]?=some x)=>fl_at (f:=txt) hx);obtain⟨n,hn⟩:∃ n,n=V.length:=⟨_,rfl⟩
 rw[← hn] at hu hcap ⊢;have hn64:n≤maxLen:=by omega
 have hmx':maxLen≤9223372036854775807:=by decide
 replace hu:=HD hu;have hn':=HD hn;replace hbu:=HD hbu;replace h:=HD h;have hlt0:=HD (fun k hk=>(h.out.lt k hk).1);clear hmx hn;go_enter Tryz.func31,Tryz.ntmps31
 go_wp2_with fail
 with_reducible refine (pnum_c h.out hb (by omega) _).mono ?_
 rintro e w1 ⟨v1,rfl,h1⟩;replace h1:=HD h1
 go_wp2
 have hst:Hid (Wr base w w1 v v1 (L++b4 n++fl txt (V.take 0))):=HD (by simpa [fl] using h1.out)
 go_loopw [0,15] (fun i0 i15 wr=>∃ (k:Nat),k≤n∧i15=.int .i64 k∧Hid (Wr base w wr v i0 (L++b4 n++fl txt (V.take k)))) (fun _ i15 _=>n - (intOf i15).toNat)
 case atStart=>exact⟨0,by omega,rfl,hst⟩
 case round =>
  clear hst h1;obtain⟨k,hk,rfl,hR⟩:=hrel;by_cases hlt:k < n
  ·have d1:decide ((k:Int) < (n:Int))=true:=by simp;omega
   have p0:(0:Int)≤(k:Int):=by omega
   have p1:(k:Int) < (n:Int):=by omega
   obtain⟨x,hx⟩:∃ x,V[k]?=some x:=⟨V[k]'(by have:=hn'.out;omega),by simp⟩
   have hbr:=wr_bel hR.out.cg hlt0.out hq hbu.out;obtain⟨g,off,rfl,c0⟩:=(hu.out.up hbr).at hx;have hle:(fl txt (V.take k)).length+(txt x).length≤(fl txt V).length:=hat.out k x hx;have hlen:(L++b4 ↑n++fl txt (V.take k)).length+(txt x).length≤800000000:=by rw[List.length_append,List.length_append,b4_len];omega
   have hnx:=HD (fl_next (f:=txt) hx);have hsz:=hR.out.cg.size;clear hx hle;have P:=HD (ptext_c hR.out.rb (by omega) x (by rw[txt_len] at hlen;omega));clear hbr
   go_wp2_with (first | (go_at_call 32;((with_reducible refine P.out.mono ?_);rintro e1 w2 ⟨v2,rfl,hw2⟩)))
   have hf:=hR.out.trans hw2;rw[List.append_assoc,← hnx.out] at hf;replace hf:=HD hf;clear hw2 P
   go_roundw
   case rel=>exact⟨k+1,by omega,by go_num,hf⟩
   case measure=>simp[intOf];omega
  ·have d1:decide ((k:Int) < (n:Int))=false:=by simp;omega
   have hf:=hR.out;rw[show k=V.length by have:=hn'.out;omega,List.take_length,List.append_assoc] at hf;replace hf:=HD hf
   go_wp2
   go_ret;exact⟨_,rfl,hf.out⟩
set_option maxHeartbeats 16000000 in
theorem prowc_c {wu w:World} {base:Nat} {v u:Value} {L:List Int} {V:List ClassA} (hq:wu.heap.size≤base) (hu:ClV wu u V) (hbu:Below wu.heap.size wu w) (h:RB w base 5 v (bys L)) (hb:base≤w.heap.size) (hl:L.length+(rowB clB V).length≤800000000) :
  Calls Tryz.prog 33 #[v,u,.func (.func 34) #[] #[]] w fun e w'=>∃ v',e=.returned v'∧Wr base w w' v v' (L++rowB clB V):=by
 obtain⟨ad,cap,rfl,hcap,hmx⟩:=hu.form;rw[rowB_fl] at hl ⊢;rw[List.length_append,b4_len] at hl;have hat:=HD (fun k x (hx:V[k]?=some x)=>fl_at (f:=clB) hx);obtain⟨n,hn⟩:∃ n,n=V.length:=⟨_,rfl⟩
 rw[← hn] at hu hcap ⊢;have hn64:n≤maxLen:=by omega
 have hmx':maxLen≤9223372036854775807:=by decide
 replace hu:=HD hu;have hn':=HD hn;replace hbu:=HD hbu;replace h:=HD h;have hlt0:=HD (fun k hk=>(h.out.lt k hk).1);clear hmx hn;go_enter Tryz.func33,Tryz.ntmps33
 go_wp2_with fail
 with_reducible refine (pnum_c h.out hb (by omega) _).mono ?_
 rintro e w1 ⟨v1,rfl,h1⟩;replace h1:=HD h1
 go_wp2
 have hst:Hid (Wr base w w1 v v1 (L++b4 n++fl clB (V.take 0))):=HD (by simpa [fl] using h1.out)
 go_loopw [0,15] (fun i0 i15 wr=>∃ (k:Nat),k≤n∧i15=.int .i64 k∧Hid (Wr base w wr v i0 (L++b4 n++fl clB (V.take k)))) (fun _ i15 _=>n - (intOf i15).toNat)
 case atStart=>exact⟨0,by omega,rfl,hst⟩
 case round =>
  clear hst h1;obtain⟨k,hk,rfl,hR⟩:=hrel;by_cases hlt:k < n
  ·have d1:decide ((k:Int) < (n:Int))=true:=by simp;omega
   have p0:(0:Int)≤(k:Int):=by omega
   have p1:(k:Int) < (n:Int):=by omega
   obtain⟨x,hx⟩:∃ x,V[k]?=some x:=⟨V[k]'(by have:=hn'.out;omega),by simp⟩
   have hbr:=wr_bel hR.out.cg hlt0.out hq hbu.out;obtain⟨g,off,l1,m1,rfl,c0,c1,c2,c3,pv⟩:=hu.out.two hbr hx;replace pv:=HD pv;have hle:(fl clB (V.take k)).length+(clB x).length≤(fl clB V).length:=hat.out k x hx;have hlen:(L++b4 ↑n++fl clB (V.take k)).length+(clB x).length≤800000000:=by rw[List.length_append,List.length_append,b4_len];omega
   have hnx:=HD (fl_next (f:=clB) hx);have hsz:=hR.out.cg.size;clear hx hle;have hR0:=HD (hR.out.app (.cells #[.string x.nm,.int .i64 x.super,.int .i64 x.fields,.slice l1 x.binds.length m1] 60));have hbs:base≤(wr.alloc (.cells #[.string x.nm,.int .i64 x.super,.int .i64 x.fields,.slice l1 x.binds.length m1] 60)).heap.size:=by simp only[World.size_alloc];omega
   have P:=HD (pcls_c x.nm x.super x.fields hq pv.out (hbr.trans (((Below.refl wr.heap.size wr).alloc (Nat.le_refl _) (.cells #[.string x.nm,.int .i64 x.super,.int .i64 x.fields,.slice l1 x.binds.length m1] 60)).mono hbr.size)) hR0.out.rb hbs (by omega));clear hbr
   go_wp2_with (first | (go_at_call 34;((with_reducible refine P.out.mono ?_);rintro e1 w2 ⟨v2,rfl,hw2⟩)))
   have hf:=hR0.out.trans hw2;rw[List.append_assoc,← hnx.out] at hf;replace hf:=HD hf;clear hw2 P
   go_roundw
   case rel=>exact⟨k+1,by omega,by go_num,hf⟩
   case measure=>simp[intOf];omega
  ·have d1:decide ((k:Int) < (n:Int))=false:=by simp;omega
   have hf:=hR.out;rw[show k=V.length by have:=hn'.out;omega,List.take_length,List.append_assoc] at hf;replace hf:=HD hf
   go_wp2
   go_ret;exact⟨_,rfl,hf.out⟩
set_option maxHeartbeats 16000000 in
theorem prowo_c {wu w:World} {base:Nat} {v u:Value} {L:List Int} {V:List ObjA} (hq:wu.heap.size≤base) (hu:ObV wu u V) (hbu:Below wu.heap.size wu w) (h:RB w base 5 v (bys L)) (hb:base≤w.heap.size) (hl:L.length+(rowB obB V).length≤800000000) :
  Calls Tryz.prog 37 #[v,u,.func (.func 38) #[] #[]] w fun e w'=>∃ v',e=.returned v'∧Wr base w w' v v' (L++rowB obB V):=by
 obtain⟨ad,cap,rfl,hcap,hmx⟩:=hu.form;rw[rowB_fl] at hl ⊢;rw[List.length_append,b4_len] at hl;have hat:=HD (fun k x (hx:V[k]?=some x)=>fl_at (f:=obB) hx);obtain⟨n,hn⟩:∃ n,n=V.length:=⟨_,rfl⟩
 rw[← hn] at hu hcap ⊢;have hn64:n≤maxLen:=by omega
 have hmx':maxLen≤9223372036854775807:=by decide
 replace hu:=HD hu;have hn':=HD hn;replace hbu:=HD hbu;replace h:=HD h;have hlt0:=HD (fun k hk=>(h.out.lt k hk).1);clear hmx hn;go_enter Tryz.func37,Tryz.ntmps37
 go_wp2_with fail
 with_reducible refine (pnum_c h.out hb (by omega) _).mono ?_
 rintro e w1 ⟨v1,rfl,h1⟩;replace h1:=HD h1
 go_wp2
 have hst:Hid (Wr base w w1 v v1 (L++b4 n++fl obB (V.take 0))):=HD (by simpa [fl] using h1.out)
 go_loopw [0,15] (fun i0 i15 wr=>∃ (k:Nat),k≤n∧i15=.int .i64 k∧Hid (Wr base w wr v i0 (L++b4 n++fl obB (V.take k)))) (fun _ i15 _=>n - (intOf i15).toNat)
 case atStart=>exact⟨0,by omega,rfl,hst⟩
 case round =>
  clear hst h1;obtain⟨k,hk,rfl,hR⟩:=hrel;by_cases hlt:k < n
  ·have d1:decide ((k:Int) < (n:Int))=true:=by simp;omega
   have p0:(0:Int)≤(k:Int):=by omega
   have p1:(k:Int) < (n:Int):=by omega
   obtain⟨x,hx⟩:∃ x,V[k]?=some x:=⟨V[k]'(by have:=hn'.out;omega),by simp⟩
   have hbr:=wr_bel hR.out.cg hlt0.out hq hbu.out;obtain⟨g,off,l1,m1,rfl,c0,c1,pv⟩:=hu.out.two hbr hx;replace pv:=HD pv;have hle:(fl obB (V.take k)).length+(obB x).length≤(fl obB V).length:=hat.out k x hx;have hlen:(L++b4 ↑n++fl obB (V.take k)).length+(obB x).length≤800000000:=by rw[List.length_append,List.length_append,b4_len];omega
   have hnx:=HD (fl_next (f:=obB) hx);have hsz:=hR.out.cg.size;clear hx hle;have hR0:=HD (hR.out.app (.cells #[.int .i64 x.cls,.slice l1 x.flds.length m1] 55));have hbs:base≤(wr.alloc (.cells #[.int .i64 x.cls,.slice l1 x.flds.length m1] 55)).heap.size:=by simp only[World.size_alloc];omega
   have P:=HD (pobj_c x.cls hq pv.out (hbr.trans (((Below.refl wr.heap.size wr).alloc (Nat.le_refl _) (.cells #[.int .i64 x.cls,.slice l1 x.flds.length m1] 55)).mono hbr.size)) hR0.out.rb hbs (by omega));clear hbr
   go_wp2_with (first | (go_at_call 38;((with_reducible refine P.out.mono ?_);rintro e1 w2 ⟨v2,rfl,hw2⟩)))
   have hf:=hR0.out.trans hw2;rw[List.append_assoc,← hnx.out] at hf;replace hf:=HD hf;clear hw2 P
   go_roundw
   case rel=>exact⟨k+1,by omega,by go_num,hf⟩
   case measure=>simp[intOf];omega
  ·have d1:decide ((k:Int) < (n:Int))=false:=by simp;omega
   have hf:=hR.out;rw[show k=V.length by have:=hn'.out;omega,List.take_length,List.append_assoc] at hf;replace hf:=HD hf
   go_wp2
   go_ret;exact⟨_,rfl,hf.out⟩
set_option maxHeartbeats 16000000 in
theorem prowm_c {wu w:World} {base:Nat} {v u:Value} {L:List Int} {V:List MethA} (hq:wu.heap.size≤base) (hu:MtV wu u V) (hbu:Below wu.heap.size wu w) (h:RB w base 5 v (bys L)) (hb:base≤w.heap.size) (h0:∀ x∈V,0 < x.code.length) (hl:L.length+(rowB mtB V).length≤800000000) :
  Calls Tryz.prog 35 #[v,u,.func (.func 36) #[] #[]] w fun e w'=>∃ v',e=.returned v'∧Wr base w w' v v' (L++rowB mtB V):=by
 obtain⟨ad,cap,rfl,hcap,hmx⟩:=hu.form;rw[rowB_fl] at hl ⊢;rw[List.length_append,b4_len] at hl;replace h0:=HD h0;have hat:=HD (fun k x (hx:V[k]?=some x)=>fl_at (f:=mtB) hx);obtain⟨n,hn⟩:∃ n,n=V.length:=⟨_,rfl⟩
 rw[← hn] at hu hcap ⊢;have hn64:n≤maxLen:=by omega
 have hmx':maxLen≤9223372036854775807:=by decide
 replace hu:=HD hu;have hn':=HD hn;replace hbu:=HD hbu;replace h:=HD h;have hlt0:=HD (fun k hk=>(h.out.lt k hk).1);clear hmx hn;go_enter Tryz.func35,Tryz.ntmps35
 go_wp2_with fail
 with_reducible refine (pnum_c h.out hb (by omega) _).mono ?_
 rintro e w1 ⟨v1,rfl,h1⟩;replace h1:=HD h1
 go_wp2
 have hst:Hid (Wr base w w1 v v1 (L++b4 n++fl mtB (V.take 0))):=HD (by simpa [fl] using h1.out)
 go_loopw [0,15] (fun i0 i15 wr=>∃ (k:Nat),k≤n∧i15=.int .i64 k∧Hid (Wr base w wr v i0 (L++b4 n++fl mtB (V.take k)))) (fun _ i15 _=>n - (intOf i15).toNat)
 case atStart=>exact⟨0,by omega,rfl,hst⟩
 case round =>
  clear hst h1;obtain⟨k,hk,rfl,hR⟩:=hrel;by_cases hlt:k < n
  ·have d1:decide ((k:Int) < (n:Int))=true:=by simp;omega
   have p0:(0:Int)≤(k:Int):=by omega
   have p1:(k:Int) < (n:Int):=by omega
   obtain⟨x,hx⟩:∃ x,V[k]?=some x:=⟨V[k]'(by have:=hn'.out;omega),by simp⟩
   have hbr:=wr_bel hR.out.cg hlt0.out hq hbu.out;obtain⟨g,off,l1,m1,l2,m2,rfl,c0,c1,c2,c3,pv,pw⟩:=hu.out.two hbr hx;replace pv:=HD pv;replace pw:=HD pw;have hx0:=h0.out x (List.mem_of_getElem? hx);have hle:(fl mtB (V.take k)).length+(mtB x).length≤(fl mtB V).length:=hat.out k x hx;have hlen:(L++b4 ↑n++fl mtB (V.take k)).length+(mtB x).length≤800000000:=by rw[List.length_append,List.length_append,b4_len];omega
   have hnx:=HD (fl_next (f:=mtB) hx);have hsz:=hR.out.cg.size;clear hx hle;have hR0:=HD (hR.out.app (.cells #[.int .i64 x.args,.int .i64 x.temps,.slice l1 x.lits.length m1,.slice l2 x.code.length m2] 63));have hbs:base≤(wr.alloc (.cells #[.int .i64 x.args,.int .i64 x.temps,.slice l1 x.lits.length m1,.slice l2 x.code.length m2] 63)).heap.size:=by simp only[World.size_alloc];omega
   have P:=HD (pmet_c x.args x.temps hq pv.out pw.out hx0 (hbr.trans (((Below.refl wr.heap.size wr).alloc (Nat.le_refl _) (.cells #[.int .i64 x.args,.int .i64 x.temps,.slice l1 x.lits.length m1,.slice l2 x.code.length m2] 63)).mono hbr.size)) hR0.out.rb hbs (by omega));clear hbr
   go_wp2_with (first | (go_at_call 36;((with_reducible refine P.out.mono ?_);rintro e1 w2 ⟨v2,rfl,hw2⟩)))
   have hf:=hR0.out.trans hw2;rw[List.append_assoc,← hnx.out] at hf;replace hf:=HD hf;clear hw2 P
   go_roundw
   case rel=>exact⟨k+1,by omega,by go_num,hf⟩
   case measure=>simp[intOf];omega
  ·have d1:decide ((k:Int) < (n:Int))=false:=by simp;omega
   have hf:=hR.out;rw[show k=V.length by have:=hn'.out;omega,List.take_length,List.append_assoc] at hf;replace hf:=HD hf
   go_wp2
   go_ret;exact⟨_,rfl,hf.out⟩
theorem uisOne_c (x n:Int) (w:World):Calls Tryz.prog 63 #[.int .i64 x,.int .i64 n] w fun e w'=>e=.returned (.bool (decide (0≤x) && decide (x < n)))∧w'=w:=by
 by_cases h:0≤x
 ·have d1:decide (x ≥ 0)=true:=by simpa using h
  rw[decide_eq_true h];go_enter Tryz.func63,Tryz.ntmps63
  go_wp2
  go_ret;exact⟨rfl,rfl⟩
 ·have d1:decide (x ≥ 0)=false:=by simpa using h
  rw[decide_eq_false h];go_enter Tryz.func63,Tryz.ntmps63
  go_wp2
  go_ret;exact⟨rfl,rfl⟩
set_option maxHeartbeats 8000000 in
theorem uval_c (kx x:Int) (no:Nat) (w:World):Calls Tryz.prog 117 #[.agg #[.int .i64 kx,.int .i64 x],.int .i64 (no:Int)] w fun e w'=>e=.returned (.bool (fldOk (kx,x) no))∧Below w.heap.size w w':=by
 have hB:=HD ((Below.refl w.heap.size w).alloc (Nat.le_refl _) (.cells #[.int .i64 kx,.int .i64 x] 68));by_cases k012:kx=0∨kx=1∨kx=2
 ·have ef:=HD (fld_012 (x:=x) no k012);generalize fldOk (kx,x) no=r at *;rcases k012 with rfl | rfl | rfl <;> (
   go_enter Tryz.func117,Tryz.ntmps117
   go_wp2
   go_ret;exact⟨congrArg (fun b=>Ending.returned (Value.bool b)) ef.out.symm,hB.out⟩)
 by_cases k3:kx=3
 ·subst k3;clear k012;have ef:=HD (fld_3 x no);generalize fldOk (3,x) no=r at *;unfold num30 at ef;by_cases h:-1073741824≤x
  ·have d1:decide (x ≥ -1073741824)=true:=by simpa using h
   rw[decide_eq_true h,Bool.true_and] at ef;go_enter Tryz.func117,Tryz.ntmps117
   go_wp2
   go_ret;exact⟨congrArg (fun b=>Ending.returned (Value.bool b)) ef.out.symm,hB.out⟩
  ·have d1:decide (x ≥ -1073741824)=false:=by simpa using h
   rw[decide_eq_false h,Bool.false_and] at ef;go_enter Tryz.func117,Tryz.ntmps117
   go_wp2
   go_ret;exact⟨congrArg (fun b=>Ending.returned (Value.bool b)) ef.out.symm,hB.out⟩
 by_cases k4:kx=4
 ·subst k4;clear k012 k3;have ef:=HD (fld_4 x no);generalize fldOk (4,x) no=r at *;unfold inN at ef;have PI:=HD (uisOne_c x (no:Int));go_enter Tryz.func117,Tryz.ntmps117
  go_wp2_with (first | (go_at_call 63;((with_reducible refine (PI.out _).mono ?_);rintro e1 w2 ⟨rfl,hw2⟩;subst w2)))
  go_ret;exact⟨congrArg (fun b=>Ending.returned (Value.bool b)) ef.out.symm,hB.out⟩
 have ef:=HD (fld_no (x:=x) no k012 k3 k4);have f0:(kx == 0)=false:=by rw[beq_eq_false_iff_ne];exact fun h=>k012 (Or.inl h)
 have f1:(kx == 1)=false:=by rw[beq_eq_false_iff_ne];exact fun h=>k012 (Or.inr (Or.inl h))
 have f2:(kx == 2)=false:=by rw[beq_eq_false_iff_ne];exact fun h=>k012 (Or.inr (Or.inr h))
 have f3:(kx == 3)=false:=by simpa using k3
 have f4:(kx == 4)=false:=by simpa using k4
 generalize fldOk (kx,x) no=r at *;clear k012 k3 k4;go_enter Tryz.func117,Tryz.ntmps117
 go_wp2
 go_ret;exact⟨congrArg (fun b=>Ending.returned (Value.bool b)) ef.out.symm,hB.out⟩
set_option maxHeartbeats 8000000 in
theorem ufields_c {w:World} {v:Value} {L:List (Int × Int)} (h:PrV w v L) (no:Nat):Calls Tryz.prog 95 #[v,.int .i64 (no:Int)] w fun e w'=>e=.returned (.bool (L.all (fldOk · no)))∧Below w.heap.size w w':=by
 obtain⟨ad,cap,rfl,hc1,hc2⟩:=h.form;have hle:=len_le (Nat.le_trans hc1 hc2);obtain⟨n,hn⟩:∃ n,n=L.length:=⟨_,rfl⟩
 have hn':=HD hn;rw[← hn] at h hle ⊢;replace h:=HD h;have hst:=HD (FdR.start L no);clear hn hc1 hc2;go_enter Tryz.func95,Tryz.ntmps95
 go_wp2
 go_loopw [9] (fun i9 wr=>∃ (j:Nat),j≤n∧i9=.int .i64 j∧Hid (FdR L no j)∧Hid (Below w.heap.size w wr)) (fun i9 _=>n - (intOf i9).toNat)
 case atStart=>exact⟨0,by omega,rfl,hst,HD (Below.refl _ _)⟩
 case round =>
  clear hst;obtain⟨j,hj,rfl,hR,hB⟩:=hrel;by_cases hlt:j < n
  ·have hlt':decide ((j:Int) < (n:Int))=true:=by simp;omega
   have p0:(0:Int)≤(j:Int):=by omega
   have p1:(j:Int) < (n:Int):=by omega
   obtain⟨⟨kx,x⟩,hx⟩:∃ x,L[j]?=some x:=⟨L[j]'(by have:=hn'.out;omega),by simp⟩
   obtain⟨_,_,g,off,rfl,c0,c1⟩:=PrV.at (h.out.up hB.out) hx;simp only at c0 c1;have hx':=HD hx;have hB2:=HD (hB.out.alloc hB.out.size (.cells #[.int .i64 kx,.int .i64 x] 68));have PV:=HD (uval_c kx x no);clear hx hlt;cases hv:fldOk (kx,x) no with
   | true =>
    have hR':=HD (hR.out.step hx'.out hv);rw[hv] at PV;clear hv
    go_wp2_with (first | (go_at_call 117;((with_reducible refine (PV.out _).mono ?_);rintro e1 w2 ⟨rfl,hb⟩)))
    go_roundw
    case rel=>exact⟨j+1,by omega,by go_num,hR',HD (hB2.out.trans (hb.mono hB2.out.size))⟩
    case measure=>simp[intOf];omega
   | false =>
    have e:=HD (fd_bad hx'.out hv);rw[hv] at PV;clear hv
    go_wp2_with (first | (go_at_call 117;((with_reducible refine (PV.out _).mono ?_);rintro e1 w2 ⟨rfl,hb⟩)))
    go_ret;exact⟨congrArg (fun b=>Ending.returned (Value.bool b)) e.out.symm,hB2.out.trans (hb.mono hB2.out.size)⟩
  ·have e:Hid (L.all (fldOk · no)=true):=HD (FdR.last (by have:=hR.out;rw[show j=L.length by have:=hn'.out;omega] at this;exact this));have hlt':decide ((j:Int) < (n:Int))=false:=by simp;omega
   go_wp2
   go_ret;exact⟨congrArg (fun b=>Ending.returned (Value.bool b)) e.out.symm,hB.out⟩
theorem slib_c (s:ByteArray) (c:Int) (w:World) :
  Calls Tryz.prog 138 #[.string s,.int .u8 c] w fun e w'=>e=.returned (.int .i64 (Lib.indexByte s.data.toList c.toNat.toUInt8))∧w'=w:=by
 go_enter Tryz.func138,Tryz.ntmps138
 go_wp2
 rw[run_callFunc_extern Tryz.func140 (by kernel_rfl) (by kernel_rfl) (by kernel_rfl) (e:=Extern.BytealgIndexByte.indexByte) (by kernel_rfl),Lib.run_indexByteString];simp only[Result.andThen];rw[Oper.upon_value]
 go_wp2
 go_ret;exact⟨rfl,rfl⟩
theorem sib_c (s:ByteArray) (c:Int) (w:World) :
  Calls Tryz.prog 128 #[.string s,.int .u8 c] w fun e w'=>e=.returned (.int .i64 (Lib.indexByte s.data.toList c.toNat.toUInt8))∧w'=w:=by
 have P:=slib_c s c w;go_enter Tryz.func128,Tryz.ntmps128
 go_wp2_with fail
 refine P.mono ?_;rintro e w1 ⟨rfl,hw⟩;subst w1;clear P
 go_wp2
 go_ret;exact⟨rfl,rfl⟩
def sgnB:ByteArray:=⟨#[43,45,42,47,60,62,61,126,38,124,37]⟩
def sgB (x:UInt8):Bool:=inR x.toNat sgnB
def ltB (x:UInt8):Bool:=letterR x.toNat
def dgB (x:UInt8):Bool:=decide (48≤x.toNat∧x.toNat≤57)
def okB (x:UInt8):Bool:=ltB x || dgB x || decide (x.toNat=58)
theorem index_in (l:List UInt8) (x:UInt8):decide (0≤Lib.indexByte l x)=l.any fun y=>y.toNat == x.toNat:=by
 have hge:=Lib.indexByte_ge l x;by_cases h:0≤Lib.indexByte l x
 ·obtain⟨o,ho⟩:∃ o:Nat,Lib.indexByte l x=o:=⟨(Lib.indexByte l x).toNat,by omega⟩
  rw[decide_eq_true h];have:=(Lib.indexByte_some ho).1;exact (List.any_eq_true.2 ⟨x,List.mem_of_getElem? this,by simp⟩).symm
 ·have h1:Lib.indexByte l x=-1:=by omega
  rw[decide_eq_false h]
  symm
  rw[List.any_eq_false];intro y hy;have e:¬ y=x:=by
   rintro rfl;obtain⟨k,hk⟩:=List.getElem?_of_mem hy;exact Lib.indexByte_none h1 k hk
  intro h2;exact e (UInt8.toNat_inj.1 (by simpa using h2))
theorem sign_c (x:UInt8) (w:World) :
  Calls Tryz.prog 120 #[.int .u8 (x.toNat:Nat)] w fun e w'=>e=.returned (.bool (sgB x))∧w'=w:=by
 have P:=sib_c ⟨#[43,45,42,47,60,62,61,126,38,124,37]⟩ (x.toNat:Nat) w;have hi:decide (0≤Lib.indexByte [43,45,42,47,60,62,61,126,38,124,37] x)=sgB x:=index_in _ x;rw[show ((x.toNat:Nat):Int).toNat.toUInt8=x by simp] at P;change Calls _ _ _ _ (fun e w'=>e=.returned (.int .i64 (Lib.indexByte [43,45,42,47,60,62,61,126,38,124,37] x))∧w'=w) at P;generalize Lib.indexByte [43,45,42,47,60,62,61,126,38,124,37] x=i at *;generalize sgB x=b at *;generalize ((x.toNat:Nat):Int)=xi at *;go_enter Tryz.func120,Tryz.ntmps120
 go_wp2_with fail
 refine P.mono ?_;rintro e w1 ⟨rfl,hw⟩;subst w1;clear P
 go_wp2
 go_ret;exact⟨rfl,rfl⟩
theorem let_c (x:UInt8) (w:World) :
  Calls Tryz.prog 118 #[.int .u8 (x.toNat:Nat)] w fun e w'=>e=.returned (.bool (ltB x))∧w'=w:=by
 unfold ltB letterR;generalize x.toNat=c;by_cases h1:97≤c <;> by_cases h2:c≤122 <;> by_cases h3:65≤c <;> by_cases h4:c≤90 <;> (try omega) <;> (
  have h1':decide ((97:Int)≤(c:Int))=decide (97≤c):=by simp <;> omega
  have h2':decide ((c:Int)≤122)=decide (c≤122):=by simp <;> omega
  have h3':decide ((65:Int)≤(c:Int))=decide (65≤c):=by simp <;> omega
  have h4':decide ((c:Int)≤90)=decide (c≤90):=by simp <;> omega
  simp only[h1,h2,h3,h4] at *;go_enter Tryz.func118,Tryz.ntmps118
  go_wp2
  go_ret;exact⟨rfl,rfl⟩)
theorem dig_c (x:UInt8) (w:World) :
  Calls Tryz.prog 119 #[.int .u8 (x.toNat:Nat)] w fun e w'=>e=.returned (.bool (dgB x))∧w'=w:=by
 unfold dgB;generalize x.toNat=c;by_cases h1:48≤c <;> by_cases h2:c≤57 <;> (try omega) <;> (
  have h1':decide ((48:Int)≤(c:Int))=decide (48≤c):=by simp <;> omega
  have h2':decide ((c:Int)≤57)=decide (c≤57):=by simp <;> omega
  simp only[h1,h2] at *;go_enter Tryz.func119,Tryz.ntmps119
  go_wp2
  go_ret;exact⟨rfl,rfl⟩)
def AllB (p:UInt8→Bool) (b:ByteArray) (k:Nat):Prop:=∀ j,j < k→∀ x,b.data.toList[j]?=some x→p x=true
theorem AllB.start (p:UInt8→Bool) (b:ByteArray):AllB p b 0:=fun j hj=>by omega
section
variable {p:UInt8→Bool} {b:ByteArray} {k:Nat}
theorem AllB.step (h:AllB p b k) (hk:k < b.size) (e:p b[k]=true):AllB p b (k+1):=by
 intro j hj x hx;rcases (show j < k∨j=k by omega) with hj | rfl
 ·exact h j hj x hx
 ·rw[ba_at hk] at hx;cases hx;exact e
theorem AllB.last (h:AllB p b k) (hk:¬ k < b.size):b.data.toList.all p=true:=by
 rw[List.all_eq_true];intro x hx;obtain⟨j,hj⟩:=List.getElem?_of_mem hx;have hl:=(List.getElem?_eq_some_iff.1 hj).1;have hs:b.data.toList.length=b.size:=Array.length_toList;exact h j (by omega) x hj
theorem all_bad (hk:k < b.size) (e:p b[k]=false):b.data.toList.all p=false:=by
 rw[List.all_eq_false];exact⟨b[k],List.mem_of_getElem? (ba_at hk),by rw[e];decide⟩
end
def headB (p:UInt8→Bool) (b:ByteArray):Bool:=match b.data.toList with | []=>false | x :: _=>p x
theorem headB_eq {b:ByteArray} (p:UInt8→Bool) (h:0 < b.size):headB p b=p b[0]:=by
 have:=ba_at h;unfold headB;cases hL:b.data.toList with
 | nil=>rw[hL] at this;simp at this
 | cons x R=>rw[hL] at this;simp at this;simp[this]
def wordB (b:ByteArray):Bool:=headB ltB b && b.data.toList.all okB
def signsB (b:ByteArray):Bool:=b.data.toList.all sgB && decide (b.size≤2)
set_option maxHeartbeats 4000000 in
theorem word_c (b:ByteArray) (h1:1≤b.size) (h16:b.size≤16) (w:World) :
  Calls Tryz.prog 103 #[.string b] w fun e w'=>e=.returned (.bool (wordB b))∧w'=w:=by
 have hst:=HD (AllB.start okB b);have h0:0 < b.size:=h1;have P0:=HD (let_c b[0]);cases hl:ltB b[0] with
 | false =>
  have hr:Hid (wordB b=false):=HD (by unfold wordB;rw[headB_eq _ h0,hl,Bool.false_and]);rw[hl] at P0;clear hl hst;go_enter Tryz.func103,Tryz.ntmps103
  go_wp2_with (first | (go_at_call 118;((with_reducible refine (P0.out _).mono ?_);rintro e1 w2 ⟨rfl,hw2⟩;subst w2)))
  go_ret;exact⟨congrArg (fun b=>Ending.returned (Value.bool b)) hr.out.symm,rfl⟩
 | true =>
  have hhd:Hid (headB ltB b=true):=HD (by rw[headB_eq _ h0,hl]);rw[hl] at P0;clear hl;go_enter Tryz.func103,Tryz.ntmps103
  go_wp2_with (first | (go_at_call 118;((with_reducible refine (P0.out _).mono ?_);rintro e1 w2 ⟨rfl,hw2⟩;subst w2)))
  clear P0
  go_loopw [11] (fun i wr=>∃ (k:Nat),k≤b.size∧i=.int .i64 k∧Hid (AllB okB b k)∧wr=w) (fun i _=>b.size - (intOf i).toNat)
  case atStart=>exact⟨0,by omega,rfl,hst,rfl⟩
  case round =>
   obtain⟨k,hk,rfl,hA,rfl⟩:=hrel;by_cases h:k < b.size
   ·have h':(k:Int) < (b.size:Int):=by omega
    have PL:=HD (let_c b[k]);have PD:=HD (dig_c b[k]);by_cases hok:okB b[k]=true
    ·have hA':=HD (hA.out.step h hok);unfold okB at hok;cases hl:ltB b[k] with
     | true =>
      rw[hl] at PL;clear hok hl
      go_wp2_with (first | (go_at_call 118;((with_reducible refine (PL.out _).mono ?_);rintro e1 w2 ⟨rfl,hw2⟩;subst w2)) | (go_at_call 119;((with_reducible refine (PD.out _).mono ?_);rintro e1 w2 ⟨rfl,hw2⟩;subst w2)))
      go_roundw
      case rel=>exact⟨k+1,by omega,by go_num,hA',trivial⟩
      case measure=>simp[intOf];omega
     | false =>
      rw[hl] at PL;cases hd:dgB b[k] with
      | true =>
       rw[hd] at PD;clear hok hl hd
       go_wp2_with (first | (go_at_call 118;((with_reducible refine (PL.out _).mono ?_);rintro e1 w2 ⟨rfl,hw2⟩;subst w2)) | (go_at_call 119;((with_reducible refine (PD.out _).mono ?_);rintro e1 w2 ⟨rfl,hw2⟩;subst w2)))
       go_roundw
       case rel=>exact⟨k+1,by omega,by go_num,hA',trivial⟩
       case measure=>simp[intOf];omega
      | false =>
       rw[hd] at PD;rw[hl,hd] at hok;have hx:b[k].toNat=58:=by simpa using hok
       have hx':((b[k].toNat:Int) == 58)=true:=by simp[hx]
       have hx2:((b[k].toNat:Int) != 58)=false:=by simp[hx]
       clear hok hl hd hx
       go_wp2_with (first | (go_at_call 118;((with_reducible refine (PL.out _).mono ?_);rintro e1 w2 ⟨rfl,hw2⟩;subst w2)) | (go_at_call 119;((with_reducible refine (PD.out _).mono ?_);rintro e1 w2 ⟨rfl,hw2⟩;subst w2)))
       go_roundw
       case rel=>exact⟨k+1,by omega,by go_num,hA',trivial⟩
       case measure=>simp[intOf];omega
    ·rw[Bool.not_eq_true] at hok;have hr:Hid (wordB b=false):=HD (by unfold wordB;rw[all_bad h hok,Bool.and_false]);unfold okB at hok;rw[Bool.or_eq_false_iff,Bool.or_eq_false_iff] at hok;obtain⟨⟨hl,hd⟩,hx⟩:=hok;have hx0:¬ b[k].toNat=58:=by simpa using hx
     have hx':((b[k].toNat:Int) == 58)=false:=by rw[beq_eq_false_iff_ne];omega
     have hx2:((b[k].toNat:Int) != 58)=true:=by rw[bne_iff_ne];omega
     rw[hl] at PL;rw[hd] at PD;clear hl hd hx hx0
     go_wp2_with (first | (go_at_call 118;((with_reducible refine (PL.out _).mono ?_);rintro e1 w2 ⟨rfl,hw2⟩;subst w2)) | (go_at_call 119;((with_reducible refine (PD.out _).mono ?_);rintro e1 w2 ⟨rfl,hw2⟩;subst w2)))
     go_ret;exact⟨congrArg (fun b=>Ending.returned (Value.bool b)) hr.out.symm,rfl⟩
   ·have hr:Hid (wordB b=true):=HD (by unfold wordB;rw[hA.out.last h,hhd.out];rfl);have h':¬ (k:Int) < (b.size:Int):=by omega
    go_wp2
    go_ret;exact⟨congrArg (fun b=>Ending.returned (Value.bool b)) hr.out.symm,rfl⟩
set_option maxHeartbeats 4000000 in
theorem signs_c (b:ByteArray) (h16:b.size≤16) (w:World) :
  Calls Tryz.prog 104 #[.string b] w fun e w'=>e=.returned (.bool (signsB b))∧w'=w:=by
 have hst:=HD (AllB.start sgB b);go_enter Tryz.func104,Tryz.ntmps104
 go_wp2
 go_loopw [6] (fun i wr=>∃ (k:Nat),k≤b.size∧i=.int .i64 k∧Hid (AllB sgB b k)∧wr=w) (fun i _=>b.size - (intOf i).toNat)
 case atStart=>exact⟨0,by omega,rfl,hst,rfl⟩
 case round =>
  obtain⟨k,hk,rfl,hA,rfl⟩:=hrel;by_cases h:k < b.size
  ·have h':(k:Int) < (b.size:Int):=by omega
   have PS:=HD (sign_c b[k]);cases hs:sgB b[k] with
   | true =>
    have hA':=HD (hA.out.step h hs);rw[hs] at PS;clear hs
    go_wp2_with (first | (go_at_call 120;((with_reducible refine (PS.out _).mono ?_);rintro e1 w2 ⟨rfl,hw2⟩;subst w2)))
    go_roundw
    case rel=>exact⟨k+1,by omega,by go_num,hA',trivial⟩
    case measure=>simp[intOf];omega
   | false =>
    have hr:Hid (signsB b=false):=HD (by unfold signsB;rw[all_bad h hs,Bool.false_and]);rw[hs] at PS;clear hs
    go_wp2_with (first | (go_at_call 120;((with_reducible refine (PS.out _).mono ?_);rintro e1 w2 ⟨rfl,hw2⟩;subst w2)))
    go_ret;exact⟨congrArg (fun b=>Ending.returned (Value.bool b)) hr.out.symm,rfl⟩
  ·have h':¬ (k:Int) < (b.size:Int):=by omega
   have hr:Hid (signsB b=decide ((b.size:Int)≤2)):=HD (by unfold signsB;rw[hA.out.last h,Bool.true_and];exact decide_eq_decide.2 (by omega))
   go_wp2
   go_ret;exact⟨congrArg (fun b=>Ending.returned (Value.bool b)) hr.out.symm,rfl⟩
end Wd
end Go.Proofs.YtgfnelhbdhbklaaGreat
