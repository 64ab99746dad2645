/- Texts joined: IRL. -/
import Derived.Test.YtgfnelhbdhbklaaGreatJT1
import Derived.Test.YtgfnelhbdhbklaaGreatJT10
import Derived.Test.YtgfnelhbdhbklaaGreatJT13
import Derived.Deep.CutBlock
import Derived.Deep.DeepCutAuto
namespace Go.Proofs.YtgfnelhbdhbklaaGreat
open Go.RowKit
set_option linter.unusedVariables false
set_option maxRecDepth 20000
namespace Wd
theorem RB.byv {w:World} {base:Nat} {v:Value} {T:List Int} (h:RB w base 5 v (bys T)) (hb:Bd8 T):ByV w v T:=by
 obtain⟨g,cap,cur,fr,rfl,_,hg,_,hc,hm,_,_⟩:=h.ex;have hl:=bys_ln T;refine⟨some ⟨g,0,none⟩,cap,by rw[hl],by rw[← hl];exact hc,hm,fun k x hx=>⟨hb x (List.mem_of_getElem? hx),g,0,rfl,?_⟩⟩;have:=h.cells k (.int .u8 x) (by unfold bys;rw[List.getElem?_map,hx];rfl);rw[Addr.add_lit] at this;simpa using this
theorem txtR_bd {s:Rd8} (hb:Bd8 s.1):Bd8 (txtR s).1:=(cntR_bd hb).take _
theorem clR_len (s:Rd8):(clR s).2.1.length≤s.1.length:=Nat.le_trans rowR_all.1 (Nat.le_trans numR_all.1 (Nat.le_trans numR_all.1 nmR_all.1))
theorem mtR_len (s:Rd8):(mtR s).2.1.length≤s.1.length:=Nat.le_trans (nmR_all (s:=(rowR prR (numR (numR s).2).2).2)).1 (Nat.le_trans rowR_all.1 (Nat.le_trans numR_all.1 numR_all.1))
theorem obR_len (s:Rd8):(obR s).2.1.length≤s.1.length:=Nat.le_trans rowR_all.1 numR_all.1
def LiesB (lo hi:Nat) (J:Nat→Prop) (W:World) (P:World→Prop):Prop:=Stay J W P∧∀ k,J k→lo≤k∧k < hi
theorem LiesB.cg {lo hi:Nat} {J F:Nat→Prop} {W W1:World} {P:World→Prop} (h:LiesB lo hi J W P) (c:Cg F W W1) (hF:∀ k,F k→k < lo∨hi≤k):LiesB lo hi J W1 P :=
 ⟨h.1.cg c (fun k hf hj=>by have:=h.2 k hj;have:=hF k hf;omega),h.2⟩
theorem Lies.b {lo:Nat} {J:Nat→Prop} {W:World} {P:World→Prop} (h:Lies lo J W P):LiesB lo W.heap.size J W P:=h
theorem LiesB.up {lo hi hi':Nat} {J:Nat→Prop} {W:World} {P:World→Prop} (h:LiesB lo hi J W P) (hh:hi≤hi'):LiesB lo hi' J W P:=⟨h.1,fun k hk=>⟨(h.2 k hk).1,Nat.lt_of_lt_of_le (h.2 k hk).2 hh⟩⟩
theorem LiesB.lies {lo hi:Nat} {J:Nat→Prop} {W:World} {P:World→Prop} (h:LiesB lo hi J W P) (hh:hi≤W.heap.size):Lies lo J W P:=h.up hh
theorem lies2 {b b':Nat} {J1 J2:Nat→Prop} {W:World} {P1 P2:World→Prop} (h1:Lies b J1 W P1) (h2:Lies b' J2 W P2) (hb:b≤b'):Lies b (fun k=>J1 k∨J2 k) W (fun w=>P1 w∧P2 w):=by
 refine⟨(h1.1.more (fun k e=>Or.inl e)).and (h2.1.more (fun k e=>Or.inr e)),fun k hk=>?_⟩;rcases hk with hk | hk
 ·exact h1.2 k hk
 ·have:=h2.2 k hk;omega
structure EM (w wr W:World) (p:Nat) (v:Value) (s:Rd8) (T:TypeId) (E:Nat) (C:Array Value):Prop where
 r:RS w W p v s
 cg:Cg (fun k=>k=p) wr W
 b:W.heap[E]?=some (.cells C T (0,0))
 lo:wr.heap.size≤E∧p < wr.heap.size∧w.heap.size≤wr.heap.size
section
variable {w wr W W1:World} {p E:Nat} {v v1:Value} {s s1:Rd8} {T:TypeId} {C:Array Value}
theorem EM.lt (h:EM w wr W p v s T E C):E < W.heap.size:=(Array.getElem?_eq_some_iff.1 h.b).1
theorem EM.born (h:RS w W p v s) (c:Cg (fun k=>k=p) wr W) (hp:p < wr.heap.size) (hw:w.heap.size≤wr.heap.size):EM w wr (W.alloc (.cells C T)) p v s T W.heap.size C :=
 ⟨h.up ((Below.refl W.heap.size W).alloc (Nat.le_refl _) _),c.alloc _,heap_alloc_new _ _,c.size,hp,hw⟩
theorem EM.call (h:EM w wr W p v s T E C) (r:RS w W1 p v1 s1) (c:Cg (fun k=>k=p) W W1):EM w wr W1 p v1 s1 T E C:=by
 have:=h.lo;exact⟨r,h.cg.trans c,(c.block _ h.lt (by omega)).trans h.b,h.lo⟩
theorem EM.up (h:EM w wr W p v s T E C) (b:Below W.heap.size W W1):EM w wr W1 p v s T E C:=h.call (h.r.up b) (Cg.below _ b)
theorem EM.set (h:EM w wr W p v s T E C) (o:Nat) (x:Value):EM w wr (W.setCell ⟨E,o,none⟩ x) p v s T E (C.setIfInBounds o x):=by
 have c:=(Cg.refl (fun k=>k=E) W).set ⟨E,o,none⟩ rfl x;have hl:=h.lo;exact⟨h.r.cg c (fun k e=>⟨by omega,by omega⟩),h.cg.trans' c (fun k e=>Or.inr (by omega)),bx_set h.b x,h.lo⟩
theorem EM.e (h:EM w wr W p v s T E C) {o:Nat} {x:Value} (hx:C[o]?=some x):W.cell? ⟨E,o,none⟩=some x:=cells_at h.b hx
theorem EM.z (h:EM w wr W p v s T E C) (o:Nat):W.frozen? ⟨E,o,none⟩=false:=loose_at h.b o
end
theorem own_form {w:World} {b sz n:Nat} {e:TypeId} {u:Value} {xs:List Value} (h:w.ownsRow b e sz u n xs):∃ a c,u=.slice a n c:=by
 rcases h.2 with ⟨e,e2⟩ | ⟨g,cap,cur,e,_⟩
 ·subst e2;exact⟨_,_,e⟩
 ·exact⟨_,_,e⟩
theorem cg_setRow (w:World) (g:Nat) (cs:Array Value):Cg (fun k=>k=g) w (w.setRow g cs):=⟨rfl,rfl,rfl,by simp,fun k _ hn=>setRow_other w g k _ (fun e=>hn (by first | exact e | exact e.symm))⟩
theorem built_zU:(Tryz.prog.built 27 []).isSome=true∧(Tryz.prog.built 27 []).getD #[]=z5U:=⟨by kernel_rfl,by kernel_rfl⟩
theorem wp_zU {ops:Array Oper} {rest:List Oper} {o:Oper} {a:Act} {w:World} {Q:Exit→Act→World→Prop} (hg:o.guard=none) (ho:o.op=.build 27 #[])
  (h:wpList Tryz.prog ops Q rest (a.put o.dst zUv) w):wpList Tryz.prog ops Q (o :: rest) a w:=by
 have e:((#[]:Array (Nat × Operand)).map fun (i,x)=>(i,a.eval x)).toList=[]:=by simp
 refine wpList_build hg 27 #[] ho (by rw[e];exact built_zU.1) ?_;rw[e,built_zU.2];exact h
theorem one_u (a1 a2 a3 a4:Option Addr) (m1 m2 m3 m4 c1 c2 c3 c4:Nat) (m:Int):(#[Value.slice a1 m1 c1,.slice a2 m2 c2,.slice a3 m3 c3,.slice a4 m4 c4,.int .i64 m]:Array Value).all (·.oneCell')=true :=
 all_oneCell_toArray (cs:=[.slice a1 m1 c1,.slice a2 m2 c2,.slice a3 m3 c3,.slice a4 m4 c4,.int .i64 m]) (fun v hv=>by simp only[List.mem_cons,List.not_mem_nil,or_false] at hv;rcases hv with rfl | rfl | rfl | rfl | rfl <;> rfl)
theorem z5_one:z5U.all (·.oneCell')=true:=one_u ..
theorem z5_info:(Tryz.prog.info? 27).map (·.size)=some z5U.size:=infoU5
theorem u5_info {v0 v1 v2 v3 v4:Value}:(Tryz.prog.info? 27).map (·.size)=some (#[v0,v1,v2,v3,v4]:Array Value).size:=infoU5
theorem by_bd {w:World} {v:Value} {L:List Int} (h:ByV w v L):Bd8 L:=fun x hx=>by
 obtain⟨k,hk⟩:=List.getElem?_of_mem hx;obtain⟨ad',cap',e,h1,h2,h3⟩:=h.ex;exact (h3 k x hk).1
theorem UnK.code {w:World} {v:Value} {U:UnitA} (h:UnK w v U):∀ m∈U.methods,Bd8 m.code:=fun m hm=>by
 obtain⟨na,nc,ca,cc,ma,mc,oa,oc,_,hU⟩:=h.ex;obtain⟨k,hk⟩:=List.getElem?_of_mem hm;obtain⟨ad,cap,_,_,_,h3⟩:=hU.m.ex;obtain⟨_,_,_,_,_,_,_,_,_,_,_,_,q⟩:=h3 k m hk;exact by_bd q
theorem Bd8.app {A B:List Int} (h:Bd8 A) (g:Bd8 B):Bd8 (A++B):=fun x hx=>(List.mem_append.1 hx).elim (h x) (g x)
theorem flat_bd {T:Type} {f:T→List Int}:∀ {L:List T},(∀ x∈L,Bd8 (f x))→Bd8 ((L.map f).flatten)
 | [],_=>fun x hx=>by cases hx
 | a :: L,h=>by
  rw[List.map_cons,List.flatten_cons];exact (h a (List.mem_cons_self ..)).app (flat_bd (fun x hx=>h x (List.mem_cons_of_mem _ hx)))
theorem rowB_bd {T:Type} {f:T→List Int} {L:List T} (h:∀ x∈L,Bd8 (f x)):Bd8 (rowB f L):=Bd8.app (b4_bd _) (flat_bd h)
theorem rowP_bd (L:List (Int × Int)):Bd8 (rowP L):=by
 rw[rowP_eq];exact rowB_bd (fun x _=>Bd8.app (b4_bd _) (b4_bd _))
theorem txt_bd (s:ByteArray):Bd8 (txt s):=Bd8.app (b4_bd _) (tby_bd _)
theorem bytes_bd {U:UnitA} (hc:∀ m∈U.methods,Bd8 m.code):Bd8 (bytesU U):=by
 unfold bytesU bodyU;refine Bd8.app ?_ (Bd8.app (Bd8.app (Bd8.app (Bd8.app (rowB_bd (fun s _=>txt_bd s)) (rowB_bd (fun c _=>?_))) (rowB_bd (fun m hm=>?_))) (rowB_bd (fun o _=>?_))) (b4_bd _))
 ·intro x hx;simp only[List.mem_cons,List.not_mem_nil,or_false] at hx;omega
 ·exact Bd8.app (Bd8.app (Bd8.app (txt_bd _) (b4_bd _)) (b4_bd _)) (rowP_bd _)
 ·exact Bd8.app (Bd8.app (Bd8.app (b4_bd _) (b4_bd _)) (rowP_bd _)) (Bd8.app (b4_bd _) (hc m hm))
 ·exact Bd8.app (b4_bd _) (rowP_bd _)
theorem rread_res {ts:Array Value} {w:World} {q:Nat} {v0 v1 v2 v3 v4 x:Value} (h8:ts.getD 2 undef=.pointer (some ⟨q,0,none⟩)) (h9:ts.getD 3 undef=x) (r0:w.cell? ⟨q,0,none⟩=some v0) (r1:w.cell? ⟨q,1,none⟩=some v1) (r2:w.cell? ⟨q,2,none⟩=some v2) (r3:w.cell? ⟨q,3,none⟩=some v3) (r4:w.cell? ⟨q,4,none⟩=some v4) :
  (results Tryz.f29 ts).run Tryz.prog w=.ok (.tuple #[.agg #[v0,v1,v2,v3,v4],x]) w:=by
 have h8':ts[2]?.getD undef=.pointer (some ⟨q,0,none⟩):=by rw[← Array.getD_eq_getD_getElem?];exact h8
 have h9':ts[3]?.getD undef=x:=by rw[← Array.getD_eq_getD_getElem?];exact h9
 simp[results,Tryz.results29,go_sem,h8',h9',r0,r1,r2,r3,r4]
theorem good_four {b:List Int} {U:UnitA} (h:Good b U):b=[84,87,49,0]++b.drop 4∧4≤b.length:=by
 obtain⟨_,rfl⟩:=h;unfold bytesU;exact⟨rfl,by rw[List.length_append];simp⟩
theorem four_eq {b:List Int} (h:b.take 4=[84,87,49,0]):b=[84,87,49,0]++b.drop 4:=by
 rw[← h,List.take_append_drop]
set_option maxHeartbeats 64000000 in
theorem rread_c {w:World} {bv:Value} {b:List Int} (hb:ByV w bv b) :
  Calls Tryz.prog 29 #[bv] w fun e w'=>RdA w' b e∧Below w.heap.size w w':=by
 obtain⟨i0,hi0,hi0z,hi0s,hi0b⟩:=info_parts infoStr16;obtain⟨i1,hi1,hi1z,hi1s,hi1b⟩:=info_parts infoCls;obtain⟨i2,hi2,hi2z,hi2s,hi2b⟩:=info_parts infoMeth;obtain⟨i3,hi3,hi3z,hi3s,hi3b⟩:=info_parts infoObj;obtain⟨ad,cap,rfl,hcap,hmx⟩:=hb.form;have hmx':maxLen≤9223372036854775807:=by decide
 have hmx4:400000≤maxLen:=by decide
 have b0:=(Below.refl w.heap.size w).alloc (Nat.le_refl _) (.cells z5U 27);have hB8:Bd8 b:=fun x hx=>by
  obtain⟨k,hk⟩:=List.getElem?_of_mem hx;obtain⟨ad',cap',e,h1,h2,h3⟩:=hb.ex;exact (h3 k x hk).1
 by_cases hl:65536 < b.length
 ·have d0:decide ((65536:Int) < (b.length:Int))=true:=by simp;omega
  have hno:=HD (show ∀ U,¬ Good b U from fun U h=>by have:=good_le h;omega);have hm:=HD (errB_long hl);clear hb hl hB8;go_enter Tryz.func29,Tryz.ntmps29
  go_wp2
  have hh:(w.alloc (.cells #[.slice none 0 0,.slice none 0 0,.slice none 0 0,.slice none 0 0,.int .i64 0] 27)).heap[w.heap.size]?=some (.cells #[.slice none 0 0,.slice none 0 0,.slice none 0 0,.slice none 0 0,.int .i64 0] 27 (0,0)):=heap_alloc_new _ _;obtain⟨c0,c1,c2,c3,c4⟩:=dbl5 hh rfl;refine bodyPost_ret (rread_res rfl rfl c0 c1 c2 c3 c4) rfl ?_;exact⟨rdA_no hno.out hm.out,b0⟩
 have hm:=HD (errB_short hl);have d0:decide ((65536:Int) < (b.length:Int))=false:=by simp;omega
 by_cases h4:b.length < 4
 ·have d1:decide ((b.length:Int) < 4)=true:=by simp;omega
  have d2:decide (b.length < 4)=true:=by simp;omega
  have hno:=HD (show ∀ U,¬ Good b U from fun U h=>by have:=(good_four h).2;omega);clear hb hl hB8;go_enter Tryz.func29,Tryz.ntmps29
  go_wp2
  have hh:(w.alloc (.cells #[.slice none 0 0,.slice none 0 0,.slice none 0 0,.slice none 0 0,.int .i64 0] 27)).heap[w.heap.size]?=some (.cells #[.slice none 0 0,.slice none 0 0,.slice none 0 0,.slice none 0 0,.int .i64 0] 27 (0,0)):=heap_alloc_new _ _;obtain⟨c0,c1,c2,c3,c4⟩:=dbl5 hh rfl;refine bodyPost_ret (rread_res rfl rfl c0 c1 c2 c3 c4) rfl ?_;exact⟨rdA_no hno.out hm.out,b0⟩
 have d1:decide ((b.length:Int) < 4)=false:=by simp;omega
 obtain⟨g,off,rfl⟩:=hb.some (by omega);have hT:=text_mark (hB8.take 4);have PT0:=by_text (((ByV.take hb 4 (by omega)).up b0));have i4:(4:Int)≤(cap:Int):=by omega
 have i4':4≤cap:=by omega
 by_cases hf:b.take 4=[84,87,49,0]
 ·have e1:((textOf (b.take 4)).toList == [84,87,49,0])=true:=by rw[← mark_list];exact bl_eq (hT.2 hf)
  have hb4:=four_eq hf;obtain⟨M0,hM0⟩:∃ M,b.drop 4=M:=⟨_,rfl⟩
  rw[hM0] at hb4;have hlM:M0.length≤65536:=by rw[← hM0,List.length_drop];omega
  have hbw:=HD hb;have hgo:=HD (fun U (h:Good b U)=>good_r h hb4);obtain⟨nb,hnb⟩:∃ n,n=b.length:=⟨_,rfl⟩
  have hn4:4≤nb:=by omega
  simp only[← hnb] at d0 d1 hcap ⊢;replace hnb:=HD hnb;replace hM0:=HD hM0;have hs1:(w.alloc (.cells #[.slice none 0 0,.slice none 0 0,.slice none 0 0,.slice none 0 0,.int .i64 0] 27)).heap.size=w.heap.size+1:=by simp
  obtain⟨W0,hW0⟩:∃ W,(w.alloc (.cells #[.slice none 0 0,.slice none 0 0,.slice none 0 0,.slice none 0 0,.int .i64 0] 27))=W:=⟨_,rfl⟩
  have hz0:W0.heap[w.heap.size]?=some (.cells #[.slice none 0 0,.slice none 0 0,.slice none 0 0,.slice none 0 0,.int .i64 0] 27 (0,0)):=by rw[← hW0];exact heap_alloc_new _ _
  rw[hW0] at hs1;have hbW:Below w.heap.size w W0:=by rw[← hW0];exact b0
  replace PT0:(convert 36 9 (.slice (some ⟨g,off,none⟩) 4 cap)).run Tryz.prog W0=.ok (.string (textOf (b.take 4))) W0:=by rw[← hW0];exact PT0
  clear hf hT hB8 hb hl h4 hb4 b0;go_enter Tryz.func29,Tryz.ntmps29
  go_upto_region 3 with fail
  try simp only[hW0]
  clear hW0
  go_upto_region 5 with fail
  clear PT0 e1
  go_cut [0,4] (fun a0 a4 wx=>a0=.slice (some ⟨g,off,none⟩) nb cap∧a4=.pointer (some ⟨w.heap.size+1,0,none⟩)∧∃ (v':Value),Hid (RS w wx (w.heap.size+1) v' (M0,false)∧wx.heap[w.heap.size]?=some (.cells #[.slice none 0 0,.slice none 0 0,.slice none 0 0,.slice none 0 0,.int .i64 0] 27 (0,0))∧wx.heap.size=w.heap.size+2))
  case first =>
   have hbo:=hbw.out;rw[← hnb.out] at hbo;have hmk:∀ (v':Value),ByV w v' M0→(∃ g off n cap,v'=.slice (some ⟨g,off,none⟩) n cap)→Hid (RS w (W0.alloc (.cells #[v',.bool false] 103)) (w.heap.size+1) v' (M0,false)∧(W0.alloc (.cells #[v',.bool false] 103)).heap[w.heap.size]?=some (.cells #[.slice none 0 0,.slice none 0 0,.slice none 0 0,.slice none 0 0,.int .i64 0] 27 (0,0))∧(W0.alloc (.cells #[v',.bool false] 103)).heap.size=w.heap.size+2):=fun v' h1 h2=>by
    have h3:=heap_alloc_new W0 (.cells #[v',.bool false] 103);rw[hs1] at h3;refine HD ⟨⟨h3,h1,hbW.alloc hbW.size _,by omega,h2⟩,?_,by rw[World.size_alloc];omega⟩;rw[← hz0];exact ((Below.refl W0.heap.size W0).alloc (Nat.le_refl _) _).block _ (by omega)
   replace hmk:=HD hmk;replace hbo:=HD hbo
   go_wp2
   ·go_meet
    case rel =>
     rename cap=4=>hck
     have h1:=ByV.dropE hbo.out 4 (by omega) hck;rw[hM0.out] at h1;exact⟨by rw[hck],rfl,_,hmk.out _ h1 ⟨_,_,_,_,rfl⟩⟩
   ·go_meet
    case rel =>
     have h1:=ByV.drop hbo.out 4 (by omega);rw[hM0.out] at h1;exact⟨rfl,rfl,_,hmk.out _ h1 ⟨_,_,_,_,rfl⟩⟩
  case rest =>
  obtain⟨rfl,rfl,v0,hcut⟩:=hcut;have hq0:unR (M0,false)=(⟨(rowR nmR (M0,false)).1,(rowR clR (rowR nmR (M0,false)).2).1,(rowR mtR (rowR clR (rowR nmR (M0,false)).2).2).1,(rowR obR (rowR mtR (rowR clR (rowR nmR (M0,false)).2).2).2).1,(numR (rowR obR (rowR mtR (rowR clR (rowR nmR (M0,false)).2).2).2).2).1⟩,(numR (rowR obR (rowR mtR (rowR clR (rowR nmR (M0,false)).2).2).2).2).2):=rfl;have hlm:((M0,false):Rd8).1.length≤100000:=by show M0.length≤_;omega
  have hl1:(rowR nmR (M0,false)).2.1.length≤100000:=Nat.le_trans (manyR_len (fun s=>(nmR_all (s:=s)).1) _ _ _) (Nat.le_trans (cntR_len (M0,false)) hlm);have hl2:(rowR clR (rowR nmR (M0,false)).2).2.1.length≤100000:=Nat.le_trans (manyR_len clR_len _ _ _) (Nat.le_trans (cntR_len _) hl1);have hl3:(rowR mtR (rowR clR (rowR nmR (M0,false)).2).2).2.1.length≤100000:=Nat.le_trans (manyR_len mtR_len _ _ _) (Nat.le_trans (cntR_len _) hl2);generalize hQ1:rowR nmR (M0,false)=q1 at hq0 hl1 hl2 hl3;generalize hQ2:rowR clR q1.2=q2 at hq0 hl2 hl3;generalize hQ3:rowR mtR q2.2=q3 at hq0 hl3;generalize hQ4:rowR obR q3.2=q4 at hq0;generalize hQ5:numR q4.2=q5 at hq0;replace hQ1:=HD hQ1;replace hQ2:=HD hQ2;replace hQ3:=HD hQ3;replace hQ4:=HD hQ4;replace hQ5:=HD hQ5;replace hq0:=HD hq0;have hs2:=hcut.out.2.2;have hE:Hid (EZ w w (wc.alloc (.cells #[.slice none 0 0,.slice none 0 0,.slice none 0 0,.slice none 0 0,.int .i64 0] 27)) (w.heap.size+1) v0 (M0,false) 27 w.heap.size z5U 27 (w.heap.size+2) z5U):=HD (by
   have bb:=(Below.refl wc.heap.size wc).alloc (Nat.le_refl _) (.cells #[.slice none 0 0,.slice none 0 0,.slice none 0 0,.slice none 0 0,.int .i64 0] 27);have hr:=hcut.out.1;have h3:=heap_alloc_new wc (.cells #[.slice none 0 0,.slice none 0 0,.slice none 0 0,.slice none 0 0,.int .i64 0] 27);rw[hs2] at h3;exact⟨hr.up bb,(Cg.below (fun k=>k=w.heap.size+1) hr.bel).alloc _,(bb.block _ (by omega)).trans hcut.out.2.1,h3,⟨by omega,by omega,by omega⟩,⟨by omega,by omega,by omega⟩⟩)
  clear hcut hz0 hbW hs1
  go_upto_region 7 with fail
  try simp only[hs2]
  obtain⟨W1,hW1⟩:∃ W,wc.alloc (.cells #[.slice none 0 0,.slice none 0 0,.slice none 0 0,.slice none 0 0,.int .i64 0] 27)=W:=⟨_,rfl⟩
  rw[hW1] at hE
  try simp only[hW1]
  clear hW1 hs2;generalize hEE:w.heap.size+2=E at *;replace hEE:w.heap.size+2=E:=hEE;have hr0:rowR nmR (M0,false)=manyR nmR (cntR (M0,false)).1.toNat [] (cntR (M0,false)).2:=rfl;rw[hQ1.out] at hr0;have hcb:=cnt_bd (M0,false);have hcl:=cntR_len (M0,false);have P1:=count_c hE.out.r;generalize cntR (M0,false)=r at hr0 hcb hcl P1;obtain⟨x,t1⟩:=r;simp only at hr0 hcb hcl P1;obtain⟨n,rfl⟩:∃ n:Nat,x=n:=⟨x.toNat,by omega⟩
  rw[Int.toNat_natCast] at hr0;have hn1:n≤100000:=by omega
  have ht1:t1.1.length≤100000:=by omega
  replace hr0:=HD hr0.symm;replace P1:=HD P1;clear hcb hcl
  go_upto_block 0 with (first | (go_at_call 53;((with_reducible refine P1.out.mono ?_);rintro e1 y1 ⟨rfl,⟨v1,hR1⟩,hc1⟩)))
  have hcs:=hc1.size;replace hE:=HD (hE.out.call hR1 hc1);clear P1 hR1 hc1;have hELt:=hE.out.lt;obtain⟨B,hB⟩:∃ B,y1.heap.size=B:=⟨_,rfl⟩
  rw[hB] at hELt
  go_cut [] (fun wx=>∃ (v':Value) (a1:Option Addr) (m1 c1:Nat) (J:Nat→Prop),Hid (EZ w w wx (w.heap.size+1) v' q1.2 27 w.heap.size z5U 27 E #[.slice a1 m1 c1,.slice none 0 0,.slice none 0 0,.slice none 0 0,.int .i64 0])∧Hid (Lies (E+1) J wx (fun w2=>NmV w2 (.slice a1 m1 c1) q1.1)))
  case first =>
   have hG:Hid (GrN B y1 (fun _=>False) (.slice none 0 0) []):=HD (GrX.nil rfl)
   go_wp2_with fail
   go_loopw [6] (fun i4 wr=>∃ (j:Nat) (A:List ByteArray) (s':Rd8) (v':Value) (I:Nat→Prop) (u:Value),A.length+j≤n∧j≤n∧i4=.int .i64 j∧Hid (manyR nmR j A s'=q1)∧Hid (EZ w w wr (w.heap.size+1) v' s' 27 w.heap.size z5U 27 E #[u,.slice none 0 0,.slice none 0 0,.slice none 0 0,.int .i64 0])∧Hid (GrN B wr I u A)∧s'.1.length≤100000∧B≤wr.heap.size) (fun i4 _=>(intOf i4).toNat)
   case atStart=>exact⟨n,[],_,_,_,_,by simp,Nat.le_refl _,rfl,hr0,hE,hG,ht1,by omega⟩
   case round =>
    clear hE hG hr0;obtain⟨j,A,s',v',I,u,hj,hjn,rfl,hQ,hE,hG,hM1,hBr⟩:=hrel;have cf:=hE.out.r.c1;obtain⟨M,b⟩:=s';simp only at cf hM1;obtain⟨ua,uc,rfl⟩:=own_form hG.out.own;by_cases hend:j=0∨b=true
    ·have hq:Hid ((A,(M,b))=q1):=HD (by
      rw[← hQ.out];rcases hend with rfl | rfl
      ·rfl
      ·cases j <;> rfl)
     have hL2:Hid (Lies B _ wr (fun w2=>NmV w2 (.slice ua A.length uc) A)):=HD (lies_gr hG.out hG.out.nmv);have hfin:Hid (Lies (E+1) _ wr (fun w2=>NmV w2 (.slice ua A.length uc) A)):=HD (hL2.out.imp (by omega) (fun w2 h=>h));rcases hend with rfl | rfl
     ·clear hQ;have t1:decide ((0:Int) < ((0:Nat):Int))=false:=by decide
      go_wp2
      go_meet
      case rel =>
       have e1:=hq.out;subst e1;exact⟨v',ua,A.length,uc,_,hE,hfin⟩
     ·clear hQ;cases j with
      | succ j =>
      have t1:decide ((0:Int) < ((j+1:Nat):Int))=true:=by simp
      go_wp2
      go_meet
      case rel =>
       have e1:=hq.out;subst e1;exact⟨v',ua,A.length,uc,_,hE,hfin⟩
      | zero =>
      have t1:decide ((0:Int) < ((0:Nat):Int))=false:=by decide
      go_wp2
      go_meet
      case rel =>
       have e1:=hq.out;subst e1;exact⟨v',ua,A.length,uc,_,hE,hfin⟩
    ·obtain⟨hj0,hb⟩:=not_or.1 hend;simp only[Bool.not_eq_true] at hb;subst hb;obtain⟨j,rfl⟩:∃ i,j=i+1:=⟨j - 1,by omega⟩
     clear hend hj0;have d1:decide ((0:Int) < ((j+1:Nat):Int))=true:=by simp
     have hq:manyR nmR j (A++[(nmR (M,false)).1]) (nmR (M,false)).2=q1:=hQ.out;have hM2:=Nat.le_trans ((fun s=>(nmR_all (s:=s)).1) (M,false)) hM1;clear hQ;generalize hR2:nmR (M,false)=r at hq hM2;obtain⟨c,s2⟩:=r;simp only at hq hM2;replace hR2:=HD hR2;replace hq:=HD hq
     go_upto_region 10 with fail
     clear cf;refine wp_region_last (d:=7) (fuel:=7) (S:=(fun W=>W.cell? ⟨E,0,none⟩=some (.slice ua A.length uc))) (by kernel_rfl) (by kernel_rfl) rfl ?_ (fun hHeld=>?_)
     ·(try dsimp only);exact hE.out.e3 (o:=0) rfl
     try simp only[nA]
     replace hE:=HD (hE.out.up (Below.refl _ _).drew);replace hG:=HD (hG.out.up (Below.refl _ _).drew);have hzr:wr.drew.heap.size=wr.heap.size:=rfl;generalize wr.drew=y2 at *;have P1:=rtext_c hE.out.r;rw[hR2.out] at P1;replace P1:=HD P1;refine tk (i:=0) (oi:=⟨some 43,.fieldAddr 27 (.tmp 5) 0,0,"ref.go:355",#[],none⟩) ?_
     try simp only[nA]
     refine tk (i:=1) (oi:=⟨some 44,.load 22 (.tmp 43),22,"ref.go:355",#[⟨0,.data⟩],none⟩) ?_
     try simp only[nA]
     refine tk (i:=2) (oi:=⟨some 45,.move (.tmp 4),101,"ref.go:355",#[],none⟩) ?_
     try simp only[nA]
     refine wpAnyH_ready (rs:=[3]) (by kernel_rfl) (by simp) ?_;refine AllReadyH.cons (o:=⟨some 46,.call { callee:=.value (.func 54),args:=#[.tmp 45],argTypes:=#[101] },9,"ref.go:355",#[⟨2,.data⟩],none⟩) rfl (fun K9 hK=>?_) AllReadyH.nil;go_simp
     with_reducible refine P1.out.mono ?_
     rintro e y3 ⟨rfl,⟨v3,hR3⟩,hc3⟩;have hlt:=HD (fun k (e:(Value.slice ua A.length uc).ownBlock=some k)=>(hG.out.own.lt k e));replace hG:=HD (hG.out.cg hc3 (fun k e=>by omega));replace hE:=HD (hE.out.call hR3 hc3);have hB3:=hc3.size;clear P1 hR3 hc3
     go_wp2_with fail
     refine hK.out _ _ ?_ ?_
     ·(try dsimp only);exact hE.out.e3 (o:=0) rfl
     clear hK K9 hHeld;intro hHeld
     try simp only[nA]
     refine wpAnyH_ready (rs:=[4]) (by kernel_rfl) (by simp) ?_;refine AllReadyH.cons (o:=⟨some 47,.buildSlice 22 1 #[(0,.tmp 46)],22,"ref.go:355",#[⟨3,.data⟩],none⟩) rfl (fun K9 hK=>?_) AllReadyH.nil;go_simp;have hA3:=(Below.refl y3.heap.size y3).alloc (Nat.le_refl _) (.cells #[.string c] 9);have hOA:=HD (row_bel hG.out.own hA3);have hE5:=HD (hE.out.up hA3);have rd5:Hid (∀ j u,(strs [c])[j]?=some u→(y3.alloc (.cells #[.string c] 9)).cell? ((⟨y3.heap.size,0,none⟩:Addr).add j)=some u):=HD (World.news_of_block (alloc_at _ _ _ rfl));have hB5:B≤(y3.alloc (.cells #[.string c] 9)).heap.size:=by simp only[World.size_alloc];omega
     replace hA3:=HD hA3;refine hK.out _ _ ?_ ?_
     ·(try dsimp only);exact hE5.out.e3 (o:=0) rfl
     clear hK K9 hHeld;intro hHeld
     try simp only[nA]
     refine wpAnyH_ready (rs:=[5]) (by kernel_rfl) (by simp) ?_;refine AllReadyH.cons (o:=⟨some 48,.call { callee:=.builtin .append,args:=#[.tmp 44,.tmp 47],argTypes:=#[22,22] },22,"ref.go:355",#[⟨1,.data⟩,⟨4,.data⟩,⟨3,.chain⟩],none⟩) rfl (fun K9 hK=>?_) AllReadyH.nil;refine step_append_lies _ rfl (.tmp 44) (.tmp 47) 22 rfl B 9 i0 (.string ByteArray.empty) 1 16 Tryz.underlying22 hi0 hi0z hi0s hi0b rfl (by decide) (.slice ua A.length uc) A.length _ rfl hOA.out ⟨y3.heap.size,0,none⟩ 1 1 (strs [c]) rfl rfl rd5.out (strs_one _) (by omega) (by omega) (by omega) hB5 _ rfl ?_;intro g1 cap1 w7 hown1 hgrow1 hat1 hlt1;have hP:=HD (hG.out.push (x:=c) (J:=fun _=>False) (s:=wr.heap.size) (Stay.const trivial) (fun k e=>e.elim) (fun k e=>by have:=hlt.out k e;omega) (by omega) hA3.out hown1 hgrow1 (fun k hk=>by
      have e1:g1=k:=by simpa [Value.ownBlock] using hk
      rcases hat1 with e | e
      ·exact Or.inl (by rw[← e1];exact e)
      ·exact Or.inr (by rw[← e1];exact e)) (strs_app' A c))
     have hc7:Cg (fun k=>(Value.slice ua A.length uc).ownBlock=some k) y3 w7:=(Cg.below _ hA3.out).grown hgrow1 (fun k e=>Or.inl e);replace hE:=HD (hE.out.app hc7 (fun k e=>by have:=(hlt.out k e).1;exact⟨by omega,by omega,by omega,by omega⟩));have hB7:=hc7.size;clear hown1 hgrow1 hat1 hlt1 hOA hA3 hE5 rd5 hB5 hc7 hlt hG;refine hK.out _ _ ?_ ?_
     ·(try dsimp only);exact hE.out.e3 (o:=0) rfl
     clear hK K9 hHeld;intro hHeld
     try simp only[nA]
     refine tk (i:=6) (oi:=⟨some 49,.fieldAddr 27 (.tmp 5) 0,0,"ref.go:355",#[⟨0,.phase⟩,⟨1,.phase⟩,⟨2,.phase⟩,⟨3,.phase⟩,⟨4,.phase⟩,⟨5,.phase⟩],none⟩) ?_
     try simp only[nA]
     have x3:=hE.out.e3 (o:=0) rfl;have z3:=hE.out.z3 0;refine last_step (o:=⟨none,.store 22 (.tmp 49) (.tmp 48),0,"ref.go:355",#[⟨6,.data⟩,⟨5,.data⟩,⟨5,.chain⟩,⟨0,.phase⟩,⟨1,.phase⟩,⟨2,.phase⟩,⟨3,.phase⟩,⟨4,.phase⟩,⟨5,.phase⟩],none⟩) rfl (by kernel_rfl) (fun K hK=>?_);go_simp;refine hK.out _ _ ?_;clear hK K
     try simp only[nA]
     replace hE:=HD (hE.out.set3 0 (.slice (some ⟨g1,0,none⟩) (A.length+1) cap1));have hcE:Cg (fun k=>k=E) w7 (w7.setCell ⟨E,0,none⟩ (.slice (some ⟨g1,0,none⟩) (A.length+1) cap1)):=(Cg.refl (fun k=>k=E) w7).set ⟨E,0,none⟩ rfl (.slice (some ⟨g1,0,none⟩) (A.length+1) cap1);replace hP:=HD (hP.out.cg hcE (fun k e=>by omega));clear hcE
     go_wp2
     go_roundw
     case rel=>exact⟨j,A++[c],_,_,_,_,by rw[List.length_append];simp only[List.length_cons,List.length_nil];omega,by omega,by go_num,hq,hE,hP,hM2,by rw[World.size_setCell];omega⟩
     case measure=>simp[intOf]
  case rest =>
  obtain⟨v1',a1,m1,c1,J,hE,hL⟩:=hcut;have hr0:rowR clR q1.2=manyR clR (cntR q1.2).1.toNat [] (cntR q1.2).2:=rfl;rw[hQ2.out] at hr0;have hcb:=cnt_bd q1.2;have hcl:=cntR_len q1.2;have P1:=count_c hE.out.r;generalize cntR q1.2=r at hr0 hcb hcl P1;obtain⟨x,t1⟩:=r;simp only at hr0 hcb hcl P1;obtain⟨n,rfl⟩:∃ n:Nat,x=n:=⟨x.toNat,by omega⟩
  rw[Int.toNat_natCast] at hr0;have hn1:n≤100000:=by omega
  have ht1:t1.1.length≤100000:=by omega
  replace hr0:=HD hr0.symm;replace P1:=HD P1;clear hcb hcl
  go_upto_block 2 with (first | (go_at_call 53;((with_reducible refine P1.out.mono ?_);rintro e1 y1 ⟨rfl,⟨v1,hR1⟩,hc1⟩)))
  have hcs:=hc1.size;replace hL:=HD (hL.out.cg hc1 (fun k e=>by omega));replace hE:=HD (hE.out.call hR1 hc1);clear P1 hR1 hc1;have hELt:=hE.out.lt;obtain⟨B,hB⟩:∃ B,y1.heap.size=B:=⟨_,rfl⟩
  rw[hB] at hELt;have hLB:Hid (LiesB (E+1) B J y1 (fun w2=>NmV w2 (.slice a1 m1 c1) q1.1)):=HD (by rw[← hB];exact hL.out.b)
  go_cut [] (fun wx=>∃ (v':Value) (a2:Option Addr) (m2 c2:Nat) (J:Nat→Prop),Hid (EZ w w wx (w.heap.size+1) v' q2.2 27 w.heap.size z5U 27 E #[.slice a1 m1 c1,.slice a2 m2 c2,.slice none 0 0,.slice none 0 0,.int .i64 0])∧Hid (Lies (E+1) J wx (fun w2=>NmV w2 (.slice a1 m1 c1) q1.1∧ClV w2 (.slice a2 m2 c2) q2.1)))
  case first =>
   have hG:Hid (GrC B y1 (fun _=>False) (.slice none 0 0) []):=HD (GrX.nil rfl)
   go_wp2_with fail
   go_loopw [7] (fun i4 wr=>∃ (j:Nat) (A:List (ClassA × Value)) (s':Rd8) (v':Value) (I:Nat→Prop) (u:Value),A.length+j≤n∧j≤n∧i4=.int .i64 j∧Hid (manyR clR j (A.map (·.1)) s'=q2)∧Hid (EZ w w wr (w.heap.size+1) v' s' 27 w.heap.size z5U 27 E #[.slice a1 m1 c1,u,.slice none 0 0,.slice none 0 0,.int .i64 0])∧Hid (GrC B wr I u A)∧Hid (LiesB (E+1) B J wr (fun w2=>NmV w2 (.slice a1 m1 c1) q1.1))∧s'.1.length≤100000∧B≤wr.heap.size) (fun i4 _=>(intOf i4).toNat)
   case atStart=>exact⟨n,[],_,_,_,_,by simp,Nat.le_refl _,rfl,hr0,hE,hG,hLB,ht1,by omega⟩
   case round =>
    clear hE hG hr0 hLB hL;obtain⟨j,A,s',v',I,u,hj,hjn,rfl,hQ,hE,hG,hLB,hM1,hBr⟩:=hrel;have cf:=hE.out.r.c1;obtain⟨M,b⟩:=s';simp only at cf hM1;obtain⟨ua,uc,rfl⟩:=own_form hG.out.own;by_cases hend:j=0∨b=true
    ·have hq:Hid (((A.map (·.1)),(M,b))=q2):=HD (by
      rw[← hQ.out];rcases hend with rfl | rfl
      ·rfl
      ·cases j <;> rfl)
     have hL2:Hid (Lies B _ wr (fun w2=>ClV w2 (.slice ua A.length uc) (A.map (·.1)))):=HD (lies_gr hG.out hG.out.clv);have hfin:=HD ((lies2 (hLB.out.lies hBr) hL2.out (by omega)).imp (Nat.le_refl _) (fun w2 (h:(NmV w2 (.slice a1 m1 c1) q1.1)∧ClV w2 (.slice ua A.length uc) (A.map (·.1)))=>(show NmV w2 (.slice a1 m1 c1) q1.1∧ClV w2 (.slice ua A.length uc) (A.map (·.1)) from ⟨h.1,h.2⟩)));rcases hend with rfl | rfl
     ·clear hQ;have t1:decide ((0:Int) < ((0:Nat):Int))=false:=by decide
      go_wp2
      go_meet
      case rel =>
       have e1:=hq.out;subst e1;exact⟨v',ua,A.length,uc,_,hE,hfin⟩
     ·clear hQ;cases j with
      | succ j =>
      have t1:decide ((0:Int) < ((j+1:Nat):Int))=true:=by simp
      go_wp2
      go_meet
      case rel =>
       have e1:=hq.out;subst e1;exact⟨v',ua,A.length,uc,_,hE,hfin⟩
      | zero =>
      have t1:decide ((0:Int) < ((0:Nat):Int))=false:=by decide
      go_wp2
      go_meet
      case rel =>
       have e1:=hq.out;subst e1;exact⟨v',ua,A.length,uc,_,hE,hfin⟩
    ·obtain⟨hj0,hb⟩:=not_or.1 hend;simp only[Bool.not_eq_true] at hb;subst hb;obtain⟨j,rfl⟩:∃ i,j=i+1:=⟨j - 1,by omega⟩
     clear hend hj0;have d1:decide ((0:Int) < ((j+1:Nat):Int))=true:=by simp
     have hq:manyR clR j ((A.map (·.1))++[(clR (M,false)).1]) (clR (M,false)).2=q2:=hQ.out;have hM2:=Nat.le_trans ((clR_len) (M,false)) hM1;clear hQ;generalize hR2:clR (M,false)=r at hq hM2;obtain⟨c,s2⟩:=r;simp only at hq hM2;replace hR2:=HD hR2
     go_upto_region 14 with fail
     clear cf;refine wp_region_last (d:=7) (fuel:=7) (S:=(fun W=>W.cell? ⟨E,1,none⟩=some (.slice ua A.length uc))) (by kernel_rfl) (by kernel_rfl) rfl ?_ (fun hHeld=>?_)
     ·(try dsimp only);exact hE.out.e3 (o:=1) rfl
     try simp only[nA]
     replace hE:=HD (hE.out.up (Below.refl _ _).drew);replace hG:=HD (hG.out.up (Below.refl _ _).drew);replace hLB:=HD (hLB.out.cg ((Cg.refl (fun _=>False) wr).drew) (fun k e=>e.elim));have hzr:wr.drew.heap.size=wr.heap.size:=rfl;generalize wr.drew=y2 at *;have P1:=rclass_c hE.out.r hM1;rw[hR2.out] at P1;replace P1:=HD P1;refine tk (i:=0) (oi:=⟨some 63,.fieldAddr 27 (.tmp 5) 1,0,"ref.go:358",#[],none⟩) ?_
     try simp only[nA]
     refine tk (i:=1) (oi:=⟨some 64,.load 23 (.tmp 63),23,"ref.go:358",#[⟨0,.data⟩],none⟩) ?_
     try simp only[nA]
     refine tk (i:=2) (oi:=⟨some 65,.move (.tmp 4),101,"ref.go:358",#[],none⟩) ?_
     try simp only[nA]
     refine wpAnyH_ready (rs:=[3]) (by kernel_rfl) (by simp) ?_;refine AllReadyH.cons (o:=⟨some 66,.call { callee:=.value (.func 55),args:=#[.tmp 65],argTypes:=#[101] },60,"ref.go:358",#[⟨2,.data⟩],none⟩) rfl (fun K9 hK=>?_) AllReadyH.nil;go_simp
     with_reducible refine P1.out.mono ?_
     rintro e y3 ⟨⟨bv,Jx,rfl,hX,⟨ba,bm,bc,rfl⟩⟩,⟨v3,hR3⟩,hc3⟩;have hlt:=HD (fun k (e:(Value.slice ua A.length uc).ownBlock=some k)=>(hG.out.own.lt k e));replace hG:=HD (hG.out.cg hc3 (fun k e=>by omega));replace hLB:=HD (hLB.out.cg hc3 (fun k e=>by omega));replace hE:=HD (hE.out.call hR3 hc3);have hB3:=hc3.size;clear P1 hR3 hc3;replace hX:=HD hX;have hq:Hid (manyR clR j ((A++[((c,Value.slice ba bm bc):ClassA × Value)]).map (·.1)) s2=q2):=HD (by rw[List.map_append];exact hq)
     go_wp2_with fail
     refine hK.out _ _ ?_ ?_
     ·(try dsimp only);exact hE.out.e3 (o:=1) rfl
     clear hK K9 hHeld;intro hHeld
     try simp only[nA]
     refine wpAnyH_ready (rs:=[4]) (by kernel_rfl) (by simp) ?_;refine AllReadyH.cons (o:=⟨some 67,.buildSlice 23 1 #[(0,.tmp 66)],23,"ref.go:358",#[⟨3,.data⟩],none⟩) rfl (fun K9 hK=>?_) AllReadyH.nil;go_simp;have hA3:=(Below.refl y3.heap.size y3).alloc (Nat.le_refl _) (.cells #[.string c.nm,.int .i64 c.super,.int .i64 c.fields,.slice ba bm bc] 60);have hOA:=HD (row_bel hG.out.own hA3);have hE5:=HD (hE.out.up hA3);have rd5:Hid (∀ j u,(cl4s [(c,.slice ba bm bc)])[j]?=some u→(y3.alloc (.cells #[.string c.nm,.int .i64 c.super,.int .i64 c.fields,.slice ba bm bc] 60)).cell? ((⟨y3.heap.size,0,none⟩:Addr).add j)=some u):=HD (World.news_of_block (alloc_at _ _ _ rfl));have hB5:B≤(y3.alloc (.cells #[.string c.nm,.int .i64 c.super,.int .i64 c.fields,.slice ba bm bc] 60)).heap.size:=by simp only[World.size_alloc];omega
     replace hA3:=HD hA3;refine hK.out _ _ ?_ ?_
     ·(try dsimp only);exact hE5.out.e3 (o:=1) rfl
     clear hK K9 hHeld;intro hHeld
     try simp only[nA]
     refine wpAnyH_ready (rs:=[5]) (by kernel_rfl) (by simp) ?_;refine AllReadyH.cons (o:=⟨some 68,.call { callee:=.builtin .append,args:=#[.tmp 64,.tmp 67],argTypes:=#[23,23] },23,"ref.go:358",#[⟨1,.data⟩,⟨4,.data⟩,⟨3,.chain⟩],none⟩) rfl (fun K9 hK=>?_) AllReadyH.nil;refine step_append_lies _ rfl (.tmp 64) (.tmp 67) 23 rfl B 60 i1 (.agg #[.string ByteArray.empty,.int .i64 0,.int .i64 0,.slice none 0 0]) 4 56 Tryz.underlying23 hi1 hi1z hi1s hi1b rfl (by decide) (.slice ua A.length uc) A.length _ rfl hOA.out ⟨y3.heap.size,0,none⟩ 1 1 (cl4s [(c,.slice ba bm bc)]) rfl rfl rd5.out (cl4s_one _ (fun x hx=>by obtain rfl:=List.mem_singleton.1 hx;exact⟨_,_,_,rfl⟩)) (by omega) (by omega) (by omega) hB5 _ rfl ?_;intro g1 cap1 w7 hown1 hgrow1 hat1 hlt1;have hP:=HD (hG.out.push (x:=(c,.slice ba bm bc)) hX.out.1 hX.out.2 (fun k e=>by have:=hlt.out k e;omega) (by omega) hA3.out hown1 hgrow1 (fun k hk=>by
      have e1:g1=k:=by simpa [Value.ownBlock] using hk
      rcases hat1 with e | e
      ·exact Or.inl (by rw[← e1];exact e)
      ·exact Or.inr (by rw[← e1];exact e)) (cl4s_app' A (c,.slice ba bm bc)))
     have hc7:Cg (fun k=>(Value.slice ua A.length uc).ownBlock=some k) y3 w7:=(Cg.below _ hA3.out).grown hgrow1 (fun k e=>Or.inl e);replace hLB:=HD (hLB.out.cg hc7 (fun k e=>by have:=hlt.out k e;omega));replace hE:=HD (hE.out.app hc7 (fun k e=>by have:=(hlt.out k e).1;exact⟨by omega,by omega,by omega,by omega⟩));have hB7:=hc7.size;clear hown1 hgrow1 hat1 hlt1 hOA hA3 hE5 rd5 hB5 hc7 hlt hG;refine hK.out _ _ ?_ ?_
     ·(try dsimp only);exact hE.out.e3 (o:=1) rfl
     clear hK K9 hHeld;intro hHeld
     try simp only[nA]
     refine tk (i:=6) (oi:=⟨some 69,.fieldAddr 27 (.tmp 5) 1,0,"ref.go:358",#[⟨0,.phase⟩,⟨1,.phase⟩,⟨2,.phase⟩,⟨3,.phase⟩,⟨4,.phase⟩,⟨5,.phase⟩],none⟩) ?_
     try simp only[nA]
     have x3:=hE.out.e3 (o:=1) rfl;have z3:=hE.out.z3 1;refine last_step (o:=⟨none,.store 23 (.tmp 69) (.tmp 68),0,"ref.go:358",#[⟨6,.data⟩,⟨5,.data⟩,⟨5,.chain⟩,⟨0,.phase⟩,⟨1,.phase⟩,⟨2,.phase⟩,⟨3,.phase⟩,⟨4,.phase⟩,⟨5,.phase⟩],none⟩) rfl (by kernel_rfl) (fun K hK=>?_);go_simp;refine hK.out _ _ ?_;clear hK K
     try simp only[nA]
     replace hE:=HD (hE.out.set3 1 (.slice (some ⟨g1,0,none⟩) (A.length+1) cap1));have hcE:Cg (fun k=>k=E) w7 (w7.setCell ⟨E,1,none⟩ (.slice (some ⟨g1,0,none⟩) (A.length+1) cap1)):=(Cg.refl (fun k=>k=E) w7).set ⟨E,1,none⟩ rfl (.slice (some ⟨g1,0,none⟩) (A.length+1) cap1);replace hP:=HD (hP.out.cg hcE (fun k e=>by omega));replace hLB:=HD (hLB.out.cg hcE (fun k e=>by omega));clear hcE
     go_wp2
     go_roundw
     case rel=>exact⟨j,A++[(c,.slice ba bm bc)],_,_,_,_,by rw[List.length_append];simp only[List.length_cons,List.length_nil];omega,by omega,by go_num,hq,hE,hP,hLB,hM2,by rw[World.size_setCell];omega⟩
     case measure=>simp[intOf]
  case rest =>
  obtain⟨v1',a2,m2,c2,J,hE,hL⟩:=hcut;have hr0:rowR mtR q2.2=manyR mtR (cntR q2.2).1.toNat [] (cntR q2.2).2:=rfl;rw[hQ3.out] at hr0;have hcb:=cnt_bd q2.2;have hcl:=cntR_len q2.2;have P1:=count_c hE.out.r;generalize cntR q2.2=r at hr0 hcb hcl P1;obtain⟨x,t1⟩:=r;simp only at hr0 hcb hcl P1;obtain⟨n,rfl⟩:∃ n:Nat,x=n:=⟨x.toNat,by omega⟩
  rw[Int.toNat_natCast] at hr0;have hn1:n≤100000:=by omega
  have ht1:t1.1.length≤100000:=by omega
  replace hr0:=HD hr0.symm;replace P1:=HD P1;clear hcb hcl
  go_upto_block 4 with (first | (go_at_call 53;((with_reducible refine P1.out.mono ?_);rintro e1 y1 ⟨rfl,⟨v1,hR1⟩,hc1⟩)))
  have hcs:=hc1.size;replace hL:=HD (hL.out.cg hc1 (fun k e=>by omega));replace hE:=HD (hE.out.call hR1 hc1);clear P1 hR1 hc1;have hELt:=hE.out.lt;obtain⟨B,hB⟩:∃ B,y1.heap.size=B:=⟨_,rfl⟩
  rw[hB] at hELt;have hLB:Hid (LiesB (E+1) B J y1 (fun w2=>NmV w2 (.slice a1 m1 c1) q1.1∧ClV w2 (.slice a2 m2 c2) q2.1)):=HD (by rw[← hB];exact hL.out.b)
  go_cut [] (fun wx=>∃ (v':Value) (a3:Option Addr) (m3 c3:Nat) (J:Nat→Prop),Hid (EZ w w wx (w.heap.size+1) v' q3.2 27 w.heap.size z5U 27 E #[.slice a1 m1 c1,.slice a2 m2 c2,.slice a3 m3 c3,.slice none 0 0,.int .i64 0])∧Hid (Lies (E+1) J wx (fun w2=>NmV w2 (.slice a1 m1 c1) q1.1∧ClV w2 (.slice a2 m2 c2) q2.1∧MtV w2 (.slice a3 m3 c3) q3.1)))
  case first =>
   have hG:Hid (GrM B y1 (fun _=>False) (.slice none 0 0) []):=HD (GrX.nil rfl)
   go_wp2_with fail
   go_loopw [8] (fun i4 wr=>∃ (j:Nat) (A:List (MethA × Value × Value)) (s':Rd8) (v':Value) (I:Nat→Prop) (u:Value),A.length+j≤n∧j≤n∧i4=.int .i64 j∧Hid (manyR mtR j (A.map (·.1)) s'=q3)∧Hid (EZ w w wr (w.heap.size+1) v' s' 27 w.heap.size z5U 27 E #[.slice a1 m1 c1,.slice a2 m2 c2,u,.slice none 0 0,.int .i64 0])∧Hid (GrM B wr I u A)∧Hid (LiesB (E+1) B J wr (fun w2=>NmV w2 (.slice a1 m1 c1) q1.1∧ClV w2 (.slice a2 m2 c2) q2.1))∧s'.1.length≤100000∧B≤wr.heap.size) (fun i4 _=>(intOf i4).toNat)
   case atStart=>exact⟨n,[],_,_,_,_,by simp,Nat.le_refl _,rfl,hr0,hE,hG,hLB,ht1,by omega⟩
   case round =>
    clear hE hG hr0 hLB hL;obtain⟨j,A,s',v',I,u,hj,hjn,rfl,hQ,hE,hG,hLB,hM1,hBr⟩:=hrel;have cf:=hE.out.r.c1;obtain⟨M,b⟩:=s';simp only at cf hM1;obtain⟨ua,uc,rfl⟩:=own_form hG.out.own;by_cases hend:j=0∨b=true
    ·have hq:Hid (((A.map (·.1)),(M,b))=q3):=HD (by
      rw[← hQ.out];rcases hend with rfl | rfl
      ·rfl
      ·cases j <;> rfl)
     have hL2:Hid (Lies B _ wr (fun w2=>MtV w2 (.slice ua A.length uc) (A.map (·.1)))):=HD (lies_gr hG.out hG.out.mtv);have hfin:=HD ((lies2 (hLB.out.lies hBr) hL2.out (by omega)).imp (Nat.le_refl _) (fun w2 (h:(NmV w2 (.slice a1 m1 c1) q1.1∧ClV w2 (.slice a2 m2 c2) q2.1)∧MtV w2 (.slice ua A.length uc) (A.map (·.1)))=>(show NmV w2 (.slice a1 m1 c1) q1.1∧ClV w2 (.slice a2 m2 c2) q2.1∧MtV w2 (.slice ua A.length uc) (A.map (·.1)) from ⟨h.1.1,h.1.2,h.2⟩)));rcases hend with rfl | rfl
     ·clear hQ;have t1:decide ((0:Int) < ((0:Nat):Int))=false:=by decide
      go_wp2
      go_meet
      case rel =>
       have e1:=hq.out;subst e1;exact⟨v',ua,A.length,uc,_,hE,hfin⟩
     ·clear hQ;cases j with
      | succ j =>
      have t1:decide ((0:Int) < ((j+1:Nat):Int))=true:=by simp
      go_wp2
      go_meet
      case rel =>
       have e1:=hq.out;subst e1;exact⟨v',ua,A.length,uc,_,hE,hfin⟩
      | zero =>
      have t1:decide ((0:Int) < ((0:Nat):Int))=false:=by decide
      go_wp2
      go_meet
      case rel =>
       have e1:=hq.out;subst e1;exact⟨v',ua,A.length,uc,_,hE,hfin⟩
    ·obtain⟨hj0,hb⟩:=not_or.1 hend;simp only[Bool.not_eq_true] at hb;subst hb;obtain⟨j,rfl⟩:∃ i,j=i+1:=⟨j - 1,by omega⟩
     clear hend hj0;have d1:decide ((0:Int) < ((j+1:Nat):Int))=true:=by simp
     have hq:manyR mtR j ((A.map (·.1))++[(mtR (M,false)).1]) (mtR (M,false)).2=q3:=hQ.out;have hM2:=Nat.le_trans ((mtR_len) (M,false)) hM1;clear hQ;have hmt:mtR (M,false)=(⟨(numR (M,false)).1,(numR (numR (M,false)).2).1,(rowR prR (numR (numR (M,false)).2).2).1,(txtR (rowR prR (numR (numR (M,false)).2).2).2).1⟩,(txtR (rowR prR (numR (numR (M,false)).2).2).2).2):=rfl;rw[hmt] at hq hM2;clear hmt;have hbd:=hE.out.r.bd;have n1:=(numR_all.2 hbd).1.i64;have hb1:=(numR_all.2 hbd).2;have n2:=(numR_all.2 hb1).1.i64;have hb2:=(numR_all.2 hb1).2;have n3:=(rowR_all.2 hb2).1;have n4:=txtR_bd (rowR_all.2 hb2).2;have hv3:(numR (numR (M,false)).2).2.1.length≤100000:=Nat.le_trans numR_all.1 (Nat.le_trans numR_all.1 hM1);have hv4:(txtR (rowR prR (numR (numR (M,false)).2).2).2).1.length≤100000:=by
      have h1:(txtR (rowR prR (numR (numR (M,false)).2).2).2).1.length≤(cntR (rowR prR (numR (numR (M,false)).2).2).2).2.1.length:=by
       show (List.take _ _).length≤_;rw[List.length_take];omega
      exact Nat.le_trans h1 (Nat.le_trans (cntR_len _) (Nat.le_trans rowR_all.1 hv3))
     have P1:=num_c hE.out.r;generalize numR (M,false)=r1 at hq hM2 n1 n2 n3 n4 hv3 hv4 P1 hb1 hb2;generalize hR2:numR r1.2=r2 at hq hM2 n2 n3 n4 hv3 hv4 hb2;generalize hR3:rowR prR r2.2=r3 at hq hM2 n3 n4 hv4;have hN4:nmR r3.2=(textOf (txtR r3.2).1,(txtR r3.2).2):=rfl;generalize hR4:txtR r3.2=r4 at hq hM2 n4 hv4 hN4;clear hb1 hb2 hbd hR4;simp only at hM2;have hq:Hid (manyR mtR j ((A.map (·.1))++[⟨r1.1,r2.1,r3.1,r4.1⟩]) r4.2=q3):=HD hq;replace hR2:=HD hR2;replace hR3:=HD hR3;replace hN4:=HD hN4;replace n1:=HD n1;replace n2:=HD n2;replace n3:=HD n3;replace n4:=HD n4;replace P1:=HD P1;have hpr:=hE.out.lt;have hwr:=hE.out.r.bel.size
     go_upto_region 18 with fail
     clear cf
     go_wp2_with fail
     with_reducible refine P1.out.mono ?_
     rintro e1 y2 ⟨rfl,⟨v2,hR⟩,hc⟩;have hm:=HD (EM.born (T:=63) (C:=#[.int .i64 r1.1,.int .i64 0,.slice none 0 0,.slice none 0 0]) hR hc (by omega) (by omega));have hDw:=hc.size;clear P1 hR hc;obtain⟨D,hD⟩:∃ D,y2.heap.size=D:=⟨_,rfl⟩
     rw[hD] at hm hDw
     go_upto_region 19 with fail
     try simp only[hD]
     clear hD;obtain⟨W1,hW1⟩:∃ W,y2.alloc (.cells #[.int .i64 r1.1,.int .i64 0,.slice none 0 0,.slice none 0 0] 63)=W:=⟨_,rfl⟩
     rw[hW1] at hm
     try simp only[hW1]
     clear hW1;have P1:=num_c hm.out.r;rw[hR2.out] at P1;replace P1:=HD P1
     go_wp2_with fail
     with_reducible refine P1.out.mono ?_
     rintro e1 y2 ⟨rfl,⟨v2,hR⟩,hc⟩;replace hm:=HD (hm.out.call hR hc);clear P1 hR hc;have k0:=hm.out.e (o:=1) rfl;have z0:=hm.out.z 1
     go_upto_region 20 with fail
     replace hm:=HD (hm.out.set 1 (.int .i64 r2.1));generalize y2.setCell ⟨D,1,none⟩ (.int .i64 r2.1)=W2 at *;clear k0 z0;have P1:=vals_c hm.out.r hv3;rw[hR3.out] at P1;replace P1:=HD P1;have hDl:=hm.out.lt
     go_wp2_with fail
     with_reducible refine P1.out.mono ?_
     rintro e1 y2 ⟨⟨lv,rfl,hown⟩,⟨v2,hR⟩,hc⟩;obtain⟨la,lc,rfl⟩:=own_form hown;have hLv:Hid (Lies (D+1) (fun k=>(Value.slice la r3.1.length lc).ownBlock=some k) y2 (fun w2=>PrV w2 (.slice la r3.1.length lc) r3.1)):=HD ⟨stay_prv (PrV.own hown n3.out),fun k e=>by have:=hown.lt k e;omega⟩;replace hm:=HD (hm.out.call hR hc);clear P1 hR hc hown hDl;have k0:=hm.out.e (o:=2) rfl;have z0:=hm.out.z 2
     go_upto_region 21 with fail
     replace hm:=HD (hm.out.set 2 (.slice la r3.1.length lc));replace hLv:=HD (hLv.out.set (E:=D) (o:=2) (by omega) (.slice la r3.1.length lc));generalize y2.setCell ⟨D,2,none⟩ (.slice la r3.1.length lc)=W3 at *;clear k0 z0;have P1:=rtext_c hm.out.r;rw[hN4.out] at P1;replace P1:=HD P1;have hDl:=hm.out.lt
     go_wp2_with fail
     with_reducible refine P1.out.mono ?_
     rintro e1 y2 ⟨rfl,⟨v2,hR⟩,hc⟩;replace hLv:=HD (hLv.out.cg hc (fun k e=>by omega));replace hm:=HD (hm.out.call hR hc);have hys:=hc.size;clear P1 hR hc;have hcv:=run_bytes_of_string y2 9 36 5 (textOf r4.1) Tryz.underlying9 Tryz.underlying36 Tryz.underlying5;have hrb:=rb_conv (w:=y2) y2.heap.size 5 (textOf r4.1) (Nat.le_refl _) (by rw[textOf_len];omega);rw[strB,tby_of n4.out] at hrb;rw[textOf_len] at hcv hrb;generalize grownCap y2 r4.1.length 0 5=xc at hcv hrb;obtain⟨X,hX⟩:∃ X,y2.heap.size=X:=⟨_,rfl⟩
     rw[hX] at hcv hrb;obtain⟨y3,hy3⟩:∃ y,y2.drew.alloc (.cells (bytesRow (textOf r4.1) xc) 5 ((bytesRow (textOf r4.1) xc).size,(bytesRow (textOf r4.1) xc).size+1))=y:=⟨_,rfl⟩
     rw[hy3] at hcv hrb;have hby:Below y2.heap.size y2 y3:=by rw[← hy3];exact ((Below.refl y2.heap.size y2).drew).alloc (Nat.le_refl _) _
     have hys3:=hby.size;have hLc:Hid (Lies (D+1) (fun k=>(Value.slice (some ⟨X,0,none⟩) r4.1.length xc).ownBlock=some k) y3 (fun w2=>ByV w2 (.slice (some ⟨X,0,none⟩) r4.1.length xc) r4.1)):=HD ⟨stay_byv (hrb.byv n4.out),fun k e=>by have:=hrb.lt k e;omega⟩;replace hLv:=HD (hLv.out.cg (Cg.below (fun _=>False) hby) (fun k e=>e.elim));replace hm:=HD (hm.out.up hby);clear hrb hy3 hby hX;have k0:=hm.out.e (o:=3) rfl;have z0:=hm.out.z 3
     go_upto_region 22 with fail
     replace hm:=HD (hm.out.set 3 (.slice (some ⟨X,0,none⟩) r4.1.length xc));replace hLv:=HD (hLv.out.set (E:=D) (o:=3) (by omega) (.slice (some ⟨X,0,none⟩) r4.1.length xc));replace hLc:=HD (hLc.out.set (E:=D) (o:=3) (by omega) (.slice (some ⟨X,0,none⟩) r4.1.length xc));generalize y3.setCell ⟨D,3,none⟩ (.slice (some ⟨X,0,none⟩) r4.1.length xc)=W4 at *;clear k0 z0 hcv;have hX2:=HD ((lies2 hLv.out hLc.out (Nat.le_refl _)).imp (Nat.le_refl _) (fun w2 h=>(show Qm ((⟨r1.1,r2.1,r3.1,r4.1⟩:MethA),Value.slice la r3.1.length lc,Value.slice (some ⟨X,0,none⟩) r4.1.length xc) w2 from ⟨n1.out,n2.out,h.1,h.2⟩)));clear hLv hLc;have hq:Hid (manyR mtR j ((A++[((⟨r1.1,r2.1,r3.1,r4.1⟩:MethA),Value.slice la r3.1.length lc,Value.slice (some ⟨X,0,none⟩) r4.1.length xc)]).map (·.1)) r4.2=q3):=HD (by rw[List.map_append];exact hq.out);have m0:W4.cell? ⟨D,0,none⟩=some (.int .i64 r1.1):=hm.out.e (o:=0) rfl;have m1:W4.cell? ⟨D,1,none⟩=some (.int .i64 r2.1):=hm.out.e (o:=1) rfl;have m2:W4.cell? ⟨D,2,none⟩=some (.slice la r3.1.length lc):=hm.out.e (o:=2) rfl;have m3:W4.cell? ⟨D,3,none⟩=some (.slice (some ⟨X,0,none⟩) r4.1.length xc):=hm.out.e (o:=3) rfl;have hpB:w.heap.size+1 < B:=by have:=hE.out.ne;omega
     replace hE:=HD (hE.out.call hm.out.r hm.out.cg);have hlt:=HD (fun k (e:(Value.slice ua A.length uc).ownBlock=some k)=>(hG.out.own.lt k e));replace hG:=HD (hG.out.cg hm.out.cg (fun k e=>by omega));replace hLB:=HD (hLB.out.cg hm.out.cg (fun k e=>by omega));have hB3:=hm.out.cg.size;have x3:=hE.out.e3 (o:=2) rfl;have hA3:=(Below.refl W4.heap.size W4).alloc (Nat.le_refl _) (.cells #[.int .i64 r1.1,.int .i64 r2.1,.slice la r3.1.length lc,.slice (some ⟨X,0,none⟩) r4.1.length xc] 63);have hOA:=HD (row_bel hG.out.own hA3);have hE5:=HD (hE.out.up hA3);replace hA3:=HD hA3
     go_wp2_with (first | (at_builtin;refine wpList_append_lies _ rfl (.tmp 97) (.tmp 99) 24 rfl B 63 i2 (.agg #[.int .i64 0,.int .i64 0,.slice none 0 0,.slice none 0 0]) 4 64 Tryz.underlying24 hi2 hi2z hi2s hi2b rfl (by decide) (.slice ua A.length uc) A.length _ (by simp[Act.eval]) hOA.out ⟨W4.heap.size,0,none⟩ 1 1 (mt4s [((⟨r1.1,r2.1,r3.1,r4.1⟩:MethA),Value.slice la r3.1.length lc,Value.slice (some ⟨X,0,none⟩) r4.1.length xc)]) (by simp[Act.eval]) rfl (World.news_of_block (alloc_at _ _ _ rfl)) (mt4s_one _ (fun x hx=>by obtain rfl:=List.mem_singleton.1 hx;exact⟨⟨_,_,_,rfl⟩,_,_,_,rfl⟩)) (by omega) (by omega) (by omega) (by simp only[World.size_alloc];omega) _ rfl ?_;intro g1 cap1 w7 hown1 hgrow1 hat1 hlt1;have hP:=HD (hG.out.push (x:=((⟨r1.1,r2.1,r3.1,r4.1⟩:MethA),Value.slice la r3.1.length lc,Value.slice (some ⟨X,0,none⟩) r4.1.length xc)) hX2.out.1 hX2.out.2 (fun k e=>by have:=hlt.out k e;omega) (by omega) hA3.out hown1 hgrow1 (fun k hk=>(hat1.imp (fun e=>by rw[e,← hk];rfl) (fun e=>by rw[← e];exact (Option.some.inj hk).symm))) (mt4s_app' A ((⟨r1.1,r2.1,r3.1,r4.1⟩:MethA),Value.slice la r3.1.length lc,Value.slice (some ⟨X,0,none⟩) r4.1.length xc)));have hc7:Cg (fun k=>(Value.slice ua A.length uc).ownBlock=some k) W4 w7:=(Cg.below _ hA3.out).grown hgrow1 (fun k e=>Or.inl e);replace hLB:=HD (hLB.out.cg hc7 (fun k e=>by have:=hlt.out k e;omega));replace hE:=HD (hE.out.app hc7 (fun k e=>by have:=(hlt.out k e).1;exact⟨by omega,by omega,by omega,by omega⟩));have hB7:=hc7.size;clear hown1 hgrow1 hat1 hlt1 hOA hA3 hE5 hc7 hlt hG x3;have x3:=hE.out.e3 (o:=2) rfl;have z3:=hE.out.z3 2))
     go_roundw
     case rel =>
      have hcE:Cg (fun k=>k=E) w7 (w7.setCell ⟨E,2,none⟩ (.slice (some ⟨g1,0,none⟩) (A.length+1) cap1)):=(Cg.refl (fun k=>k=E) w7).set ⟨E,2,none⟩ rfl (.slice (some ⟨g1,0,none⟩) (A.length+1) cap1);exact⟨j,A++[((⟨r1.1,r2.1,r3.1,r4.1⟩:MethA),Value.slice la r3.1.length lc,Value.slice (some ⟨X,0,none⟩) r4.1.length xc)],_,_,_,_,by rw[List.length_append];simp only[List.length_cons,List.length_nil];omega,by omega,by go_num,hq,HD (hE.out.set3 2 (.slice (some ⟨g1,0,none⟩) (A.length+1) cap1)),HD (hP.out.cg hcE (fun k e=>by omega)),HD (hLB.out.cg hcE (fun k e=>by omega)),hM2,by rw[World.size_setCell];omega⟩
     case measure=>simp[intOf]
  case rest =>
  obtain⟨v1',a3,m3,c3,J,hE,hL⟩:=hcut;have hr0:rowR obR q3.2=manyR obR (cntR q3.2).1.toNat [] (cntR q3.2).2:=rfl;rw[hQ4.out] at hr0;have hcb:=cnt_bd q3.2;have hcl:=cntR_len q3.2;have P1:=count_c hE.out.r;generalize cntR q3.2=r at hr0 hcb hcl P1;obtain⟨x,t1⟩:=r;simp only at hr0 hcb hcl P1;obtain⟨n,rfl⟩:∃ n:Nat,x=n:=⟨x.toNat,by omega⟩
  rw[Int.toNat_natCast] at hr0;have hn1:n≤100000:=by omega
  have ht1:t1.1.length≤100000:=by omega
  replace hr0:=HD hr0.symm;replace P1:=HD P1;clear hcb hcl
  go_upto_block 6 with (first | (go_at_call 53;((with_reducible refine P1.out.mono ?_);rintro e1 y1 ⟨rfl,⟨v1,hR1⟩,hc1⟩)))
  have hcs:=hc1.size;replace hL:=HD (hL.out.cg hc1 (fun k e=>by omega));replace hE:=HD (hE.out.call hR1 hc1);clear P1 hR1 hc1;have hELt:=hE.out.lt;obtain⟨B,hB⟩:∃ B,y1.heap.size=B:=⟨_,rfl⟩
  rw[hB] at hELt;have hLB:Hid (LiesB (E+1) B J y1 (fun w2=>NmV w2 (.slice a1 m1 c1) q1.1∧ClV w2 (.slice a2 m2 c2) q2.1∧MtV w2 (.slice a3 m3 c3) q3.1)):=HD (by rw[← hB];exact hL.out.b)
  go_cut [] (fun wx=>∃ (v':Value) (a4:Option Addr) (m4 c4:Nat) (J:Nat→Prop),Hid (EZ w w wx (w.heap.size+1) v' q4.2 27 w.heap.size z5U 27 E #[.slice a1 m1 c1,.slice a2 m2 c2,.slice a3 m3 c3,.slice a4 m4 c4,.int .i64 0])∧Hid (Lies (E+1) J wx (fun w2=>NmV w2 (.slice a1 m1 c1) q1.1∧ClV w2 (.slice a2 m2 c2) q2.1∧MtV w2 (.slice a3 m3 c3) q3.1∧ObV w2 (.slice a4 m4 c4) q4.1)))
  case first =>
   have hG:Hid (GrO B y1 (fun _=>False) (.slice none 0 0) []):=HD (GrX.nil rfl)
   go_wp2_with fail
   go_loopw [10] (fun i4 wr=>∃ (j:Nat) (A:List (ObjA × Value)) (s':Rd8) (v':Value) (I:Nat→Prop) (u:Value),A.length+j≤n∧j≤n∧i4=.int .i64 j∧Hid (manyR obR j (A.map (·.1)) s'=q4)∧Hid (EZ w w wr (w.heap.size+1) v' s' 27 w.heap.size z5U 27 E #[.slice a1 m1 c1,.slice a2 m2 c2,.slice a3 m3 c3,u,.int .i64 0])∧Hid (GrO B wr I u A)∧Hid (LiesB (E+1) B J wr (fun w2=>NmV w2 (.slice a1 m1 c1) q1.1∧ClV w2 (.slice a2 m2 c2) q2.1∧MtV w2 (.slice a3 m3 c3) q3.1))∧s'.1.length≤100000∧B≤wr.heap.size) (fun i4 _=>(intOf i4).toNat)
   case atStart=>exact⟨n,[],_,_,_,_,by simp,Nat.le_refl _,rfl,hr0,hE,hG,hLB,ht1,by omega⟩
   case round =>
    clear hE hG hr0 hLB hL;obtain⟨j,A,s',v',I,u,hj,hjn,rfl,hQ,hE,hG,hLB,hM1,hBr⟩:=hrel;have cf:=hE.out.r.c1;obtain⟨M,b⟩:=s';simp only at cf hM1;obtain⟨ua,uc,rfl⟩:=own_form hG.out.own;by_cases hend:j=0∨b=true
    ·have hq:Hid (((A.map (·.1)),(M,b))=q4):=HD (by
      rw[← hQ.out];rcases hend with rfl | rfl
      ·rfl
      ·cases j <;> rfl)
     have hL2:Hid (Lies B _ wr (fun w2=>ObV w2 (.slice ua A.length uc) (A.map (·.1)))):=HD (lies_gr hG.out hG.out.obv);have hfin:=HD ((lies2 (hLB.out.lies hBr) hL2.out (by omega)).imp (Nat.le_refl _) (fun w2 (h:(NmV w2 (.slice a1 m1 c1) q1.1∧ClV w2 (.slice a2 m2 c2) q2.1∧MtV w2 (.slice a3 m3 c3) q3.1)∧ObV w2 (.slice ua A.length uc) (A.map (·.1)))=>(show NmV w2 (.slice a1 m1 c1) q1.1∧ClV w2 (.slice a2 m2 c2) q2.1∧MtV w2 (.slice a3 m3 c3) q3.1∧ObV w2 (.slice ua A.length uc) (A.map (·.1)) from ⟨h.1.1,h.1.2.1,h.1.2.2,h.2⟩)));rcases hend with rfl | rfl
     ·clear hQ;have t1:decide ((0:Int) < ((0:Nat):Int))=false:=by decide
      go_wp2
      go_meet
      case rel =>
       have e1:=hq.out;subst e1;exact⟨v',ua,A.length,uc,_,hE,hfin⟩
     ·clear hQ;cases j with
      | succ j =>
      have t1:decide ((0:Int) < ((j+1:Nat):Int))=true:=by simp
      go_wp2
      go_meet
      case rel =>
       have e1:=hq.out;subst e1;exact⟨v',ua,A.length,uc,_,hE,hfin⟩
      | zero =>
      have t1:decide ((0:Int) < ((0:Nat):Int))=false:=by decide
      go_wp2
      go_meet
      case rel =>
       have e1:=hq.out;subst e1;exact⟨v',ua,A.length,uc,_,hE,hfin⟩
    ·obtain⟨hj0,hb⟩:=not_or.1 hend;simp only[Bool.not_eq_true] at hb;subst hb;obtain⟨j,rfl⟩:∃ i,j=i+1:=⟨j - 1,by omega⟩
     clear hend hj0;have d1:decide ((0:Int) < ((j+1:Nat):Int))=true:=by simp
     have hq:manyR obR j ((A.map (·.1))++[(obR (M,false)).1]) (obR (M,false)).2=q4:=hQ.out;have hM2:=Nat.le_trans ((obR_len) (M,false)) hM1;clear hQ;have hmt:obR (M,false)=(⟨(numR (M,false)).1,(rowR prR (numR (M,false)).2).1⟩,(rowR prR (numR (M,false)).2).2):=rfl;rw[hmt] at hq hM2;clear hmt;have hbd:=hE.out.r.bd;have n1:=(numR_all.2 hbd).1.i64;have n3:=(rowR_all.2 (numR_all.2 hbd).2).1;have hv3:(numR (M,false)).2.1.length≤100000:=Nat.le_trans numR_all.1 hM1;have P1:=num_c hE.out.r;generalize numR (M,false)=r1 at hq hM2 n1 n3 hv3 P1;generalize hR3:rowR prR r1.2=r3 at hq hM2 n3;clear hbd;simp only at hM2;have hq:Hid (manyR obR j ((A.map (·.1))++[⟨r1.1,r3.1⟩]) r3.2=q4):=HD hq;replace hR3:=HD hR3;replace n1:=HD n1;replace n3:=HD n3;replace P1:=HD P1;have hpr:=hE.out.lt;have hwr:=hE.out.r.bel.size
     go_upto_region 26 with fail
     clear cf
     go_wp2_with fail
     with_reducible refine P1.out.mono ?_
     rintro e1 y2 ⟨rfl,⟨v2,hR⟩,hc⟩;have hm:=HD (EM.born (T:=55) (C:=#[.int .i64 r1.1,.slice none 0 0]) hR hc (by omega) (by omega));have hDw:=hc.size;clear P1 hR hc;obtain⟨D,hD⟩:∃ D,y2.heap.size=D:=⟨_,rfl⟩
     rw[hD] at hm hDw
     go_upto_region 27 with fail
     try simp only[hD]
     clear hD;obtain⟨W1,hW1⟩:∃ W,y2.alloc (.cells #[.int .i64 r1.1,.slice none 0 0] 55)=W:=⟨_,rfl⟩
     rw[hW1] at hm
     try simp only[hW1]
     clear hW1;have P1:=vals_c hm.out.r hv3;rw[hR3.out] at P1;replace P1:=HD P1;have hDl:=hm.out.lt
     go_wp2_with fail
     with_reducible refine P1.out.mono ?_
     rintro e1 y2 ⟨⟨lv,rfl,hown⟩,⟨v2,hR⟩,hc⟩;obtain⟨la,lc,rfl⟩:=own_form hown;have hLv:Hid (Lies (D+1) (fun k=>(Value.slice la r3.1.length lc).ownBlock=some k) y2 (fun w2=>PrV w2 (.slice la r3.1.length lc) r3.1)):=HD ⟨stay_prv (PrV.own hown n3.out),fun k e=>by have:=hown.lt k e;omega⟩;replace hm:=HD (hm.out.call hR hc);clear P1 hR hc hown hDl;have k0:=hm.out.e (o:=1) rfl;have z0:=hm.out.z 1
     go_upto_region 28 with fail
     replace hm:=HD (hm.out.set 1 (.slice la r3.1.length lc));replace hLv:=HD (hLv.out.set (E:=D) (o:=1) (by omega) (.slice la r3.1.length lc));generalize y2.setCell ⟨D,1,none⟩ (.slice la r3.1.length lc)=W4 at *;clear k0 z0;have hX2:=HD (hLv.out.imp (Nat.le_refl _) (fun w2 h=>(show Qo ((⟨r1.1,r3.1⟩:ObjA),Value.slice la r3.1.length lc) w2 from ⟨n1.out,h⟩)));clear hLv;have hq:Hid (manyR obR j ((A++[((⟨r1.1,r3.1⟩:ObjA),Value.slice la r3.1.length lc)]).map (·.1)) r3.2=q4):=HD (by rw[List.map_append];exact hq.out);have m0:W4.cell? ⟨D,0,none⟩=some (.int .i64 r1.1):=hm.out.e (o:=0) rfl;have m1:W4.cell? ⟨D,1,none⟩=some (.slice la r3.1.length lc):=hm.out.e (o:=1) rfl;have hpB:w.heap.size+1 < B:=by have:=hE.out.ne;omega
     replace hE:=HD (hE.out.call hm.out.r hm.out.cg);have hlt:=HD (fun k (e:(Value.slice ua A.length uc).ownBlock=some k)=>(hG.out.own.lt k e));replace hG:=HD (hG.out.cg hm.out.cg (fun k e=>by omega));replace hLB:=HD (hLB.out.cg hm.out.cg (fun k e=>by omega));have hB3:=hm.out.cg.size;have x3:=hE.out.e3 (o:=3) rfl;have hA3:=(Below.refl W4.heap.size W4).alloc (Nat.le_refl _) (.cells #[.int .i64 r1.1,.slice la r3.1.length lc] 55);have hOA:=HD (row_bel hG.out.own hA3);have hE5:=HD (hE.out.up hA3);replace hA3:=HD hA3
     go_wp2_with (first | (at_builtin;refine wpList_append_lies _ rfl (.tmp 122) (.tmp 124) 25 rfl B 55 i3 (.agg #[.int .i64 0,.slice none 0 0]) 2 32 Tryz.underlying25 hi3 hi3z hi3s hi3b rfl (by decide) (.slice ua A.length uc) A.length _ (by simp[Act.eval]) hOA.out ⟨W4.heap.size,0,none⟩ 1 1 (ob2s [((⟨r1.1,r3.1⟩:ObjA),Value.slice la r3.1.length lc)]) (by simp[Act.eval]) rfl (World.news_of_block (alloc_at _ _ _ rfl)) (ob2s_one _ (fun x hx=>by obtain rfl:=List.mem_singleton.1 hx;exact⟨_,_,_,rfl⟩)) (by omega) (by omega) (by omega) (by simp only[World.size_alloc];omega) _ rfl ?_;intro g1 cap1 w7 hown1 hgrow1 hat1 hlt1;have hP:=HD (hG.out.push (x:=((⟨r1.1,r3.1⟩:ObjA),Value.slice la r3.1.length lc)) hX2.out.1 hX2.out.2 (fun k e=>by have:=hlt.out k e;omega) (by omega) hA3.out hown1 hgrow1 (fun k hk=>(hat1.imp (fun e=>by rw[e,← hk];rfl) (fun e=>by rw[← e];exact (Option.some.inj hk).symm))) (ob2s_app' A ((⟨r1.1,r3.1⟩:ObjA),Value.slice la r3.1.length lc)));have hc7:Cg (fun k=>(Value.slice ua A.length uc).ownBlock=some k) W4 w7:=(Cg.below _ hA3.out).grown hgrow1 (fun k e=>Or.inl e);replace hLB:=HD (hLB.out.cg hc7 (fun k e=>by have:=hlt.out k e;omega));replace hE:=HD (hE.out.app hc7 (fun k e=>by have:=(hlt.out k e).1;exact⟨by omega,by omega,by omega,by omega⟩));have hB7:=hc7.size;clear hown1 hgrow1 hat1 hlt1 hOA hA3 hE5 hc7 hlt hG x3;have x3:=hE.out.e3 (o:=3) rfl;have z3:=hE.out.z3 3))
     go_roundw
     case rel =>
      have hcE:Cg (fun k=>k=E) w7 (w7.setCell ⟨E,3,none⟩ (.slice (some ⟨g1,0,none⟩) (A.length+1) cap1)):=(Cg.refl (fun k=>k=E) w7).set ⟨E,3,none⟩ rfl (.slice (some ⟨g1,0,none⟩) (A.length+1) cap1);exact⟨j,A++[((⟨r1.1,r3.1⟩:ObjA),Value.slice la r3.1.length lc)],_,_,_,_,by rw[List.length_append];simp only[List.length_cons,List.length_nil];omega,by omega,by go_num,hq,HD (hE.out.set3 3 (.slice (some ⟨g1,0,none⟩) (A.length+1) cap1)),HD (hP.out.cg hcE (fun k e=>by omega)),HD (hLB.out.cg hcE (fun k e=>by omega)),hM2,by rw[World.size_setCell];omega⟩
     case measure=>simp[intOf]
  case rest =>
  obtain⟨v1',a4,m4,c4,J,hE,hL⟩:=hcut;clear hi0 hi0z hi0s hi0b hi1 hi1z hi1s hi1b hi2 hi2z hi2s hi2b hi3 hi3z hi3s hi3b i0 i1 i2 i3;have hELt:=hE.out.lt;have hfr:=hE.out.fr;have P1:=num_c hE.out.r;rw[hQ5.out] at P1;replace P1:=HD P1
  go_wp2_with fail
  with_reducible refine P1.out.mono ?_
  rintro e1 y5 ⟨rfl,⟨v5,hR⟩,hc⟩;replace hL:=HD (hL.out.cg hc (fun k e=>by omega));replace hE:=HD (hE.out.call hR hc);clear P1 hR hc hELt;have x3:=hE.out.e3 (o:=4) rfl;have z3:=hE.out.z3 4
  go_upto_region 30 with fail
  replace hL:=HD ((hL.out.set (E:=E) (o:=4) (by omega) (.int .i64 q5.1)).imp (Nat.le_refl _) (fun w2 h=>UnV.unk (U:=⟨q1.1,q2.1,q3.1,q4.1,q5.1⟩) ⟨h.1,h.2.1,h.2.2.1,h.2.2.2⟩));replace hE:=HD (hE.out.set3 4 (.int .i64 q5.1));generalize y5.setCell ⟨E,4,none⟩ (.int .i64 q5.1)=W5 at *;clear x3 z3;have hV:Hid (∀ U,Good b U→(U,(([],false):Rd8))=(⟨q1.1,q2.1,q3.1,q4.1,q5.1⟩,q5.2)):=HD (fun U h=>(hgo.out U h).symm.trans hq0.out);have hbo:=hbw.out;rw[← hnb.out] at hbo;replace hbo:=HD hbo;have hTl:Hid (v5=v5):=HD rfl;obtain⟨rg,roff,rn,rcap,rfl⟩:=hE.out.r.f;have hrn:rn=q5.2.1.length:=by
   obtain⟨_,_,e,_,_⟩:=hE.out.r.b.form;injection e
  obtain⟨m5,q52⟩:=q5;obtain⟨M5,f5⟩:=q52;simp only at hrn;clear hTl hgo hq0 hQ1 hQ2 hQ3 hQ4 hQ5 hbw hcap i4 i4' hn4;have hM5:=HD (List.length_eq_zero_iff (l:=M5));rw[← hrn] at hM5;replace hrn:=HD hrn;replace hE:=HD (hE.out.up (Below.refl _ _).drew);replace hL:=HD (hL.out.cg ((Cg.refl (fun _=>False) W5).drew) (fun k e=>e.elim));cases f5 with
  | true =>
   have hno:Hid (∀ U,¬ Good b U):=HD (fun U h=>by have:=hV.out U h;cases this);clear hV hM5 hrn;refine wp_region_held_drew (S:=(fun W=>W.cell? ⟨w.heap.size+1,0,none⟩=some (.slice (some ⟨rg,roff,none⟩) rn rcap)∧W.cell? ⟨w.heap.size+1,1,none⟩=some (.bool true)∧W.cell? ⟨E,0,none⟩=some (.slice a1 m1 c1)∧W.cell? ⟨E,1,none⟩=some (.slice a2 m2 c2)∧W.cell? ⟨E,2,none⟩=some (.slice a3 m3 c3)∧W.cell? ⟨E,3,none⟩=some (.slice a4 m4 c4)∧W.cell? ⟨E,4,none⟩=some (.int .i64 m5)∧ByV W (.slice (some ⟨g,off,none⟩) nb cap) b)) (by kernel_rfl) ?_ (fun hHeld=>?_)
   ·(try dsimp only);exact⟨hE.out.r.c0,hE.out.r.c1,hE.out.e3 (o:=0) rfl,hE.out.e3 (o:=1) rfl,hE.out.e3 (o:=2) rfl,hE.out.e3 (o:=3) rfl,hE.out.e3 (o:=4) rfl,hbo.out.up hE.out.r.bel⟩
   try simp only
   generalize W5.drew=y6 at *;refine tk (i:=0) (oi:=⟨some 130,.move (.tmp 4),101,"ref.go:373",#[],none⟩) (hy:=by intro w hSw;(try dsimp only at hSw);obtain⟨s0,s1,s2,s3,s4,s5,s6,s7⟩:=hSw;go_simp <;> with_reducible rfl) ?_
   try simp only[nA]
   refine tk (i:=1) (oi:=⟨some 131,.nilCheck (.tmp 130),0,"ref.go:373",#[⟨0,.data⟩],none⟩) (hy:=by intro w hSw;(try dsimp only at hSw);obtain⟨s0,s1,s2,s3,s4,s5,s6,s7⟩:=hSw;go_simp <;> with_reducible rfl) ?_
   try simp only[nA]
   refine tk (i:=2) (oi:=⟨some 132,.fieldAddr 103 (.tmp 131) 1,0,"ref.go:373",#[⟨1,.data⟩],none⟩) (hy:=by intro w hSw;(try dsimp only at hSw);obtain⟨s0,s1,s2,s3,s4,s5,s6,s7⟩:=hSw;go_simp <;> with_reducible rfl) ?_
   try simp only[nA]
   refine tk (i:=3) (oi:=⟨some 133,.load 4 (.tmp 132),4,"ref.go:373",#[⟨2,.data⟩],none⟩) (hy:=by intro w hSw;(try dsimp only at hSw);obtain⟨s0,s1,s2,s3,s4,s5,s6,s7⟩:=hSw;go_simp <;> with_reducible rfl) ?_
   try simp only[nA]
   refine tk (i:=4) (oi:=⟨some 134,.move (.tmp 133),4,"ref.go:373",#[⟨3,.data⟩],none⟩) (hy:=by intro w hSw;(try dsimp only at hSw);obtain⟨s0,s1,s2,s3,s4,s5,s6,s7⟩:=hSw;go_simp <;> with_reducible rfl) ?_
   try simp only[nA]
   refine tu (i:=5) (oi:=⟨some 135,.move (.tmp 4),101,"ref.go:373",#[⟨4,.guard⟩],some (4,false)⟩) ?_
   try simp only[nA]
   refine tu (i:=6) (oi:=⟨some 136,.nilCheck (.tmp 135),0,"ref.go:373",#[⟨5,.data⟩,⟨4,.guard⟩],some (4,false)⟩) ?_
   try simp only[nA]
   refine tu (i:=7) (oi:=⟨some 137,.fieldAddr 103 (.tmp 136) 0,0,"ref.go:373",#[⟨6,.data⟩,⟨4,.guard⟩],some (4,false)⟩) ?_
   try simp only[nA]
   refine tu (i:=8) (oi:=⟨some 138,.load 36 (.tmp 137),36,"ref.go:373",#[⟨7,.data⟩,⟨4,.guard⟩],some (4,false)⟩) ?_
   try simp only[nA]
   refine tu (i:=9) (oi:=⟨some 139,.call { callee:=.builtin .len,args:=#[.tmp 138],argTypes:=#[36] },3,"ref.go:373",#[⟨8,.data⟩,⟨4,.guard⟩],some (4,false)⟩) ?_
   try simp only[nA]
   refine tu (i:=10) (oi:=⟨some 140,.binOp .gtr 3 (.tmp 139) (.const (.int .i64 0)) 3,4,"ref.go:373",#[⟨9,.data⟩,⟨4,.guard⟩],some (4,false)⟩) ?_
   try simp only[nA]
   refine tk (i:=11) (oi:=⟨some 141,.pick (.tmp 134) (.const (.bool true)) (.tmp 140),4,"ref.go:373",#[⟨4,.data⟩,⟨10,.data⟩],none⟩) (hy:=by intro w hSw;(try dsimp only at hSw);obtain⟨s0,s1,s2,s3,s4,s5,s6,s7⟩:=hSw;go_simp <;> with_reducible rfl) ?_
   try simp only[nA]
   refine tk (i:=12) (oi:=⟨some 142,.move (.tmp 141),4,"ref.go:373",#[⟨11,.data⟩,⟨4,.chain⟩],none⟩) (hy:=by intro w hSw;(try dsimp only at hSw);obtain⟨s0,s1,s2,s3,s4,s5,s6,s7⟩:=hSw;go_simp <;> with_reducible rfl) ?_
   try simp only[nA]
   refine tu (i:=13) (oi:=⟨some 143,.load 27 (.tmp 5),27,"ref.go:373",#[⟨12,.guard⟩],some (12,false)⟩) ?_
   try simp only[nA]
   refine tu (i:=14) (oi:=⟨some 144,.call { callee:=.value (.func 25),args:=#[.tmp 143],argTypes:=#[27] },44,"ref.go:373",#[⟨13,.data⟩,⟨12,.chain⟩,⟨12,.guard⟩],some (12,false)⟩) ?_
   try simp only[nA]
   refine tu (i:=15) (oi:=⟨some 145,.binOp .neq 44 (.tmp 144) (.const (.int .i64 0)) 44,4,"ref.go:373",#[⟨14,.data⟩,⟨12,.guard⟩],some (12,false)⟩) ?_
   try simp only[nA]
   refine tk (i:=16) (oi:=⟨some 146,.pick (.tmp 142) (.const (.bool true)) (.tmp 145),4,"ref.go:373",#[⟨12,.data⟩,⟨15,.data⟩],none⟩) (hy:=by intro w hSw;(try dsimp only at hSw);obtain⟨s0,s1,s2,s3,s4,s5,s6,s7⟩:=hSw;go_simp <;> with_reducible rfl) ?_
   try simp only[nA]
   refine tk (i:=17) (oi:=⟨some 147,.move (.tmp 146),4,"ref.go:373",#[⟨16,.data⟩,⟨14,.chain⟩],none⟩) (hy:=by intro w hSw;(try dsimp only at hSw);obtain⟨s0,s1,s2,s3,s4,s5,s6,s7⟩:=hSw;go_simp <;> with_reducible rfl) ?_
   try simp only[nA]
   refine tu (i:=18) (oi:=⟨some 148,.load 27 (.tmp 5),27,"ref.go:373",#[⟨17,.guard⟩],some (17,false)⟩) ?_
   try simp only[nA]
   refine tu (i:=19) (oi:=⟨some 149,.call { callee:=.value (.func 12),args:=#[.tmp 148],argTypes:=#[27] },36,"ref.go:373",#[⟨18,.data⟩,⟨17,.chain⟩,⟨17,.guard⟩],some (17,false)⟩) ?_
   try simp only[nA]
   refine tu (i:=20) (oi:=⟨some 150,.convert 36 9 (.tmp 149),9,"ref.go:373",#[⟨19,.data⟩,⟨17,.guard⟩],some (17,false)⟩) ?_
   try simp only[nA]
   refine tu (i:=21) (oi:=⟨some 151,.move (.tmp 0),36,"ref.go:373",#[⟨17,.guard⟩],some (17,false)⟩) ?_
   try simp only[nA]
   refine tu (i:=22) (oi:=⟨some 152,.convert 36 9 (.tmp 151),9,"ref.go:373",#[⟨21,.data⟩,⟨17,.guard⟩],some (17,false)⟩) ?_
   try simp only[nA]
   refine tu (i:=23) (oi:=⟨some 153,.binOp .neq 9 (.tmp 150) (.tmp 152) 9,4,"ref.go:373",#[⟨20,.data⟩,⟨22,.data⟩,⟨17,.guard⟩],some (17,false)⟩) ?_
   try simp only[nA]
   refine tk (i:=24) (oi:=⟨some 154,.pick (.tmp 147) (.const (.bool true)) (.tmp 153),4,"ref.go:373",#[⟨17,.data⟩,⟨23,.data⟩],none⟩) (hy:=by intro w hSw;(try dsimp only at hSw);obtain⟨s0,s1,s2,s3,s4,s5,s6,s7⟩:=hSw;go_simp <;> with_reducible rfl) ?_
   try simp only[nA]
   refine wpAnyH_done (by kernel_rfl) ?_ _
   go_upto_region 31 with fail
   refine wp_region_lit ?_;refine wp_zU rfl rfl ?_
   try simp only[nA]
   refine wpList_store_row rfl 27 (.tmp 2) (.tmp 155) rfl w.heap.size z5U (by simp only[Act.eval];rfl) (by simp only[Act.eval];rfl) 27 z5U hE.out.b2 z5_info rfl z5_one ?_;have hh:=HD (setRow_heap _ _ _ z5U _ _ hE.out.b2);have hbb:=HD (below_cg hE.out.r.bel (cg_setRow _ w.heap.size z5U) (fun k e=>by omega));clear hE hL;generalize World.setRow _ w.heap.size z5U=W9 at *
   go_wp2
   obtain⟨e1,e2,e3,e4,e5⟩:=dbl5 hh.out rfl;refine bodyPost_ret (rread_res (x:=.int .i64 12) (by simp) (by simp) e1 e2 e3 e4 e5) rfl ?_;exact⟨rdA_no hno.out hm.out,hbb.out⟩
  | false =>
  by_cases hz:rn=0
  ·subst hz;obtain rfl:M5=[]:=hM5.out.1 rfl;clear hM5 hrn;have PU:=HD (runit_c hL.out.1.now);by_cases hr:unitR ⟨q1.1,q2.1,q3.1,q4.1,m5⟩=0
   ·have hz8:(bytesU ⟨q1.1,q2.1,q3.1,q4.1,m5⟩).length≤500000:=Nat.le_trans (bytes_le (right_u hr)) (by decide);have hbd8:=HD (bytes_bd (hL.out.1.now).code);have hbb:=by_bd hbo.out;have hr':=HD hr;rw[hr] at PU;by_cases heq:bytesU ⟨q1.1,q2.1,q3.1,q4.1,m5⟩=b
    ·have hG:Hid (Good b ⟨q1.1,q2.1,q3.1,q4.1,m5⟩):=HD ⟨hr,heq⟩;have et:((textOf (bytesU ⟨q1.1,q2.1,q3.1,q4.1,m5⟩)).toList == (textOf b).toList)=true:=bl_eq (by rw[heq]);clear hV heq hr hbb;refine wp_region_held_drew (S:=(fun W=>W.cell? ⟨w.heap.size+1,0,none⟩=some (.slice (some ⟨rg,roff,none⟩) 0 rcap)∧W.cell? ⟨w.heap.size+1,1,none⟩=some (.bool false)∧W.cell? ⟨E,0,none⟩=some (.slice a1 m1 c1)∧W.cell? ⟨E,1,none⟩=some (.slice a2 m2 c2)∧W.cell? ⟨E,2,none⟩=some (.slice a3 m3 c3)∧W.cell? ⟨E,3,none⟩=some (.slice a4 m4 c4)∧W.cell? ⟨E,4,none⟩=some (.int .i64 m5)∧ByV W (.slice (some ⟨g,off,none⟩) nb cap) b)) (by kernel_rfl) ?_ (fun hHeld=>?_)
     ·(try dsimp only);exact⟨hE.out.r.c0,hE.out.r.c1,hE.out.e3 (o:=0) rfl,hE.out.e3 (o:=1) rfl,hE.out.e3 (o:=2) rfl,hE.out.e3 (o:=3) rfl,hE.out.e3 (o:=4) rfl,hbo.out.up hE.out.r.bel⟩
     try simp only
     generalize W5.drew=y6 at *;refine tk (i:=0) (oi:=⟨some 130,.move (.tmp 4),101,"ref.go:373",#[],none⟩) (hy:=by intro w hSw;(try dsimp only at hSw);obtain⟨s0,s1,s2,s3,s4,s5,s6,s7⟩:=hSw;go_simp <;> with_reducible rfl) ?_
     try simp only[nA]
     refine tk (i:=1) (oi:=⟨some 131,.nilCheck (.tmp 130),0,"ref.go:373",#[⟨0,.data⟩],none⟩) (hy:=by intro w hSw;(try dsimp only at hSw);obtain⟨s0,s1,s2,s3,s4,s5,s6,s7⟩:=hSw;go_simp <;> with_reducible rfl) ?_
     try simp only[nA]
     refine tk (i:=2) (oi:=⟨some 132,.fieldAddr 103 (.tmp 131) 1,0,"ref.go:373",#[⟨1,.data⟩],none⟩) (hy:=by intro w hSw;(try dsimp only at hSw);obtain⟨s0,s1,s2,s3,s4,s5,s6,s7⟩:=hSw;go_simp <;> with_reducible rfl) ?_
     try simp only[nA]
     refine tk (i:=3) (oi:=⟨some 133,.load 4 (.tmp 132),4,"ref.go:373",#[⟨2,.data⟩],none⟩) (hy:=by intro w hSw;(try dsimp only at hSw);obtain⟨s0,s1,s2,s3,s4,s5,s6,s7⟩:=hSw;go_simp <;> with_reducible rfl) ?_
     try simp only[nA]
     refine tk (i:=4) (oi:=⟨some 134,.move (.tmp 133),4,"ref.go:373",#[⟨3,.data⟩],none⟩) (hy:=by intro w hSw;(try dsimp only at hSw);obtain⟨s0,s1,s2,s3,s4,s5,s6,s7⟩:=hSw;go_simp <;> with_reducible rfl) ?_
     try simp only[nA]
     refine tk (i:=5) (oi:=⟨some 135,.move (.tmp 4),101,"ref.go:373",#[⟨4,.guard⟩],some (4,false)⟩) (hy:=by intro w hSw;(try dsimp only at hSw);obtain⟨s0,s1,s2,s3,s4,s5,s6,s7⟩:=hSw;go_simp <;> with_reducible rfl) ?_
     try simp only[nA]
     refine tk (i:=6) (oi:=⟨some 136,.nilCheck (.tmp 135),0,"ref.go:373",#[⟨5,.data⟩,⟨4,.guard⟩],some (4,false)⟩) (hy:=by intro w hSw;(try dsimp only at hSw);obtain⟨s0,s1,s2,s3,s4,s5,s6,s7⟩:=hSw;go_simp <;> with_reducible rfl) ?_
     try simp only[nA]
     refine tk (i:=7) (oi:=⟨some 137,.fieldAddr 103 (.tmp 136) 0,0,"ref.go:373",#[⟨6,.data⟩,⟨4,.guard⟩],some (4,false)⟩) (hy:=by intro w hSw;(try dsimp only at hSw);obtain⟨s0,s1,s2,s3,s4,s5,s6,s7⟩:=hSw;go_simp <;> with_reducible rfl) ?_
     try simp only[nA]
     refine tk (i:=8) (oi:=⟨some 138,.load 36 (.tmp 137),36,"ref.go:373",#[⟨7,.data⟩,⟨4,.guard⟩],some (4,false)⟩) (hy:=by intro w hSw;(try dsimp only at hSw);obtain⟨s0,s1,s2,s3,s4,s5,s6,s7⟩:=hSw;go_simp <;> with_reducible rfl) ?_
     try simp only[nA]
     refine tk (i:=9) (oi:=⟨some 139,.call { callee:=.builtin .len,args:=#[.tmp 138],argTypes:=#[36] },3,"ref.go:373",#[⟨8,.data⟩,⟨4,.guard⟩],some (4,false)⟩) (hy:=by intro w hSw;(try dsimp only at hSw);obtain⟨s0,s1,s2,s3,s4,s5,s6,s7⟩:=hSw;go_simp <;> with_reducible rfl) ?_
     try simp only[nA]
     refine tk (i:=10) (oi:=⟨some 140,.binOp .gtr 3 (.tmp 139) (.const (.int .i64 0)) 3,4,"ref.go:373",#[⟨9,.data⟩,⟨4,.guard⟩],some (4,false)⟩) (hy:=by intro w hSw;(try dsimp only at hSw);obtain⟨s0,s1,s2,s3,s4,s5,s6,s7⟩:=hSw;go_simp <;> with_reducible rfl) ?_
     try simp only[nA]
     refine tk (i:=11) (oi:=⟨some 141,.pick (.tmp 134) (.const (.bool true)) (.tmp 140),4,"ref.go:373",#[⟨4,.data⟩,⟨10,.data⟩],none⟩) (hy:=by intro w hSw;(try dsimp only at hSw);obtain⟨s0,s1,s2,s3,s4,s5,s6,s7⟩:=hSw;go_simp <;> with_reducible rfl) ?_
     try simp only[nA]
     refine tk (i:=12) (oi:=⟨some 142,.move (.tmp 141),4,"ref.go:373",#[⟨11,.data⟩,⟨4,.chain⟩],none⟩) (hy:=by intro w hSw;(try dsimp only at hSw);obtain⟨s0,s1,s2,s3,s4,s5,s6,s7⟩:=hSw;go_simp <;> with_reducible rfl) ?_
     try simp only[nA]
     refine tk (i:=13) (oi:=⟨some 143,.load 27 (.tmp 5),27,"ref.go:373",#[⟨12,.guard⟩],some (12,false)⟩) (hy:=by intro w hSw;(try dsimp only at hSw);obtain⟨s0,s1,s2,s3,s4,s5,s6,s7⟩:=hSw;go_simp <;> with_reducible rfl) ?_
     try simp only[nA]
     refine wpAnyH_ready (rs:=[14]) (by kernel_rfl) (by simp) ?_;refine AllReadyH.cons (o:=⟨some 144,.call { callee:=.value (.func 25),args:=#[.tmp 143],argTypes:=#[27] },44,"ref.go:373",#[⟨13,.data⟩,⟨12,.chain⟩,⟨12,.guard⟩],some (12,false)⟩) rfl (fun K9 hK=>?_) AllReadyH.nil;go_simp
     with_reducible refine PU.out.mono ?_
     rintro e y7 ⟨rfl,hb7⟩;replace hL:=HD (hL.out.cg (Cg.below (fun _=>False) hb7) (fun k e=>e.elim));replace hE:=HD (hE.out.up hb7);clear PU hb7;have PB:=HD (wbytes_c hL.out.1.now hz8)
     go_wp2_with fail
     refine hK.out _ _ ?_ ?_
     ·(try dsimp only);exact⟨hE.out.r.c0,hE.out.r.c1,hE.out.e3 (o:=0) rfl,hE.out.e3 (o:=1) rfl,hE.out.e3 (o:=2) rfl,hE.out.e3 (o:=3) rfl,hE.out.e3 (o:=4) rfl,hbo.out.up hE.out.r.bel⟩
     clear hK K9 hHeld;intro hHeld
     try simp only[nA]
     refine tk (i:=15) (oi:=⟨some 145,.binOp .neq 44 (.tmp 144) (.const (.int .i64 0)) 44,4,"ref.go:373",#[⟨14,.data⟩,⟨12,.guard⟩],some (12,false)⟩) (hy:=by intro w hSw;(try dsimp only at hSw);obtain⟨s0,s1,s2,s3,s4,s5,s6,s7⟩:=hSw;go_simp <;> with_reducible rfl) ?_
     try simp only[nA]
     refine tk (i:=16) (oi:=⟨some 146,.pick (.tmp 142) (.const (.bool true)) (.tmp 145),4,"ref.go:373",#[⟨12,.data⟩,⟨15,.data⟩],none⟩) (hy:=by intro w hSw;(try dsimp only at hSw);obtain⟨s0,s1,s2,s3,s4,s5,s6,s7⟩:=hSw;go_simp <;> with_reducible rfl) ?_
     try simp only[nA]
     refine tk (i:=17) (oi:=⟨some 147,.move (.tmp 146),4,"ref.go:373",#[⟨16,.data⟩,⟨14,.chain⟩],none⟩) (hy:=by intro w hSw;(try dsimp only at hSw);obtain⟨s0,s1,s2,s3,s4,s5,s6,s7⟩:=hSw;go_simp <;> with_reducible rfl) ?_
     try simp only[nA]
     refine tk (i:=18) (oi:=⟨some 148,.load 27 (.tmp 5),27,"ref.go:373",#[⟨17,.guard⟩],some (17,false)⟩) (hy:=by intro w hSw;(try dsimp only at hSw);obtain⟨s0,s1,s2,s3,s4,s5,s6,s7⟩:=hSw;go_simp <;> with_reducible rfl) ?_
     try simp only[nA]
     refine tk (i:=21) (oi:=⟨some 151,.move (.tmp 0),36,"ref.go:373",#[⟨17,.guard⟩],some (17,false)⟩) (hy:=by intro w hSw;(try dsimp only at hSw);obtain⟨s0,s1,s2,s3,s4,s5,s6,s7⟩:=hSw;go_simp <;> with_reducible rfl) ?_
     try simp only[nA]
     refine tk (i:=22) (oi:=⟨some 152,.convert 36 9 (.tmp 151),9,"ref.go:373",#[⟨21,.data⟩,⟨17,.guard⟩],some (17,false)⟩) (hy:=by intro w hSw;(try dsimp only at hSw);obtain⟨s0,s1,s2,s3,s4,s5,s6,s7⟩:=hSw;have s8:=by_text s7;go_simp <;> with_reducible rfl) ?_
     try simp only[nA]
     refine wpAnyH_ready (rs:=[19]) (by kernel_rfl) (by simp) ?_;refine AllReadyH.cons (o:=⟨some 149,.call { callee:=.value (.func 12),args:=#[.tmp 148],argTypes:=#[27] },36,"ref.go:373",#[⟨18,.data⟩,⟨17,.chain⟩,⟨17,.guard⟩],some (17,false)⟩) rfl (fun K9 hK=>?_) AllReadyH.nil;go_simp
     with_reducible refine PB.out.mono ?_
     rintro e y8 ⟨v8,rfl,hrb,hb8⟩;have PT:=by_text (hrb.byv hbd8.out);replace hL:=HD (hL.out.cg (Cg.below (fun _=>False) hb8) (fun k e=>e.elim));replace hE:=HD (hE.out.up hb8);clear PB hb8 hrb
     go_wp2_with fail
     refine hK.out _ _ ?_ ?_
     ·(try dsimp only);exact⟨hE.out.r.c0,hE.out.r.c1,hE.out.e3 (o:=0) rfl,hE.out.e3 (o:=1) rfl,hE.out.e3 (o:=2) rfl,hE.out.e3 (o:=3) rfl,hE.out.e3 (o:=4) rfl,hbo.out.up hE.out.r.bel⟩
     clear hK K9 hHeld;intro hHeld
     try simp only[nA]
     refine wpAnyH_ready (rs:=[20]) (by kernel_rfl) (by simp) ?_;refine AllReadyH.cons (o:=⟨some 150,.convert 36 9 (.tmp 149),9,"ref.go:373",#[⟨19,.data⟩,⟨17,.guard⟩],some (17,false)⟩) rfl (fun K9 hK=>?_) AllReadyH.nil;go_simp;refine hK.out _ _ ?_ ?_
     ·(try dsimp only);exact⟨hE.out.r.c0,hE.out.r.c1,hE.out.e3 (o:=0) rfl,hE.out.e3 (o:=1) rfl,hE.out.e3 (o:=2) rfl,hE.out.e3 (o:=3) rfl,hE.out.e3 (o:=4) rfl,hbo.out.up hE.out.r.bel⟩
     clear hK K9 hHeld;intro hHeld
     try simp only[nA]
     refine tk (i:=23) (oi:=⟨some 153,.binOp .neq 9 (.tmp 150) (.tmp 152) 9,4,"ref.go:373",#[⟨20,.data⟩,⟨22,.data⟩,⟨17,.guard⟩],some (17,false)⟩) (hy:=by intro w hSw;(try dsimp only at hSw);obtain⟨s0,s1,s2,s3,s4,s5,s6,s7⟩:=hSw;go_simp <;> with_reducible rfl) ?_
     try simp only[nA]
     refine tk (i:=24) (oi:=⟨some 154,.pick (.tmp 147) (.const (.bool true)) (.tmp 153),4,"ref.go:373",#[⟨17,.data⟩,⟨23,.data⟩],none⟩) (hy:=by intro w hSw;(try dsimp only at hSw);obtain⟨s0,s1,s2,s3,s4,s5,s6,s7⟩:=hSw;go_simp <;> with_reducible rfl) ?_
     try simp only[nA]
     refine wpAnyH_done (by kernel_rfl) ?_ _;have hbx:_=some (Obj.cells #[.slice a1 m1 c1,.slice a2 m2 c2,.slice a3 m3 c3,.slice a4 m4 c4,.int .i64 m5] 27 (0,0)):=hE.out.b3;obtain⟨dU,hdU,hrU⟩:=orowU
     go_upto_region 32 with fail
     refine wp_region_lit ?_;refine wpList_load_mid rfl 27 (.tmp 5) rfl E 0 rfl _ dU (rangeU5 hbx) hdU hrU infoU5 ?_
     try simp only[nA]
     refine wpList_store_row rfl 27 (.tmp 2) (.tmp 156) rfl w.heap.size #[.slice a1 m1 c1,.slice a2 m2 c2,.slice a3 m3 c3,.slice a4 m4 c4,.int .i64 m5] (by simp only[Act.eval];rfl) (by simp only[Act.eval];rfl) 27 z5U hE.out.b2 u5_info rfl (one_u ..) ?_;have hh:=HD (setRow_heap _ _ _ #[.slice a1 m1 c1,.slice a2 m2 c2,.slice a3 m3 c3,.slice a4 m4 c4,.int .i64 m5] _ _ hE.out.b2);have hbb:=HD (below_cg hE.out.r.bel (cg_setRow _ w.heap.size #[.slice a1 m1 c1,.slice a2 m2 c2,.slice a3 m3 c3,.slice a4 m4 c4,.int .i64 m5]) (fun k e=>by omega));have hun:=HD (hL.out.cg (cg_setRow _ w.heap.size #[.slice a1 m1 c1,.slice a2 m2 c2,.slice a3 m3 c3,.slice a4 m4 c4,.int .i64 m5]) (fun k e=>by omega));clear hE hL hbx;generalize World.setRow _ w.heap.size #[.slice a1 m1 c1,.slice a2 m2 c2,.slice a3 m3 c3,.slice a4 m4 c4,.int .i64 m5]=W9 at *
     go_wp2
     obtain⟨e1,e2,e3,e4,e5⟩:=dbl5 hh.out rfl;refine bodyPost_ret (rread_res (x:=.int .i64 0) (by simp) (by simp) e1 e2 e3 e4 e5) rfl ?_;exact⟨Or.inl ⟨_,_,hG.out,rfl,hun.out.1.now⟩,hbb.out⟩
    ·have hno:Hid (∀ U,¬ Good b U):=HD (fun U h=>by have e:=hV.out U h;injection e with e1 _;subst e1;exact heq h.2);have et:((textOf (bytesU ⟨q1.1,q2.1,q3.1,q4.1,m5⟩)).toList == (textOf b).toList)=false:=bl_ne (fun e=>heq (by rw[← tby_of hbd8.out,← tby_of hbb,e]));clear hV heq hr hbb;refine wp_region_held_drew (S:=(fun W=>W.cell? ⟨w.heap.size+1,0,none⟩=some (.slice (some ⟨rg,roff,none⟩) 0 rcap)∧W.cell? ⟨w.heap.size+1,1,none⟩=some (.bool false)∧W.cell? ⟨E,0,none⟩=some (.slice a1 m1 c1)∧W.cell? ⟨E,1,none⟩=some (.slice a2 m2 c2)∧W.cell? ⟨E,2,none⟩=some (.slice a3 m3 c3)∧W.cell? ⟨E,3,none⟩=some (.slice a4 m4 c4)∧W.cell? ⟨E,4,none⟩=some (.int .i64 m5)∧ByV W (.slice (some ⟨g,off,none⟩) nb cap) b)) (by kernel_rfl) ?_ (fun hHeld=>?_)
     ·(try dsimp only);exact⟨hE.out.r.c0,hE.out.r.c1,hE.out.e3 (o:=0) rfl,hE.out.e3 (o:=1) rfl,hE.out.e3 (o:=2) rfl,hE.out.e3 (o:=3) rfl,hE.out.e3 (o:=4) rfl,hbo.out.up hE.out.r.bel⟩
     try simp only
     generalize W5.drew=y6 at *;refine tk (i:=0) (oi:=⟨some 130,.move (.tmp 4),101,"ref.go:373",#[],none⟩) (hy:=by intro w hSw;(try dsimp only at hSw);obtain⟨s0,s1,s2,s3,s4,s5,s6,s7⟩:=hSw;go_simp <;> with_reducible rfl) ?_
     try simp only[nA]
     refine tk (i:=1) (oi:=⟨some 131,.nilCheck (.tmp 130),0,"ref.go:373",#[⟨0,.data⟩],none⟩) (hy:=by intro w hSw;(try dsimp only at hSw);obtain⟨s0,s1,s2,s3,s4,s5,s6,s7⟩:=hSw;go_simp <;> with_reducible rfl) ?_
     try simp only[nA]
     refine tk (i:=2) (oi:=⟨some 132,.fieldAddr 103 (.tmp 131) 1,0,"ref.go:373",#[⟨1,.data⟩],none⟩) (hy:=by intro w hSw;(try dsimp only at hSw);obtain⟨s0,s1,s2,s3,s4,s5,s6,s7⟩:=hSw;go_simp <;> with_reducible rfl) ?_
     try simp only[nA]
     refine tk (i:=3) (oi:=⟨some 133,.load 4 (.tmp 132),4,"ref.go:373",#[⟨2,.data⟩],none⟩) (hy:=by intro w hSw;(try dsimp only at hSw);obtain⟨s0,s1,s2,s3,s4,s5,s6,s7⟩:=hSw;go_simp <;> with_reducible rfl) ?_
     try simp only[nA]
     refine tk (i:=4) (oi:=⟨some 134,.move (.tmp 133),4,"ref.go:373",#[⟨3,.data⟩],none⟩) (hy:=by intro w hSw;(try dsimp only at hSw);obtain⟨s0,s1,s2,s3,s4,s5,s6,s7⟩:=hSw;go_simp <;> with_reducible rfl) ?_
     try simp only[nA]
     refine tk (i:=5) (oi:=⟨some 135,.move (.tmp 4),101,"ref.go:373",#[⟨4,.guard⟩],some (4,false)⟩) (hy:=by intro w hSw;(try dsimp only at hSw);obtain⟨s0,s1,s2,s3,s4,s5,s6,s7⟩:=hSw;go_simp <;> with_reducible rfl) ?_
     try simp only[nA]
     refine tk (i:=6) (oi:=⟨some 136,.nilCheck (.tmp 135),0,"ref.go:373",#[⟨5,.data⟩,⟨4,.guard⟩],some (4,false)⟩) (hy:=by intro w hSw;(try dsimp only at hSw);obtain⟨s0,s1,s2,s3,s4,s5,s6,s7⟩:=hSw;go_simp <;> with_reducible rfl) ?_
     try simp only[nA]
     refine tk (i:=7) (oi:=⟨some 137,.fieldAddr 103 (.tmp 136) 0,0,"ref.go:373",#[⟨6,.data⟩,⟨4,.guard⟩],some (4,false)⟩) (hy:=by intro w hSw;(try dsimp only at hSw);obtain⟨s0,s1,s2,s3,s4,s5,s6,s7⟩:=hSw;go_simp <;> with_reducible rfl) ?_
     try simp only[nA]
     refine tk (i:=8) (oi:=⟨some 138,.load 36 (.tmp 137),36,"ref.go:373",#[⟨7,.data⟩,⟨4,.guard⟩],some (4,false)⟩) (hy:=by intro w hSw;(try dsimp only at hSw);obtain⟨s0,s1,s2,s3,s4,s5,s6,s7⟩:=hSw;go_simp <;> with_reducible rfl) ?_
     try simp only[nA]
     refine tk (i:=9) (oi:=⟨some 139,.call { callee:=.builtin .len,args:=#[.tmp 138],argTypes:=#[36] },3,"ref.go:373",#[⟨8,.data⟩,⟨4,.guard⟩],some (4,false)⟩) (hy:=by intro w hSw;(try dsimp only at hSw);obtain⟨s0,s1,s2,s3,s4,s5,s6,s7⟩:=hSw;go_simp <;> with_reducible rfl) ?_
     try simp only[nA]
     refine tk (i:=10) (oi:=⟨some 140,.binOp .gtr 3 (.tmp 139) (.const (.int .i64 0)) 3,4,"ref.go:373",#[⟨9,.data⟩,⟨4,.guard⟩],some (4,false)⟩) (hy:=by intro w hSw;(try dsimp only at hSw);obtain⟨s0,s1,s2,s3,s4,s5,s6,s7⟩:=hSw;go_simp <;> with_reducible rfl) ?_
     try simp only[nA]
     refine tk (i:=11) (oi:=⟨some 141,.pick (.tmp 134) (.const (.bool true)) (.tmp 140),4,"ref.go:373",#[⟨4,.data⟩,⟨10,.data⟩],none⟩) (hy:=by intro w hSw;(try dsimp only at hSw);obtain⟨s0,s1,s2,s3,s4,s5,s6,s7⟩:=hSw;go_simp <;> with_reducible rfl) ?_
     try simp only[nA]
     refine tk (i:=12) (oi:=⟨some 142,.move (.tmp 141),4,"ref.go:373",#[⟨11,.data⟩,⟨4,.chain⟩],none⟩) (hy:=by intro w hSw;(try dsimp only at hSw);obtain⟨s0,s1,s2,s3,s4,s5,s6,s7⟩:=hSw;go_simp <;> with_reducible rfl) ?_
     try simp only[nA]
     refine tk (i:=13) (oi:=⟨some 143,.load 27 (.tmp 5),27,"ref.go:373",#[⟨12,.guard⟩],some (12,false)⟩) (hy:=by intro w hSw;(try dsimp only at hSw);obtain⟨s0,s1,s2,s3,s4,s5,s6,s7⟩:=hSw;go_simp <;> with_reducible rfl) ?_
     try simp only[nA]
     refine wpAnyH_ready (rs:=[14]) (by kernel_rfl) (by simp) ?_;refine AllReadyH.cons (o:=⟨some 144,.call { callee:=.value (.func 25),args:=#[.tmp 143],argTypes:=#[27] },44,"ref.go:373",#[⟨13,.data⟩,⟨12,.chain⟩,⟨12,.guard⟩],some (12,false)⟩) rfl (fun K9 hK=>?_) AllReadyH.nil;go_simp
     with_reducible refine PU.out.mono ?_
     rintro e y7 ⟨rfl,hb7⟩;replace hL:=HD (hL.out.cg (Cg.below (fun _=>False) hb7) (fun k e=>e.elim));replace hE:=HD (hE.out.up hb7);clear PU hb7;have PB:=HD (wbytes_c hL.out.1.now hz8)
     go_wp2_with fail
     refine hK.out _ _ ?_ ?_
     ·(try dsimp only);exact⟨hE.out.r.c0,hE.out.r.c1,hE.out.e3 (o:=0) rfl,hE.out.e3 (o:=1) rfl,hE.out.e3 (o:=2) rfl,hE.out.e3 (o:=3) rfl,hE.out.e3 (o:=4) rfl,hbo.out.up hE.out.r.bel⟩
     clear hK K9 hHeld;intro hHeld
     try simp only[nA]
     refine tk (i:=15) (oi:=⟨some 145,.binOp .neq 44 (.tmp 144) (.const (.int .i64 0)) 44,4,"ref.go:373",#[⟨14,.data⟩,⟨12,.guard⟩],some (12,false)⟩) (hy:=by intro w hSw;(try dsimp only at hSw);obtain⟨s0,s1,s2,s3,s4,s5,s6,s7⟩:=hSw;go_simp <;> with_reducible rfl) ?_
     try simp only[nA]
     refine tk (i:=16) (oi:=⟨some 146,.pick (.tmp 142) (.const (.bool true)) (.tmp 145),4,"ref.go:373",#[⟨12,.data⟩,⟨15,.data⟩],none⟩) (hy:=by intro w hSw;(try dsimp only at hSw);obtain⟨s0,s1,s2,s3,s4,s5,s6,s7⟩:=hSw;go_simp <;> with_reducible rfl) ?_
     try simp only[nA]
     refine tk (i:=17) (oi:=⟨some 147,.move (.tmp 146),4,"ref.go:373",#[⟨16,.data⟩,⟨14,.chain⟩],none⟩) (hy:=by intro w hSw;(try dsimp only at hSw);obtain⟨s0,s1,s2,s3,s4,s5,s6,s7⟩:=hSw;go_simp <;> with_reducible rfl) ?_
     try simp only[nA]
     refine tk (i:=18) (oi:=⟨some 148,.load 27 (.tmp 5),27,"ref.go:373",#[⟨17,.guard⟩],some (17,false)⟩) (hy:=by intro w hSw;(try dsimp only at hSw);obtain⟨s0,s1,s2,s3,s4,s5,s6,s7⟩:=hSw;go_simp <;> with_reducible rfl) ?_
     try simp only[nA]
     refine tk (i:=21) (oi:=⟨some 151,.move (.tmp 0),36,"ref.go:373",#[⟨17,.guard⟩],some (17,false)⟩) (hy:=by intro w hSw;(try dsimp only at hSw);obtain⟨s0,s1,s2,s3,s4,s5,s6,s7⟩:=hSw;go_simp <;> with_reducible rfl) ?_
     try simp only[nA]
     refine tk (i:=22) (oi:=⟨some 152,.convert 36 9 (.tmp 151),9,"ref.go:373",#[⟨21,.data⟩,⟨17,.guard⟩],some (17,false)⟩) (hy:=by intro w hSw;(try dsimp only at hSw);obtain⟨s0,s1,s2,s3,s4,s5,s6,s7⟩:=hSw;have s8:=by_text s7;go_simp <;> with_reducible rfl) ?_
     try simp only[nA]
     refine wpAnyH_ready (rs:=[19]) (by kernel_rfl) (by simp) ?_;refine AllReadyH.cons (o:=⟨some 149,.call { callee:=.value (.func 12),args:=#[.tmp 148],argTypes:=#[27] },36,"ref.go:373",#[⟨18,.data⟩,⟨17,.chain⟩,⟨17,.guard⟩],some (17,false)⟩) rfl (fun K9 hK=>?_) AllReadyH.nil;go_simp
     with_reducible refine PB.out.mono ?_
     rintro e y8 ⟨v8,rfl,hrb,hb8⟩;have PT:=by_text (hrb.byv hbd8.out);replace hL:=HD (hL.out.cg (Cg.below (fun _=>False) hb8) (fun k e=>e.elim));replace hE:=HD (hE.out.up hb8);clear PB hb8 hrb
     go_wp2_with fail
     refine hK.out _ _ ?_ ?_
     ·(try dsimp only);exact⟨hE.out.r.c0,hE.out.r.c1,hE.out.e3 (o:=0) rfl,hE.out.e3 (o:=1) rfl,hE.out.e3 (o:=2) rfl,hE.out.e3 (o:=3) rfl,hE.out.e3 (o:=4) rfl,hbo.out.up hE.out.r.bel⟩
     clear hK K9 hHeld;intro hHeld
     try simp only[nA]
     refine wpAnyH_ready (rs:=[20]) (by kernel_rfl) (by simp) ?_;refine AllReadyH.cons (o:=⟨some 150,.convert 36 9 (.tmp 149),9,"ref.go:373",#[⟨19,.data⟩,⟨17,.guard⟩],some (17,false)⟩) rfl (fun K9 hK=>?_) AllReadyH.nil;go_simp;refine hK.out _ _ ?_ ?_
     ·(try dsimp only);exact⟨hE.out.r.c0,hE.out.r.c1,hE.out.e3 (o:=0) rfl,hE.out.e3 (o:=1) rfl,hE.out.e3 (o:=2) rfl,hE.out.e3 (o:=3) rfl,hE.out.e3 (o:=4) rfl,hbo.out.up hE.out.r.bel⟩
     clear hK K9 hHeld;intro hHeld
     try simp only[nA]
     refine tk (i:=23) (oi:=⟨some 153,.binOp .neq 9 (.tmp 150) (.tmp 152) 9,4,"ref.go:373",#[⟨20,.data⟩,⟨22,.data⟩,⟨17,.guard⟩],some (17,false)⟩) (hy:=by intro w hSw;(try dsimp only at hSw);obtain⟨s0,s1,s2,s3,s4,s5,s6,s7⟩:=hSw;go_simp <;> with_reducible rfl) ?_
     try simp only[nA]
     refine tk (i:=24) (oi:=⟨some 154,.pick (.tmp 147) (.const (.bool true)) (.tmp 153),4,"ref.go:373",#[⟨17,.data⟩,⟨23,.data⟩],none⟩) (hy:=by intro w hSw;(try dsimp only at hSw);obtain⟨s0,s1,s2,s3,s4,s5,s6,s7⟩:=hSw;go_simp <;> with_reducible rfl) ?_
     try simp only[nA]
     refine wpAnyH_done (by kernel_rfl) ?_ _
     go_upto_region 31 with fail
     refine wp_region_lit ?_;refine wp_zU rfl rfl ?_
     try simp only[nA]
     refine wpList_store_row rfl 27 (.tmp 2) (.tmp 155) rfl w.heap.size z5U (by simp only[Act.eval];rfl) (by simp only[Act.eval];rfl) 27 z5U hE.out.b2 z5_info rfl z5_one ?_;have hh:=HD (setRow_heap _ _ _ z5U _ _ hE.out.b2);have hbb:=HD (below_cg hE.out.r.bel (cg_setRow _ w.heap.size z5U) (fun k e=>by omega));clear hE hL;generalize World.setRow _ w.heap.size z5U=W9 at *
     go_wp2
     obtain⟨e1,e2,e3,e4,e5⟩:=dbl5 hh.out rfl;refine bodyPost_ret (rread_res (x:=.int .i64 12) (by simp) (by simp) e1 e2 e3 e4 e5) rfl ?_;exact⟨rdA_no hno.out hm.out,hbb.out⟩
   ·have hno:Hid (∀ U,¬ Good b U):=HD (fun U h=>by have e:=hV.out U h;injection e with e1 _;subst e1;exact hr h.1);have hr0:(unitR ⟨q1.1,q2.1,q3.1,q4.1,m5⟩ != 0)=true:=by simpa using hr
    clear hV hr;refine wp_region_held_drew (S:=(fun W=>W.cell? ⟨w.heap.size+1,0,none⟩=some (.slice (some ⟨rg,roff,none⟩) 0 rcap)∧W.cell? ⟨w.heap.size+1,1,none⟩=some (.bool false)∧W.cell? ⟨E,0,none⟩=some (.slice a1 m1 c1)∧W.cell? ⟨E,1,none⟩=some (.slice a2 m2 c2)∧W.cell? ⟨E,2,none⟩=some (.slice a3 m3 c3)∧W.cell? ⟨E,3,none⟩=some (.slice a4 m4 c4)∧W.cell? ⟨E,4,none⟩=some (.int .i64 m5)∧ByV W (.slice (some ⟨g,off,none⟩) nb cap) b)) (by kernel_rfl) ?_ (fun hHeld=>?_)
    ·(try dsimp only);exact⟨hE.out.r.c0,hE.out.r.c1,hE.out.e3 (o:=0) rfl,hE.out.e3 (o:=1) rfl,hE.out.e3 (o:=2) rfl,hE.out.e3 (o:=3) rfl,hE.out.e3 (o:=4) rfl,hbo.out.up hE.out.r.bel⟩
    try simp only
    generalize W5.drew=y6 at *;refine tk (i:=0) (oi:=⟨some 130,.move (.tmp 4),101,"ref.go:373",#[],none⟩) (hy:=by intro w hSw;(try dsimp only at hSw);obtain⟨s0,s1,s2,s3,s4,s5,s6,s7⟩:=hSw;go_simp <;> with_reducible rfl) ?_
    try simp only[nA]
    refine tk (i:=1) (oi:=⟨some 131,.nilCheck (.tmp 130),0,"ref.go:373",#[⟨0,.data⟩],none⟩) (hy:=by intro w hSw;(try dsimp only at hSw);obtain⟨s0,s1,s2,s3,s4,s5,s6,s7⟩:=hSw;go_simp <;> with_reducible rfl) ?_
    try simp only[nA]
    refine tk (i:=2) (oi:=⟨some 132,.fieldAddr 103 (.tmp 131) 1,0,"ref.go:373",#[⟨1,.data⟩],none⟩) (hy:=by intro w hSw;(try dsimp only at hSw);obtain⟨s0,s1,s2,s3,s4,s5,s6,s7⟩:=hSw;go_simp <;> with_reducible rfl) ?_
    try simp only[nA]
    refine tk (i:=3) (oi:=⟨some 133,.load 4 (.tmp 132),4,"ref.go:373",#[⟨2,.data⟩],none⟩) (hy:=by intro w hSw;(try dsimp only at hSw);obtain⟨s0,s1,s2,s3,s4,s5,s6,s7⟩:=hSw;go_simp <;> with_reducible rfl) ?_
    try simp only[nA]
    refine tk (i:=4) (oi:=⟨some 134,.move (.tmp 133),4,"ref.go:373",#[⟨3,.data⟩],none⟩) (hy:=by intro w hSw;(try dsimp only at hSw);obtain⟨s0,s1,s2,s3,s4,s5,s6,s7⟩:=hSw;go_simp <;> with_reducible rfl) ?_
    try simp only[nA]
    refine tk (i:=5) (oi:=⟨some 135,.move (.tmp 4),101,"ref.go:373",#[⟨4,.guard⟩],some (4,false)⟩) (hy:=by intro w hSw;(try dsimp only at hSw);obtain⟨s0,s1,s2,s3,s4,s5,s6,s7⟩:=hSw;go_simp <;> with_reducible rfl) ?_
    try simp only[nA]
    refine tk (i:=6) (oi:=⟨some 136,.nilCheck (.tmp 135),0,"ref.go:373",#[⟨5,.data⟩,⟨4,.guard⟩],some (4,false)⟩) (hy:=by intro w hSw;(try dsimp only at hSw);obtain⟨s0,s1,s2,s3,s4,s5,s6,s7⟩:=hSw;go_simp <;> with_reducible rfl) ?_
    try simp only[nA]
    refine tk (i:=7) (oi:=⟨some 137,.fieldAddr 103 (.tmp 136) 0,0,"ref.go:373",#[⟨6,.data⟩,⟨4,.guard⟩],some (4,false)⟩) (hy:=by intro w hSw;(try dsimp only at hSw);obtain⟨s0,s1,s2,s3,s4,s5,s6,s7⟩:=hSw;go_simp <;> with_reducible rfl) ?_
    try simp only[nA]
    refine tk (i:=8) (oi:=⟨some 138,.load 36 (.tmp 137),36,"ref.go:373",#[⟨7,.data⟩,⟨4,.guard⟩],some (4,false)⟩) (hy:=by intro w hSw;(try dsimp only at hSw);obtain⟨s0,s1,s2,s3,s4,s5,s6,s7⟩:=hSw;go_simp <;> with_reducible rfl) ?_
    try simp only[nA]
    refine tk (i:=9) (oi:=⟨some 139,.call { callee:=.builtin .len,args:=#[.tmp 138],argTypes:=#[36] },3,"ref.go:373",#[⟨8,.data⟩,⟨4,.guard⟩],some (4,false)⟩) (hy:=by intro w hSw;(try dsimp only at hSw);obtain⟨s0,s1,s2,s3,s4,s5,s6,s7⟩:=hSw;go_simp <;> with_reducible rfl) ?_
    try simp only[nA]
    refine tk (i:=10) (oi:=⟨some 140,.binOp .gtr 3 (.tmp 139) (.const (.int .i64 0)) 3,4,"ref.go:373",#[⟨9,.data⟩,⟨4,.guard⟩],some (4,false)⟩) (hy:=by intro w hSw;(try dsimp only at hSw);obtain⟨s0,s1,s2,s3,s4,s5,s6,s7⟩:=hSw;go_simp <;> with_reducible rfl) ?_
    try simp only[nA]
    refine tk (i:=11) (oi:=⟨some 141,.pick (.tmp 134) (.const (.bool true)) (.tmp 140),4,"ref.go:373",#[⟨4,.data⟩,⟨10,.data⟩],none⟩) (hy:=by intro w hSw;(try dsimp only at hSw);obtain⟨s0,s1,s2,s3,s4,s5,s6,s7⟩:=hSw;go_simp <;> with_reducible rfl) ?_
    try simp only[nA]
    refine tk (i:=12) (oi:=⟨some 142,.move (.tmp 141),4,"ref.go:373",#[⟨11,.data⟩,⟨4,.chain⟩],none⟩) (hy:=by intro w hSw;(try dsimp only at hSw);obtain⟨s0,s1,s2,s3,s4,s5,s6,s7⟩:=hSw;go_simp <;> with_reducible rfl) ?_
    try simp only[nA]
    refine tk (i:=13) (oi:=⟨some 143,.load 27 (.tmp 5),27,"ref.go:373",#[⟨12,.guard⟩],some (12,false)⟩) (hy:=by intro w hSw;(try dsimp only at hSw);obtain⟨s0,s1,s2,s3,s4,s5,s6,s7⟩:=hSw;go_simp <;> with_reducible rfl) ?_
    try simp only[nA]
    refine wpAnyH_ready (rs:=[14]) (by kernel_rfl) (by simp) ?_;refine AllReadyH.cons (o:=⟨some 144,.call { callee:=.value (.func 25),args:=#[.tmp 143],argTypes:=#[27] },44,"ref.go:373",#[⟨13,.data⟩,⟨12,.chain⟩,⟨12,.guard⟩],some (12,false)⟩) rfl (fun K9 hK=>?_) AllReadyH.nil;go_simp
    with_reducible refine PU.out.mono ?_
    rintro e y7 ⟨rfl,hb7⟩;replace hL:=HD (hL.out.cg (Cg.below (fun _=>False) hb7) (fun k e=>e.elim));replace hE:=HD (hE.out.up hb7);clear PU hb7
    go_wp2_with fail
    refine hK.out _ _ ?_ ?_
    ·(try dsimp only);exact⟨hE.out.r.c0,hE.out.r.c1,hE.out.e3 (o:=0) rfl,hE.out.e3 (o:=1) rfl,hE.out.e3 (o:=2) rfl,hE.out.e3 (o:=3) rfl,hE.out.e3 (o:=4) rfl,hbo.out.up hE.out.r.bel⟩
    clear hK K9 hHeld;intro hHeld
    try simp only[nA]
    refine tk (i:=15) (oi:=⟨some 145,.binOp .neq 44 (.tmp 144) (.const (.int .i64 0)) 44,4,"ref.go:373",#[⟨14,.data⟩,⟨12,.guard⟩],some (12,false)⟩) (hy:=by intro w hSw;(try dsimp only at hSw);obtain⟨s0,s1,s2,s3,s4,s5,s6,s7⟩:=hSw;go_simp <;> with_reducible rfl) ?_
    try simp only[nA]
    refine tk (i:=16) (oi:=⟨some 146,.pick (.tmp 142) (.const (.bool true)) (.tmp 145),4,"ref.go:373",#[⟨12,.data⟩,⟨15,.data⟩],none⟩) (hy:=by intro w hSw;(try dsimp only at hSw);obtain⟨s0,s1,s2,s3,s4,s5,s6,s7⟩:=hSw;go_simp <;> with_reducible rfl) ?_
    try simp only[nA]
    refine tk (i:=17) (oi:=⟨some 147,.move (.tmp 146),4,"ref.go:373",#[⟨16,.data⟩,⟨14,.chain⟩],none⟩) (hy:=by intro w hSw;(try dsimp only at hSw);obtain⟨s0,s1,s2,s3,s4,s5,s6,s7⟩:=hSw;go_simp <;> with_reducible rfl) ?_
    try simp only[nA]
    refine tu (i:=18) (oi:=⟨some 148,.load 27 (.tmp 5),27,"ref.go:373",#[⟨17,.guard⟩],some (17,false)⟩) ?_
    try simp only[nA]
    refine tu (i:=19) (oi:=⟨some 149,.call { callee:=.value (.func 12),args:=#[.tmp 148],argTypes:=#[27] },36,"ref.go:373",#[⟨18,.data⟩,⟨17,.chain⟩,⟨17,.guard⟩],some (17,false)⟩) ?_
    try simp only[nA]
    refine tu (i:=20) (oi:=⟨some 150,.convert 36 9 (.tmp 149),9,"ref.go:373",#[⟨19,.data⟩,⟨17,.guard⟩],some (17,false)⟩) ?_
    try simp only[nA]
    refine tu (i:=21) (oi:=⟨some 151,.move (.tmp 0),36,"ref.go:373",#[⟨17,.guard⟩],some (17,false)⟩) ?_
    try simp only[nA]
    refine tu (i:=22) (oi:=⟨some 152,.convert 36 9 (.tmp 151),9,"ref.go:373",#[⟨21,.data⟩,⟨17,.guard⟩],some (17,false)⟩) ?_
    try simp only[nA]
    refine tu (i:=23) (oi:=⟨some 153,.binOp .neq 9 (.tmp 150) (.tmp 152) 9,4,"ref.go:373",#[⟨20,.data⟩,⟨22,.data⟩,⟨17,.guard⟩],some (17,false)⟩) ?_
    try simp only[nA]
    refine tk (i:=24) (oi:=⟨some 154,.pick (.tmp 147) (.const (.bool true)) (.tmp 153),4,"ref.go:373",#[⟨17,.data⟩,⟨23,.data⟩],none⟩) (hy:=by intro w hSw;(try dsimp only at hSw);obtain⟨s0,s1,s2,s3,s4,s5,s6,s7⟩:=hSw;go_simp <;> with_reducible rfl) ?_
    try simp only[nA]
    refine wpAnyH_done (by kernel_rfl) ?_ _
    go_upto_region 31 with fail
    refine wp_region_lit ?_;refine wp_zU rfl rfl ?_
    try simp only[nA]
    refine wpList_store_row rfl 27 (.tmp 2) (.tmp 155) rfl w.heap.size z5U (by simp only[Act.eval];rfl) (by simp only[Act.eval];rfl) 27 z5U hE.out.b2 z5_info rfl z5_one ?_;have hh:=HD (setRow_heap _ _ _ z5U _ _ hE.out.b2);have hbb:=HD (below_cg hE.out.r.bel (cg_setRow _ w.heap.size z5U) (fun k e=>by omega));clear hE hL;generalize World.setRow _ w.heap.size z5U=W9 at *
    go_wp2
    obtain⟨e1,e2,e3,e4,e5⟩:=dbl5 hh.out rfl;refine bodyPost_ret (rread_res (x:=.int .i64 12) (by simp) (by simp) e1 e2 e3 e4 e5) rfl ?_;exact⟨rdA_no hno.out hm.out,hbb.out⟩
  ·have hno:Hid (∀ U,¬ Good b U):=HD (fun U h=>by have e:=hV.out U h;injection e with _ e2;injection e2 with e3 _;exact hz (hM5.out.2 e3.symm));have e0:decide ((0:Int) < (rn:Int))=true:=by simp;omega
   have e1:decide (0 < rn)=true:=by simp;omega
   have e2:0 < rn:=by omega
   clear hV hM5 hrn hz;refine wp_region_held_drew (S:=(fun W=>W.cell? ⟨w.heap.size+1,0,none⟩=some (.slice (some ⟨rg,roff,none⟩) rn rcap)∧W.cell? ⟨w.heap.size+1,1,none⟩=some (.bool false)∧W.cell? ⟨E,0,none⟩=some (.slice a1 m1 c1)∧W.cell? ⟨E,1,none⟩=some (.slice a2 m2 c2)∧W.cell? ⟨E,2,none⟩=some (.slice a3 m3 c3)∧W.cell? ⟨E,3,none⟩=some (.slice a4 m4 c4)∧W.cell? ⟨E,4,none⟩=some (.int .i64 m5)∧ByV W (.slice (some ⟨g,off,none⟩) nb cap) b)) (by kernel_rfl) ?_ (fun hHeld=>?_)
   ·(try dsimp only);exact⟨hE.out.r.c0,hE.out.r.c1,hE.out.e3 (o:=0) rfl,hE.out.e3 (o:=1) rfl,hE.out.e3 (o:=2) rfl,hE.out.e3 (o:=3) rfl,hE.out.e3 (o:=4) rfl,hbo.out.up hE.out.r.bel⟩
   try simp only
   generalize W5.drew=y6 at *;refine tk (i:=0) (oi:=⟨some 130,.move (.tmp 4),101,"ref.go:373",#[],none⟩) (hy:=by intro w hSw;(try dsimp only at hSw);obtain⟨s0,s1,s2,s3,s4,s5,s6,s7⟩:=hSw;go_simp <;> with_reducible rfl) ?_
   try simp only[nA]
   refine tk (i:=1) (oi:=⟨some 131,.nilCheck (.tmp 130),0,"ref.go:373",#[⟨0,.data⟩],none⟩) (hy:=by intro w hSw;(try dsimp only at hSw);obtain⟨s0,s1,s2,s3,s4,s5,s6,s7⟩:=hSw;go_simp <;> with_reducible rfl) ?_
   try simp only[nA]
   refine tk (i:=2) (oi:=⟨some 132,.fieldAddr 103 (.tmp 131) 1,0,"ref.go:373",#[⟨1,.data⟩],none⟩) (hy:=by intro w hSw;(try dsimp only at hSw);obtain⟨s0,s1,s2,s3,s4,s5,s6,s7⟩:=hSw;go_simp <;> with_reducible rfl) ?_
   try simp only[nA]
   refine tk (i:=3) (oi:=⟨some 133,.load 4 (.tmp 132),4,"ref.go:373",#[⟨2,.data⟩],none⟩) (hy:=by intro w hSw;(try dsimp only at hSw);obtain⟨s0,s1,s2,s3,s4,s5,s6,s7⟩:=hSw;go_simp <;> with_reducible rfl) ?_
   try simp only[nA]
   refine tk (i:=4) (oi:=⟨some 134,.move (.tmp 133),4,"ref.go:373",#[⟨3,.data⟩],none⟩) (hy:=by intro w hSw;(try dsimp only at hSw);obtain⟨s0,s1,s2,s3,s4,s5,s6,s7⟩:=hSw;go_simp <;> with_reducible rfl) ?_
   try simp only[nA]
   refine tk (i:=5) (oi:=⟨some 135,.move (.tmp 4),101,"ref.go:373",#[⟨4,.guard⟩],some (4,false)⟩) (hy:=by intro w hSw;(try dsimp only at hSw);obtain⟨s0,s1,s2,s3,s4,s5,s6,s7⟩:=hSw;go_simp <;> with_reducible rfl) ?_
   try simp only[nA]
   refine tk (i:=6) (oi:=⟨some 136,.nilCheck (.tmp 135),0,"ref.go:373",#[⟨5,.data⟩,⟨4,.guard⟩],some (4,false)⟩) (hy:=by intro w hSw;(try dsimp only at hSw);obtain⟨s0,s1,s2,s3,s4,s5,s6,s7⟩:=hSw;go_simp <;> with_reducible rfl) ?_
   try simp only[nA]
   refine tk (i:=7) (oi:=⟨some 137,.fieldAddr 103 (.tmp 136) 0,0,"ref.go:373",#[⟨6,.data⟩,⟨4,.guard⟩],some (4,false)⟩) (hy:=by intro w hSw;(try dsimp only at hSw);obtain⟨s0,s1,s2,s3,s4,s5,s6,s7⟩:=hSw;go_simp <;> with_reducible rfl) ?_
   try simp only[nA]
   refine tk (i:=8) (oi:=⟨some 138,.load 36 (.tmp 137),36,"ref.go:373",#[⟨7,.data⟩,⟨4,.guard⟩],some (4,false)⟩) (hy:=by intro w hSw;(try dsimp only at hSw);obtain⟨s0,s1,s2,s3,s4,s5,s6,s7⟩:=hSw;go_simp <;> with_reducible rfl) ?_
   try simp only[nA]
   refine tk (i:=9) (oi:=⟨some 139,.call { callee:=.builtin .len,args:=#[.tmp 138],argTypes:=#[36] },3,"ref.go:373",#[⟨8,.data⟩,⟨4,.guard⟩],some (4,false)⟩) (hy:=by intro w hSw;(try dsimp only at hSw);obtain⟨s0,s1,s2,s3,s4,s5,s6,s7⟩:=hSw;go_simp <;> with_reducible rfl) ?_
   try simp only[nA]
   refine tk (i:=10) (oi:=⟨some 140,.binOp .gtr 3 (.tmp 139) (.const (.int .i64 0)) 3,4,"ref.go:373",#[⟨9,.data⟩,⟨4,.guard⟩],some (4,false)⟩) (hy:=by intro w hSw;(try dsimp only at hSw);obtain⟨s0,s1,s2,s3,s4,s5,s6,s7⟩:=hSw;go_simp <;> with_reducible rfl) ?_
   try simp only[nA]
   refine tk (i:=11) (oi:=⟨some 141,.pick (.tmp 134) (.const (.bool true)) (.tmp 140),4,"ref.go:373",#[⟨4,.data⟩,⟨10,.data⟩],none⟩) (hy:=by intro w hSw;(try dsimp only at hSw);obtain⟨s0,s1,s2,s3,s4,s5,s6,s7⟩:=hSw;go_simp <;> with_reducible rfl) ?_
   try simp only[nA]
   refine tk (i:=12) (oi:=⟨some 142,.move (.tmp 141),4,"ref.go:373",#[⟨11,.data⟩,⟨4,.chain⟩],none⟩) (hy:=by intro w hSw;(try dsimp only at hSw);obtain⟨s0,s1,s2,s3,s4,s5,s6,s7⟩:=hSw;go_simp <;> with_reducible rfl) ?_
   try simp only[nA]
   refine tu (i:=13) (oi:=⟨some 143,.load 27 (.tmp 5),27,"ref.go:373",#[⟨12,.guard⟩],some (12,false)⟩) ?_
   try simp only[nA]
   refine tu (i:=14) (oi:=⟨some 144,.call { callee:=.value (.func 25),args:=#[.tmp 143],argTypes:=#[27] },44,"ref.go:373",#[⟨13,.data⟩,⟨12,.chain⟩,⟨12,.guard⟩],some (12,false)⟩) ?_
   try simp only[nA]
   refine tu (i:=15) (oi:=⟨some 145,.binOp .neq 44 (.tmp 144) (.const (.int .i64 0)) 44,4,"ref.go:373",#[⟨14,.data⟩,⟨12,.guard⟩],some (12,false)⟩) ?_
   try simp only[nA]
   refine tk (i:=16) (oi:=⟨some 146,.pick (.tmp 142) (.const (.bool true)) (.tmp 145),4,"ref.go:373",#[⟨12,.data⟩,⟨15,.data⟩],none⟩) (hy:=by intro w hSw;(try dsimp only at hSw);obtain⟨s0,s1,s2,s3,s4,s5,s6,s7⟩:=hSw;go_simp <;> with_reducible rfl) ?_
   try simp only[nA]
   refine tk (i:=17) (oi:=⟨some 147,.move (.tmp 146),4,"ref.go:373",#[⟨16,.data⟩,⟨14,.chain⟩],none⟩) (hy:=by intro w hSw;(try dsimp only at hSw);obtain⟨s0,s1,s2,s3,s4,s5,s6,s7⟩:=hSw;go_simp <;> with_reducible rfl) ?_
   try simp only[nA]
   refine tu (i:=18) (oi:=⟨some 148,.load 27 (.tmp 5),27,"ref.go:373",#[⟨17,.guard⟩],some (17,false)⟩) ?_
   try simp only[nA]
   refine tu (i:=19) (oi:=⟨some 149,.call { callee:=.value (.func 12),args:=#[.tmp 148],argTypes:=#[27] },36,"ref.go:373",#[⟨18,.data⟩,⟨17,.chain⟩,⟨17,.guard⟩],some (17,false)⟩) ?_
   try simp only[nA]
   refine tu (i:=20) (oi:=⟨some 150,.convert 36 9 (.tmp 149),9,"ref.go:373",#[⟨19,.data⟩,⟨17,.guard⟩],some (17,false)⟩) ?_
   try simp only[nA]
   refine tu (i:=21) (oi:=⟨some 151,.move (.tmp 0),36,"ref.go:373",#[⟨17,.guard⟩],some (17,false)⟩) ?_
   try simp only[nA]
   refine tu (i:=22) (oi:=⟨some 152,.convert 36 9 (.tmp 151),9,"ref.go:373",#[⟨21,.data⟩,⟨17,.guard⟩],some (17,false)⟩) ?_
   try simp only[nA]
   refine tu (i:=23) (oi:=⟨some 153,.binOp .neq 9 (.tmp 150) (.tmp 152) 9,4,"ref.go:373",#[⟨20,.data⟩,⟨22,.data⟩,⟨17,.guard⟩],some (17,false)⟩) ?_
   try simp only[nA]
   refine tk (i:=24) (oi:=⟨some 154,.pick (.tmp 147) (.const (.bool true)) (.tmp 153),4,"ref.go:373",#[⟨17,.data⟩,⟨23,.data⟩],none⟩) (hy:=by intro w hSw;(try dsimp only at hSw);obtain⟨s0,s1,s2,s3,s4,s5,s6,s7⟩:=hSw;go_simp <;> with_reducible rfl) ?_
   try simp only[nA]
   refine wpAnyH_done (by kernel_rfl) ?_ _
   go_upto_region 31 with fail
   refine wp_region_lit ?_;refine wp_zU rfl rfl ?_
   try simp only[nA]
   refine wpList_store_row rfl 27 (.tmp 2) (.tmp 155) rfl w.heap.size z5U (by simp only[Act.eval];rfl) (by simp only[Act.eval];rfl) 27 z5U hE.out.b2 z5_info rfl z5_one ?_;have hh:=HD (setRow_heap _ _ _ z5U _ _ hE.out.b2);have hbb:=HD (below_cg hE.out.r.bel (cg_setRow _ w.heap.size z5U) (fun k e=>by omega));clear hE hL;generalize World.setRow _ w.heap.size z5U=W9 at *
   go_wp2
   obtain⟨e1,e2,e3,e4,e5⟩:=dbl5 hh.out rfl;refine bodyPost_ret (rread_res (x:=.int .i64 12) (by simp) (by simp) e1 e2 e3 e4 e5) rfl ?_;exact⟨rdA_no hno.out hm.out,hbb.out⟩
 ·have e1:((textOf (b.take 4)).toList == [84,87,49,0])=false:=by rw[← mark_list];exact bl_ne (fun e=>hf (hT.1 e))
  have hno:=HD (show ∀ U,¬ Good b U from fun U h=>hf (by rw[(good_four h).1];rfl));replace PT0:(convert 36 9 (.slice (some ⟨g,off,none⟩) 4 cap)).run Tryz.prog (w.alloc (.cells #[.slice none 0 0,.slice none 0 0,.slice none 0 0,.slice none 0 0,.int .i64 0] 27))=.ok (.string (textOf (b.take 4))) (w.alloc (.cells #[.slice none 0 0,.slice none 0 0,.slice none 0 0,.slice none 0 0,.int .i64 0] 27)):=PT0;clear hf hT hB8 hb hl h4;go_enter Tryz.func29,Tryz.ntmps29
  go_wp2
  have hh:(w.alloc (.cells #[.slice none 0 0,.slice none 0 0,.slice none 0 0,.slice none 0 0,.int .i64 0] 27)).heap[w.heap.size]?=some (.cells #[.slice none 0 0,.slice none 0 0,.slice none 0 0,.slice none 0 0,.int .i64 0] 27 (0,0)):=heap_alloc_new _ _;obtain⟨c0,c1,c2,c3,c4⟩:=dbl5 hh rfl;refine bodyPost_ret (rread_res rfl rfl c0 c1 c2 c3 c4) rfl ?_;exact⟨rdA_no hno.out hm.out,b0⟩
end Wd
end Go.Proofs.YtgfnelhbdhbklaaGreat
