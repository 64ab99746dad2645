/- Texts joined: UOW. -/
import Derived.Test.YtgfnelhbdhbklaaGreatJT1
import Derived.Test.YtgfnelhbdhbklaaGreatJT8
import Derived.Deep.MidRow
import Derived.StillTailTactics
import Derived.Deep.RegionHeld3
import Derived.Deep.RegionWith
import Derived.Deep.RegionHeldLaw
namespace Go.Proofs.YtgfnelhbdhbklaaGreat
open Go.RowKit
set_option linter.unusedVariables false
set_option maxRecDepth 20000
namespace Wd
theorem grow_new {W w1:World} {o:Obj} (hg:(W.alloc o).grownBy w1 (some W.heap.size)):Below W.heap.size W w1 :=
 ((Below.refl W.heap.size W).alloc (Nat.le_refl _) o).grown hg (by simp only[World.size_alloc];omega) (fun k e=>by have:W.heap.size=k:=Option.some.inj e;omega)
theorem new_at {v:Value} {W:World} {o:Obj} {x y:Nat} (hat:v.ownBlock=(Value.slice (some ⟨W.heap.size,0,none⟩) x y).ownBlock∨v.ownBlock=some (W.alloc o).heap.size):∀ k,v.ownBlock=some k→W.heap.size≤k:=by
 intro k hk;rcases hat with e | e
 ·rw[e] at hk;have:W.heap.size=k:=by simpa [Value.ownBlock] using hk
  omega
 ·rw[e] at hk;have:(W.alloc o).heap.size=k:=Option.some.inj hk;simp only[World.size_alloc] at this;omega
theorem urow_next {s:Nat} {W w1:World} {e:TypeId} {sz n:Nat} {v:Value} {xs:List Value} (h:W.ownsRow (s+2) e sz v n xs) (B:Below W.heap.size W w1) (i:Nat) (x:Value):(w1.setCell ⟨s,i,none⟩ x).ownsRow (s+2) e sz v n xs :=
 row_set (row_bel h B) _ _ (fun q=>by have:=(h.lt _ q).1;simp only at this;omega)
theorem urow_here {s:Nat} {w1:World} {e:TypeId} {sz n:Nat} {v:Value} {xs:List Value} (h:w1.ownsRow (s+2) e sz v n xs) (i:Nat) (x:Value):(w1.setCell ⟨s,i,none⟩ x).ownsRow (s+2) e sz v n xs :=
 row_set h _ _ (fun q=>by have:=(h.lt _ q).1;simp only at this;omega)
theorem ob_born {w:World} {x0 x1 x2 x3:Value} {m:Int}:OB w ((w.alloc (.cells #[x0,x1,x2,x3,.int .i64 m] 27)).alloc (.cells #[.slice none 0 0,.slice none 0 0,.slice none 0 0,.slice none 0 0,.int .i64 0] 27)) x0 x1 x2 x3 m:=by
 have i1:(w.alloc (.cells #[x0,x1,x2,x3,.int .i64 m] 27)).heap.size=w.heap.size+1:=by simp
 have hr:=heap_alloc_new (w.alloc (.cells #[x0,x1,x2,x3,.int .i64 m] 27)) (.cells #[.slice none 0 0,.slice none 0 0,.slice none 0 0,.slice none 0 0,.int .i64 0] 27);rw[i1] at hr;exact⟨(World.cell?_alloc_old _ _ _ (by simp)).trans (by simp),(World.cell?_alloc_old _ _ _ (by simp)).trans (by simp),(World.cell?_alloc_old _ _ _ (by simp)).trans (by simp),(World.cell?_alloc_old _ _ _ (by simp)).trans (by simp),(World.cell?_alloc_old _ _ _ (by simp)).trans (by simp),fun j=>(World.frozen?_of_block (a:=⟨w.heap.size,j,none⟩) (Below.heap_alloc _ _ _ (by simp))).trans (World.frozen?_alloc_new _ _ _ _),hr,((Below.refl _ _).alloc (Nat.le_refl _) _).alloc (by rw[i1];omega) _⟩
theorem infoMt:(Tryz.prog.info? 63).map (fun i=>(i.zero,i.size,i.bytes))=some (some (.agg #[.int .i64 0,.int .i64 0,.slice none 0 0,.slice none 0 0]),4,64):=by kernel_rfl
theorem orowU:∃ d,Tryz.prog.underlying 27=some d∧d.isRow=true:=⟨_,Tryz.underlying27,rfl⟩
theorem orange5 {w:World} {q:Nat} {a b c d e:Value} (h0:w.cell? ⟨q,0,none⟩=some a) (h1:w.cell? ⟨q,1,none⟩=some b) (h2:w.cell? ⟨q,2,none⟩=some c) (h3:w.cell? ⟨q,3,none⟩=some d) (h4:w.cell? ⟨q,4,none⟩=some e):w.rangeAt q 0 [a,b,c,d,e]:=by
 intro j v hj
 match j,hj with
 | 0,hj=>simp at hj;subst hj;exact h0
 | 1,hj=>simp at hj;subst hj;exact h1
 | 2,hj=>simp at hj;subst hj;exact h2
 | 3,hj=>simp at hj;subst hj;exact h3
 | 4,hj=>simp at hj;subst hj;exact h4
 | j+5,hj=>simp at hj
theorem infoU5:(Tryz.prog.info? 27).map (fun i=>i.size)=some 5:=by kernel_rfl
theorem infoStr:(Tryz.prog.info? 9).map (fun i=>(i.zero,i.size,i.bytes))=some (some (.string ByteArray.empty),1,16):=by kernel_rfl
theorem oddu_res {ts:Array Value} {w:World} {q:Nat} {v0 v1 v2 v3 v4:Value} (h8:ts.getD 8 undef=.pointer (some ⟨q,0,none⟩)) (r0:w.cell? ⟨q,0,none⟩=some v0) (r1:w.cell? ⟨q,1,none⟩=some v1) (r2:w.cell? ⟨q,2,none⟩=some v2) (r3:w.cell? ⟨q,3,none⟩=some v3) (r4:w.cell? ⟨q,4,none⟩=some v4) :
  (results Tryz.f11 ts).run Tryz.prog w=.ok (.agg #[v0,v1,v2,v3,v4]) w:=by
 have h8':ts[8]?.getD undef=.pointer (some ⟨q,0,none⟩):=by rw[← Array.getD_eq_getD_getElem?];exact h8
 simp[results,Tryz.results11,go_sem,h8',r0,r1,r2,r3,r4]
set_option maxHeartbeats 64000000 in
theorem oddu_c {w:World} {u:Value} {U:UnitA} {b:Nat} (hu:UnK w u U) (hz:Zb b U) (hb:b≤1000) (what at_ n:Int) (hw:In64 what) (ha:In64 at_) (hn:In64 n) :
  Calls Tryz.prog 11 #[u,.int .i64 what,.int .i64 at_,.int .i64 n] w fun e w'=>∃ v V,e=.returned v∧UnK w' v V∧Zb (b+50) V∧Below w.heap.size w w':=by
 obtain⟨i0,hi0,hi0z,hi0s,hi0b⟩:=info_parts infoStr;obtain⟨i1,hi1,hi1z,hi1s,hi1b⟩:=info_parts infoCls;obtain⟨i2,hi2,hi2z,hi2s,hi2b⟩:=info_parts infoMt;obtain⟨i3,hi3,hi3z,hi3s,hi3b⟩:=info_parts infoObj;have hmx:100000≤maxLen:=by decide
 obtain⟨na,nc,ka,kc,ma,mc,oa,oc,rfl,hU⟩:=hu.ex;clear hu;have hrn:=hU.n.rd;obtain⟨T,eT,hT,hrc⟩:=hU.c.rd;obtain⟨M,eM,hM,hrm⟩:=hU.m.rd;obtain⟨O,eO,hO,hro⟩:=hU.o.rd;obtain⟨l1,hl1⟩:∃ l,l=U.names.length:=⟨_,rfl⟩
 obtain⟨l2,hl2⟩:∃ l,l=U.classes.length:=⟨_,rfl⟩
 obtain⟨l3,hl3⟩:∃ l,l=U.methods.length:=⟨_,rfl⟩
 obtain⟨l4,hl4⟩:∃ l,l=U.objects.length:=⟨_,rfl⟩
 have hTl:T.length=l2:=by rw[hl2,← eT];simp
 have hMl:M.length=l3:=by rw[hl3,← eM];simp
 have hOl:O.length=l4:=by rw[hl4,← eO];simp
 have hzs:Hid ((∀ x∈U.names,x.size≤140737488355328)∧(∀ x∈T,x.1.nm.size≤140737488355328)):=HD ⟨hz.ns,fun x hx=>hz.cs x.1 (by rw[← eT];exact List.mem_map_of_mem hx)⟩;have z1:l1≤b:=by rw[hl1];exact hz.n
 have z2:1≤l2∧l2≤b:=by rw[hl2];exact⟨hz.c1,hz.c⟩
 have z3:1≤l3∧l3≤b:=by rw[hl3];exact⟨hz.m1,hz.m⟩
 have z4:1≤l4∧l4≤b:=by rw[hl4];exact⟨hz.o1,hz.o⟩
 have hic:∀ x∈T,In64 x.1.super∧In64 x.1.fields∧x.1.binds.length≤b∧PrV w x.2 x.1.binds:=fun x hx=>by
  obtain⟨p,q,r⟩:=hT x hx;exact⟨p,q,hz.cb x.1 (by rw[← eT];exact List.mem_map_of_mem hx),r⟩
 have him:∀ x∈M,In64 x.1.args∧In64 x.1.temps∧x.1.lits.length≤b∧x.1.code.length≤b∧PrV w x.2.1 x.1.lits∧ByV w x.2.2 x.1.code:=fun x hx=>by
  obtain⟨p,q,r,t⟩:=hM x hx;obtain⟨y1,y2⟩:=hz.mb x.1 (by rw[← eM];exact List.mem_map_of_mem hx);exact⟨p,q,y1,y2,r,t⟩
 have hio:∀ x∈O,In64 x.1.cls∧x.1.flds.length≤b∧PrV w x.2 x.1.flds:=fun x hx=>by
  obtain⟨p,r⟩:=hO x hx;exact⟨p,hz.ob x.1 (by rw[← eO];exact List.mem_map_of_mem hx),r⟩
 rw[← hl1] at hrn ⊢;rw[← hl2] at hrc ⊢;rw[← hl3] at hrm ⊢;rw[← hl4] at hro ⊢;replace hl1:=HD hl1;replace hTl:=HD hTl;replace hMl:=HD hMl;replace hOl:=HD hOl;replace hT:=HD hT;replace hM:=HD hM;replace hO:=HD hO;replace hrn:=HD hrn;replace hrc:=HD hrc;replace hrm:=HD hrm;replace hro:=HD hro;replace hic:=HD hic;replace him:=HD him;replace hio:=HD hio;clear eT eM eO hz hU hl2 hl3 hl4;have hB:Hid (OB w ((w.alloc (.cells #[.slice na l1 nc,.slice ka l2 kc,.slice ma l3 mc,.slice oa l4 oc,.int .i64 U.main] 27)).alloc (.cells #[.slice none 0 0,.slice none 0 0,.slice none 0 0,.slice none 0 0,.int .i64 0] 27)) (.slice na l1 nc) (.slice ka l2 kc) (.slice ma l3 mc) (.slice oa l4 oc) U.main):=HD ob_born;generalize U.main=mn at *;go_enter Tryz.func11,Tryz.ntmps11
 go_upto_region 1 with fail
 generalize (w.alloc (.cells #[.slice na l1 nc,.slice ka l2 kc,.slice ma l3 mc,.slice oa l4 oc,.int .i64 mn] 27)).alloc (.cells #[.slice none 0 0,.slice none 0 0,.slice none 0 0,.slice none 0 0,.int .i64 0] 27)=W0 at *;have hs0:=hB.out.sz;have hrd0:Hid (Rd (W0.alloc (.cells #[] 9)) (.slice na l1 nc) l1 (strs U.names)):=HD (hrn.out.up ((hB.out.up ((Below.refl W0.heap.size W0).alloc (Nat.le_refl _) (.cells #[] 9))).bel));have k0:(W0.alloc (.cells #[] 9)).cell? ⟨w.heap.size,0,none⟩=some (.slice na l1 nc):=(hB.out.up ((Below.refl _ _).alloc (Nat.le_refl _) _)).c0
 go_upto_region 2 with (first | (at_builtin;refine wpList_app_any rfl (.tmp 13) (.tmp 15) 22 rfl (w.heap.size+2) 9 i0 (.string ByteArray.empty) 1 16 Tryz.underlying22 hi0 hi0z hi0s hi0b rfl (by decide) (.slice (some ⟨W0.heap.size,0,none⟩) 0 0) (.slice na l1 nc) 0 l1 [] (strs U.names) (by simp[Act.eval]) (by simp[Act.eval]) (made_none W0 9 1 _ hs0) hrd0.out (by rw[strs_len,← hl1.out,Nat.mul_one]) (strs_one _) (by omega) (by omega) (by simp only[World.size_alloc];omega) ?_;intro v1 w1 hown1 hgrow1 hat1;rw[Nat.zero_add,List.nil_append] at hown1;obtain⟨a0,c0,rfl⟩:=row_shape hown1;have bl1:=grow_new hgrow1;have na1:=new_at hat1;have hBn:=HD (hB.out.up bl1);have k0b:=hBn.out.c0;have z0b:=hBn.out.z;clear hgrow1 hat1 k0 hrd0))
 have hB':=HD (hBn.out.set0 (.slice a0 l1 c0));have R0:=HD (urow_here hown1 0 (.slice a0 l1 c0));clear hB hBn bl1 na1 hown1 hs0 k0b z0b;have hB:=HD hB'.out;clear hB';generalize w1.setCell ⟨w.heap.size,0,none⟩ (.slice a0 l1 c0)=W1 at *;have hs1:=hB.out.sz;have hrd1:Hid (Rd (W1.alloc (.cells #[] 60)) (.slice ka l2 kc) l2 (cl4s T)):=HD (hrc.out.up ((hB.out.up ((Below.refl W1.heap.size W1).alloc (Nat.le_refl _) (.cells #[] 60))).bel));have k0:(W1.alloc (.cells #[] 60)).cell? ⟨w.heap.size,1,none⟩=some (.slice ka l2 kc):=(hB.out.up ((Below.refl _ _).alloc (Nat.le_refl _) _)).c1
 go_upto_region 3 with (first | (at_builtin;refine wpList_app_any rfl (.tmp 18) (.tmp 20) 23 rfl (w.heap.size+2) 60 i1 (.agg #[.string ByteArray.empty,.int .i64 0,.int .i64 0,.slice none 0 0]) 4 56 Tryz.underlying23 hi1 hi1z hi1s hi1b rfl (by decide) (.slice (some ⟨W1.heap.size,0,none⟩) 0 0) (.slice ka l2 kc) 0 l2 [] (cl4s T) (by simp[Act.eval]) (by simp[Act.eval]) (made_none W1 60 4 _ hs1) hrd1.out (by rw[cl4s_len,hTl.out]) (cl4s_one _ (fun x hx=>by obtain⟨_,_,hp⟩:=hT.out x hx;obtain⟨a,c,e,_⟩:=hp.form;exact⟨_,_,_,e⟩)) (by omega) (by omega) (by simp only[World.size_alloc];omega) ?_;intro v1 w1 hown1 hgrow1 hat1;rw[Nat.zero_add,List.nil_append] at hown1;obtain⟨a1,c1,rfl⟩:=row_shape hown1;have bl1:=grow_new hgrow1;have na1:=new_at hat1;have hBn:=HD (hB.out.up bl1);have k1b:=hBn.out.c1;have z1b:=hBn.out.z;clear hgrow1 hat1 k0 hrd1))
 have hB':=HD (hBn.out.set1 (.slice a1 l2 c1));have R0':=HD (urow_next R0.out bl1 1 (.slice a1 l2 c1));have ap01:Hid (∀ k,(Value.slice a0 l1 c0).ownBlock=some k→(Value.slice a1 l2 c1).ownBlock≠some k):=HD (fun k hk e=>by have:=(R0.out.lt k hk).2;have:=na1 k e;omega);have R1:=HD (urow_here hown1 1 (.slice a1 l2 c1));clear R0;clear hB hBn bl1 na1 hown1 hs1 k1b z1b;have hB:=HD hB'.out;clear hB';have R0:=HD R0'.out;clear R0';generalize w1.setCell ⟨w.heap.size,1,none⟩ (.slice a1 l2 c1)=W2 at *;have hs2:=hB.out.sz;have hrd2:Hid (Rd (W2.alloc (.cells #[] 63)) (.slice ma l3 mc) l3 (mt4s M)):=HD (hrm.out.up ((hB.out.up ((Below.refl W2.heap.size W2).alloc (Nat.le_refl _) (.cells #[] 63))).bel));have k0:(W2.alloc (.cells #[] 63)).cell? ⟨w.heap.size,2,none⟩=some (.slice ma l3 mc):=(hB.out.up ((Below.refl _ _).alloc (Nat.le_refl _) _)).c2
 go_upto_region 4 with (first | (at_builtin;refine wpList_app_any rfl (.tmp 23) (.tmp 25) 24 rfl (w.heap.size+2) 63 i2 (.agg #[.int .i64 0,.int .i64 0,.slice none 0 0,.slice none 0 0]) 4 64 Tryz.underlying24 hi2 hi2z hi2s hi2b rfl (by decide) (.slice (some ⟨W2.heap.size,0,none⟩) 0 0) (.slice ma l3 mc) 0 l3 [] (mt4s M) (by simp[Act.eval]) (by simp[Act.eval]) (made_none W2 63 4 _ hs2) hrd2.out (by rw[mt4s_len,hMl.out]) (mt4s_one _ (fun x hx=>by obtain⟨_,_,hp,hq⟩:=hM.out x hx;obtain⟨a,c,e,_⟩:=hp.form;obtain⟨a2,c2,e2,_⟩:=hq.form;exact⟨⟨_,_,_,e⟩,_,_,_,e2⟩)) (by omega) (by omega) (by simp only[World.size_alloc];omega) ?_;intro v1 w1 hown1 hgrow1 hat1;rw[Nat.zero_add,List.nil_append] at hown1;obtain⟨a2,c2,rfl⟩:=row_shape hown1;have bl1:=grow_new hgrow1;have na1:=new_at hat1;have hBn:=HD (hB.out.up bl1);have k2b:=hBn.out.c2;have z2b:=hBn.out.z;clear hgrow1 hat1 k0 hrd2))
 have hB':=HD (hBn.out.set2 (.slice a2 l3 c2));have R0':=HD (urow_next R0.out bl1 2 (.slice a2 l3 c2));have ap02:Hid (∀ k,(Value.slice a0 l1 c0).ownBlock=some k→(Value.slice a2 l3 c2).ownBlock≠some k):=HD (fun k hk e=>by have:=(R0.out.lt k hk).2;have:=na1 k e;omega);have R1':=HD (urow_next R1.out bl1 2 (.slice a2 l3 c2));have ap12:Hid (∀ k,(Value.slice a1 l2 c1).ownBlock=some k→(Value.slice a2 l3 c2).ownBlock≠some k):=HD (fun k hk e=>by have:=(R1.out.lt k hk).2;have:=na1 k e;omega);have R2:=HD (urow_here hown1 2 (.slice a2 l3 c2));clear R0 R1;clear hB hBn bl1 na1 hown1 hs2 k2b z2b;have hB:=HD hB'.out;clear hB';have R0:=HD R0'.out;clear R0';have R1:=HD R1'.out;clear R1';generalize w1.setCell ⟨w.heap.size,2,none⟩ (.slice a2 l3 c2)=W3 at *;have hs3:=hB.out.sz;have hrd3:Hid (Rd (W3.alloc (.cells #[] 55)) (.slice oa l4 oc) l4 (ob2s O)):=HD (hro.out.up ((hB.out.up ((Below.refl W3.heap.size W3).alloc (Nat.le_refl _) (.cells #[] 55))).bel));have k0:(W3.alloc (.cells #[] 55)).cell? ⟨w.heap.size,3,none⟩=some (.slice oa l4 oc):=(hB.out.up ((Below.refl _ _).alloc (Nat.le_refl _) _)).c3
 go_upto_region 5 with (first | (at_builtin;refine wpList_app_any rfl (.tmp 28) (.tmp 30) 25 rfl (w.heap.size+2) 55 i3 (.agg #[.int .i64 0,.slice none 0 0]) 2 32 Tryz.underlying25 hi3 hi3z hi3s hi3b rfl (by decide) (.slice (some ⟨W3.heap.size,0,none⟩) 0 0) (.slice oa l4 oc) 0 l4 [] (ob2s O) (by simp[Act.eval]) (by simp[Act.eval]) (made_none W3 55 2 _ hs3) hrd3.out (by rw[ob2s_len,hOl.out]) (ob2s_one _ (fun x hx=>by obtain⟨_,hp⟩:=hO.out x hx;obtain⟨a,c,e,_⟩:=hp.form;exact⟨_,_,_,e⟩)) (by omega) (by omega) (by simp only[World.size_alloc];omega) ?_;intro v1 w1 hown1 hgrow1 hat1;rw[Nat.zero_add,List.nil_append] at hown1;obtain⟨a3,c3,rfl⟩:=row_shape hown1;have bl1:=grow_new hgrow1;have na1:=new_at hat1;have hBn:=HD (hB.out.up bl1);have k3b:=hBn.out.c3;have z3b:=hBn.out.z;clear hgrow1 hat1 k0 hrd3))
 have hB':=HD (hBn.out.set3 (.slice a3 l4 c3));have R0':=HD (urow_next R0.out bl1 3 (.slice a3 l4 c3));have ap03:Hid (∀ k,(Value.slice a0 l1 c0).ownBlock=some k→(Value.slice a3 l4 c3).ownBlock≠some k):=HD (fun k hk e=>by have:=(R0.out.lt k hk).2;have:=na1 k e;omega);have R1':=HD (urow_next R1.out bl1 3 (.slice a3 l4 c3));have ap13:Hid (∀ k,(Value.slice a1 l2 c1).ownBlock=some k→(Value.slice a3 l4 c3).ownBlock≠some k):=HD (fun k hk e=>by have:=(R1.out.lt k hk).2;have:=na1 k e;omega);have R2':=HD (urow_next R2.out bl1 3 (.slice a3 l4 c3));have ap23:Hid (∀ k,(Value.slice a2 l3 c2).ownBlock=some k→(Value.slice a3 l4 c3).ownBlock≠some k):=HD (fun k hk e=>by have:=(R2.out.lt k hk).2;have:=na1 k e;omega);have R3:=HD (urow_here hown1 3 (.slice a3 l4 c3));clear R0 R1 R2;clear hB hBn bl1 na1 hown1 hs3 k3b z3b;have hB:=HD hB'.out;clear hB';have R0:=HD R0'.out;clear R0';have R1:=HD R1'.out;clear R1';have R2:=HD R2'.out;clear R2';generalize w1.setCell ⟨w.heap.size,3,none⟩ (.slice a3 l4 c3)=W4 at *;have hOU:Hid (OU w W4 (fun _=>False) b U.names T M O (.slice a0 l1 c0) (.slice a1 l2 c1) (.slice a2 l3 c2) (.slice a3 l4 c3) mn):=HD ⟨hB.out,by rw[← hl1.out];exact R0.out,by rw[hTl.out];exact R1.out,by rw[hMl.out];exact R2.out,by rw[hOl.out];exact R3.out,fun x hx=>by obtain⟨p,q,r,t⟩:=hic.out x hx;exact⟨p,q,r,StP.old t hB.out.bel⟩,fun x hx=>by obtain⟨p,q,r,t,y,z⟩:=him.out x hx;exact⟨p,q,r,t,StP.old y hB.out.bel,StB.old z hB.out.bel⟩,fun x hx=>by obtain⟨p,q,r⟩:=hio.out x hx;exact⟨p,q,StP.old r hB.out.bel⟩,⟨fun k hk=>⟨ap01.out k hk,ap02.out k hk,ap03.out k hk,fun e=>e⟩,fun k hk=>⟨ap12.out k hk,ap13.out k hk,fun e=>e⟩,fun k hk=>⟨ap23.out k hk,fun e=>e⟩,fun k hk e=>e⟩,fun k e=>e.elim,⟨by rw[hTl.out];exact z2.1,by rw[hMl.out];exact z3.1,by rw[hOl.out];exact z4.1⟩,⟨by rw[← hl1.out];exact z1,by rw[hTl.out];exact z2.2,by rw[hMl.out];exact z3.2,by rw[hOl.out];exact z4.2⟩,hzs.out.1,hzs.out.2⟩;clear hB R0 R1 R2 R3 ap01 ap02 ap03 ap12 ap13 ap23 hic him hio hrn hrc hrm hro hT hM hO;obtain⟨gc,rfl⟩:=row_some (by have h:=hOU.out.oc;rw[hTl.out] at h;exact h) (show 0 < l2 by omega);obtain⟨gm,rfl⟩:=row_some (by have h:=hOU.out.om;rw[hMl.out] at h;exact h) (show 0 < l3 by omega);obtain⟨go,rfl⟩:=row_some (by have h:=hOU.out.oo;rw[hOl.out] at h;exact h) (show 0 < l4 by omega);have wm:IntKind.i64.wrap ((l3:Int) - 1)=(l3:Int) - 1:=by rw[IntKind.wrap_i64];omega
 have PA:=HD (within_c at_ 0 ((l3:Int) - 1) ha.1 ha.2 (by omega) (by omega) (by omega));have hka:=within_bd at_ 0 ((l3:Int) - 1) (by omega);obtain⟨km,hkm⟩:∃ k:Nat,within at_ 0 ((l3:Int) - 1)=k:=⟨(within at_ 0 ((l3:Int) - 1)).toNat,by omega⟩
 rw[hkm] at PA hka;have hkml:km < l3:=by omega
 have km0:(0:Int)≤(km:Int):=by omega
 have km1:(km:Int) < (l3:Int):=by omega
 clear hkm hka;have kb:=hOU.out.bx.c2;have cpl:l3≤c2:=by
  obtain⟨_,_,e,h1,_⟩:=(OU.lst hOU.out (Cg.refl _ _)).m.ex;cases e;simp only[List.length_map] at h1;have:=hMl.out;omega
 refine wp_region_still_lit (by kernel_rfl) (by kernel_rfl) ?_
 iterate 7 still_step
 still_call (PA.out _)
 iterate 2 still_step
 refine wpStill_nil ?_;have hOUd:=HD (hOU.out.up ((Below.refl _ _).drew));change Exit.then _ _ Exit.normal _ W4.drew;generalize W4.drew=W5 at *;clear hOU kb wm PA cpl;have hOU:=HD hOUd.out;clear hOUd
 go_upto_region 6 with fail
 have wm:IntKind.i64.wrap ((l4:Int) - 1)=(l4:Int) - 1:=by rw[IntKind.wrap_i64];omega
 have PA:=HD (within_c at_ 0 ((l4:Int) - 1) ha.1 ha.2 (by omega) (by omega) (by omega));have hka:=within_bd at_ 0 ((l4:Int) - 1) (by omega);obtain⟨ko,hko⟩:∃ k:Nat,within at_ 0 ((l4:Int) - 1)=k:=⟨(within at_ 0 ((l4:Int) - 1)).toNat,by omega⟩
 rw[hko] at PA hka;have hkol:ko < l4:=by omega
 have ko0:(0:Int)≤(ko:Int):=by omega
 have ko1:(ko:Int) < (l4:Int):=by omega
 clear hko hka;have kb:=hOU.out.bx.c3;have cpl:l4≤c3:=by
  obtain⟨_,_,e,h1,_⟩:=(OU.lst hOU.out (Cg.refl _ _)).o.form;cases e;simp only[List.length_map] at h1;have:=hOl.out;omega
 refine wp_region_still_lit (by kernel_rfl) (by kernel_rfl) ?_
 iterate 7 still_step
 still_call (PA.out _)
 iterate 2 still_step
 refine wpStill_nil ?_;have hOUd:=HD (hOU.out.up ((Below.refl _ _).drew));change Exit.then _ _ Exit.normal _ W5.drew;generalize W5.drew=W6 at *;clear hOU kb wm PA cpl;have hOU:=HD hOUd.out;clear hOUd
 go_upto_region 7 with fail
 have wm:IntKind.i64.wrap ((l2:Int) - 1)=(l2:Int) - 1:=by rw[IntKind.wrap_i64];omega
 have PA:=HD (within_c at_ 0 ((l2:Int) - 1) ha.1 ha.2 (by omega) (by omega) (by omega));have hka:=within_bd at_ 0 ((l2:Int) - 1) (by omega);obtain⟨kc,hkc⟩:∃ k:Nat,within at_ 0 ((l2:Int) - 1)=k:=⟨(within at_ 0 ((l2:Int) - 1)).toNat,by omega⟩
 rw[hkc] at PA hka;have hkcl:kc < l2:=by omega
 have kc0:(0:Int)≤(kc:Int):=by omega
 have kc1:(kc:Int) < (l2:Int):=by omega
 clear hkc hka;have kb:=hOU.out.bx.c1;have cpl:l2≤c1:=by
  obtain⟨_,_,e,h1,_⟩:=(OU.lst hOU.out (Cg.refl _ _)).c.form;cases e;simp only[List.length_map] at h1;have:=hTl.out;omega
 refine wp_region_still_lit (by kernel_rfl) (by kernel_rfl) ?_
 iterate 7 still_step
 still_call (PA.out _)
 iterate 2 still_step
 refine wpStill_nil ?_;have hOUd:=HD (hOU.out.up ((Below.refl _ _).drew));change Exit.then _ _ Exit.normal _ W6.drew;generalize W6.drew=W7 at *;clear hOU kb wm PA cpl;have hOU:=HD hOUd.out;clear hOUd
 go_upto_region 8 with fail
 have PW:=HD (within_c what 0 13 hw.1 hw.2 (by omega) (by omega) (by omega));have hqa:=within_bd what 0 13 (by omega);generalize within what 0 13=q at *
 go_upto_block 0 with (go_at_call 15;((with_reducible refine (PW.out _).mono ?_);rintro e w2 ⟨rfl,hw2⟩;subst w2))
 clear PW;obtain⟨⟨cx,bv⟩,hxc⟩:∃ x,T[kc]?=some x:=⟨T[kc]'(by have:=hTl.out;omega),by simp⟩
 obtain⟨⟨mx,lv,kv⟩,hxm⟩:∃ x,M[km]?=some x:=⟨M[km]'(by have:=hMl.out;omega),by simp⟩
 obtain⟨⟨ox,fv⟩,hxo⟩:∃ x,O[ko]?=some x:=⟨O[ko]'(by have:=hOl.out;omega),by simp⟩
 replace hxc:=HD hxc;replace hxm:=HD hxm;replace hxo:=HD hxo
 go_cut [] (fun wx=>Hid (OUf w wx (b+50)))
 case rest =>
  as_aux_lemma =>
  rename Hid (OUf _ _ _)=>hcut
  clear hOU;obtain⟨nv,cv,mv,ov,V,hOB,hUV,hZ⟩:=hcut.out.ex;obtain⟨na',nc',ka',kc',ma',mc',oa',oc',rfl,rfl,rfl,rfl⟩:=UnV.forms (hUV _ (Cg.refl _ _));replace hUV:=HD hUV;replace hZ:=HD hZ;replace hOB:=HD hOB;have x0:=hOB.out.c0;have x1:=hOB.out.c1;have x2:=hOB.out.c2;have x3:=hOB.out.c3;have x4:=hOB.out.c4;have hh:=hOB.out.r;have y0:wc.cell? ⟨w.heap.size+1,0,none⟩=some (.slice none 0 0):=cell_in hh rfl;have y1:wc.cell? ⟨w.heap.size+1,1,none⟩=some (.slice none 0 0):=cell_in hh rfl;have y2:wc.cell? ⟨w.heap.size+1,2,none⟩=some (.slice none 0 0):=cell_in hh rfl;have y3:wc.cell? ⟨w.heap.size+1,3,none⟩=some (.slice none 0 0):=cell_in hh rfl;have y4:wc.cell? ⟨w.heap.size+1,4,none⟩=some (.int .i64 0):=cell_in hh rfl;have q0:wc.frozen? ⟨w.heap.size+1,0,none⟩=false:=loose_in hh;have q1:wc.frozen? ⟨w.heap.size+1,1,none⟩=false:=loose_in hh;have q2:wc.frozen? ⟨w.heap.size+1,2,none⟩=false:=loose_in hh;have q3:wc.frozen? ⟨w.heap.size+1,3,none⟩=false:=loose_in hh;have q4:wc.frozen? ⟨w.heap.size+1,4,none⟩=false:=loose_in hh;obtain⟨r0,r1,r2,r3,r4⟩:=set5_at (v0:=.slice na' V.names.length nc') (v1:=.slice ka' V.classes.length kc') (v2:=.slice ma' V.methods.length mc') (v3:=.slice oa' V.objects.length oc') (v4:=.int .i64 V.main) y0 y1 y2 y3 y4;obtain⟨hL,hBel⟩:=OUf.last hOB.out hUV.out (.slice na' V.names.length nc') (.slice ka' V.classes.length kc') (.slice ma' V.methods.length mc') (.slice oa' V.objects.length oc') (.int .i64 V.main);replace hL:=HD hL;replace hBel:=HD hBel;clear hh hcut hxc hxm hxo hTl hMl hOl hl1 z1 z2 z3 z4 hqa hb hmx ha hn hw km0 km1 kc0 kc1 ko0 ko1 hkml hkcl hkol hi0z hi0s hi0b hi1z hi1s hi1b hi2z hi2s hi2b hi3z hi3s hi3b;clear hi0 hi1 hi2 hi3;have ht:wc.there (w.heap.size+1) 0 5:=by
   intro j hj;rcases (show j=0∨j=1∨j=2∨j=3∨j=4 by omega) with rfl | rfl | rfl | rfl | rfl
   ·exact⟨by first | exact⟨_,y0⟩ | (rw[Nat.zero_add,y0];rfl),q0⟩
   ·exact⟨by first | exact⟨_,y1⟩ | (rw[Nat.zero_add,y1];rfl),q1⟩
   ·exact⟨by first | exact⟨_,y2⟩ | (rw[Nat.zero_add,y2];rfl),q2⟩
   ·exact⟨by first | exact⟨_,y3⟩ | (rw[Nat.zero_add,y3];rfl),q3⟩
   ·exact⟨by first | exact⟨_,y4⟩ | (rw[Nat.zero_add,y4];rfl),q4⟩
  replace ht:=HD ht;have hr5:=HD (And.intro r0 (And.intro r1 (And.intro r2 (And.intro r3 r4))));clear y0 y1 y2 y3 y4 q0 q1 q2 q3 q4 r0 r1 r2 r3 r4;have hrg:Hid (wc.rangeAt w.heap.size 0 [.slice na' V.names.length nc',.slice ka' V.classes.length kc',.slice ma' V.methods.length mc',.slice oa' V.objects.length oc',.int .i64 V.main]):=HD (orange5 x0 x1 x2 x3 x4);obtain⟨dU,hdU,hrU⟩:=orowU
  go_upto_region 42 with fail
  refine wp_region_lit ?_;refine wpList_load_mid rfl 27 (.tmp 4) rfl w.heap.size 0 rfl _ dU hrg.out hdU hrU infoU5 ?_
  try simp only[nA]
  refine wpList_store_mid rfl 27 (.tmp 8) (.tmp 230) rfl (w.heap.size+1) 0 #[.slice na' V.names.length nc',.slice ka' V.classes.length kc',.slice ma' V.methods.length mc',.slice oa' V.objects.length oc',.int .i64 V.main] (by simp[Act.eval]) (by simp[Act.eval]) ht.out infoU5 (all_oneCell_toArray (cs:=[.slice na' V.names.length nc',.slice ka' V.classes.length kc',.slice ma' V.methods.length mc',.slice oa' V.objects.length oc',.int .i64 V.main]) (fun v hv=>by simp only[List.mem_cons,List.not_mem_nil,or_false] at hv;rcases hv with rfl | rfl | rfl | rfl | rfl <;> rfl)) ?_;refine wpList_nil ?_;have hW9:wc.setCells (w.heap.size+1) 0 [.slice na' V.names.length nc',.slice ka' V.classes.length kc',.slice ma' V.methods.length mc',.slice oa' V.objects.length oc',.int .i64 V.main]=set5 wc (w.heap.size+1) (.slice na' V.names.length nc') (.slice ka' V.classes.length kc') (.slice ma' V.methods.length mc') (.slice oa' V.objects.length oc') (.int .i64 V.main):=rfl;simp only[hW9];clear hW9;obtain⟨r0,r1,r2,r3,r4⟩:=hr5.out;generalize set5 wc (w.heap.size+1) (.slice na' V.names.length nc') (.slice ka' V.classes.length kc') (.slice ma' V.methods.length mc') (.slice oa' V.objects.length oc') (.int .i64 V.main)=W9 at *
  rename (∀ (a:Act) (w:World),Code.wp _ _ _ a w→_)=>hKr
  refine hKr _ _ ?_;refine wp_ret ?_;refine bodyPost_ret (oddu_res rfl r0 r1 r2 r3 r4) rfl ?_;exact⟨_,V,rfl,UnV.unk hL.out,hZ.out,hBel.out⟩
 case first =>
  rcases (show q=0∨q=1∨q=2∨q=3∨q=4∨q=5∨q=6∨q=7∨q=8∨q=9∨q=10∨q=11∨q=12∨q=13 by omega) with rfl | rfl | rfl | rfl | rfl | rfl | rfl | rfl | rfl | rfl | rfl | rfl | rfl | rfl
  ·as_aux_lemma =>
   obtain⟨j,hj,j4⟩:∃ j:Nat,bits .and .i64 n 3=(j:Int)∧j < 4:=⟨(n % 4).toNat,by rw[umask3];omega,by omega⟩
   have j0:(0:Int)≤(j:Int):=by omega
   have j1:(j:Int) < 4:=by omega
   have x0:=hOU.out.bx.c0;have hn1:(W7.alloc (.cells #[.string ⟨#[103,111]⟩,.string ⟨#[110,101,119]⟩,.string ⟨#[]⟩,.string ⟨#[98,97,100,33]⟩] 9)).heap.size=W7.heap.size+1:=by simp
   obtain⟨nm,hnz,hnm⟩:∃ nm,nm.size≤140737488355328∧(W7.alloc (.cells #[.string ⟨#[103,111]⟩,.string ⟨#[110,101,119]⟩,.string ⟨#[]⟩,.string ⟨#[98,97,100,33]⟩] 9)).cell? ⟨W7.heap.size,j,none⟩=some (.string nm):=by
    rw[World.cell?_alloc_new];rcases (show j=0∨j=1∨j=2∨j=3 by omega) with rfl | rfl | rfl | rfl <;> exact⟨_,by decide,rfl⟩
   replace hnz:=HD hnz;have hOU1:Hid (OU w W7 (fun _=>False) (b+50) U.names T M O (.slice a0 l1 c0) (.slice (some ⟨gc,0,none⟩) l2 c1) (.slice (some ⟨gm,0,none⟩) l3 c2) (.slice (some ⟨go,0,none⟩) l4 c3) mn):=HD (hOU.out.more (by omega) (fun k e=>e) (fun k e=>Or.inl e));have x0a:=(hOU.out.up (((Below.refl W7.heap.size W7).alloc (Nat.le_refl _) (.cells #[.string ⟨#[103,111]⟩,.string ⟨#[110,101,119]⟩,.string ⟨#[]⟩,.string ⟨#[98,97,100,33]⟩] 9)).drew)).bx.c0;have hA7:Hid (Below W7.heap.size W7 (((W7.alloc (.cells #[.string ⟨#[103,111]⟩,.string ⟨#[110,101,119]⟩,.string ⟨#[]⟩,.string ⟨#[98,97,100,33]⟩] 9)).alloc (.cells #[.string nm] 9)).drew)):=HD ((((Below.refl W7.heap.size W7).alloc (Nat.le_refl _) (.cells #[.string ⟨#[103,111]⟩,.string ⟨#[110,101,119]⟩,.string ⟨#[]⟩,.string ⟨#[98,97,100,33]⟩] 9)).alloc (by rw[hn1];omega) (.cells #[.string nm] 9)).drew);have x0b:=(hOU.out.up hA7.out).bx.c0;have on7:Hid (((((W7.alloc (.cells #[.string ⟨#[103,111]⟩,.string ⟨#[110,101,119]⟩,.string ⟨#[]⟩,.string ⟨#[98,97,100,33]⟩] 9)).alloc (.cells #[.string nm] 9)).drew)).ownsRow (w.heap.size+2) 9 1 (.slice a0 l1 c0) l1 (strs U.names)):=HD (by have h:=(hOU.out.up hA7.out).on;rw[← hl1.out] at h;exact h);have hb7:Hid (w.heap.size+2≤((((W7.alloc (.cells #[.string ⟨#[103,111]⟩,.string ⟨#[110,101,119]⟩,.string ⟨#[]⟩,.string ⟨#[98,97,100,33]⟩] 9)).alloc (.cells #[.string nm] 9)).drew)).heap.size):=HD (Nat.le_trans hOU.out.bx.sz hA7.out.size);have rd7:Hid (∀ j u,(strs [nm])[j]?=some u→((((W7.alloc (.cells #[.string ⟨#[103,111]⟩,.string ⟨#[110,101,119]⟩,.string ⟨#[]⟩,.string ⟨#[98,97,100,33]⟩] 9)).alloc (.cells #[.string nm] 9)).drew)).cell? ((⟨W7.heap.size+1,0,none⟩:Addr).add j)=some u):=HD (fun j u hu=>by
    rw[Addr.add_lit,World.cell?_drew,← hn1];rw[World.cell?_alloc_new,← hu];simp[strs])
   clear hOU
   go_upto_region 12 with fail
   refine wp_region_last (d:=10) (fuel:=10) (S:=(fun wr'=>wr'.cell? ⟨w.heap.size,0,none⟩=some (.slice a0 l1 c0))) (by kernel_rfl) (by kernel_rfl) rfl ?_ (fun hHeld=>?_)
   ·(try dsimp only);exact x0
   try simp only[nA]
   refine tk (i:=0) (oi:=⟨some 80,.fieldAddr 27 (.tmp 4) 0,0,"law.go:23",#[],none⟩) ?_
   try simp only[nA]
   refine tk (i:=1) (oi:=⟨some 81,.load 22 (.tmp 80),22,"law.go:23",#[⟨0,.data⟩],none⟩) ?_
   try simp only[nA]
   refine tk (i:=3) (oi:=⟨some 83,.move (.tmp 3),3,"law.go:23",#[],none⟩) ?_
   try simp only[nA]
   refine tk (i:=4) (oi:=⟨some 84,.binOp .and 3 (.tmp 83) (.const (.int .i64 3)) 3,3,"law.go:23",#[⟨3,.data⟩],none⟩) ?_
   try simp only[nA]
   refine wpAnyH_ready (rs:=[2]) (by kernel_rfl) (by simp) ?_;refine AllReadyH.cons (o:=⟨some 82,.buildSlice 22 4 #[(0,.const (Value.string { data:=#[103,111] })),(1,.const (Value.string { data:=#[110,101,119] })),(2,.const (Value.string { data:=#[] })),(3,.const (Value.string { data:=#[98,97,100,33] }))],22,"law.go:23",#[],none⟩) rfl (fun K9 hK=>?_) ?_
   ·go_simp;refine hK.out _ _ ?_ ?_
    ·(try dsimp only);exact x0a
    clear hK K9 hHeld;intro hHeld
    try simp only[nA]
    refine tk (i:=5) (oi:=⟨some 85,.indexAddr 22 (.tmp 82) (.tmp 84),0,"law.go:23",#[⟨2,.data⟩,⟨4,.data⟩],none⟩) ?_
    try simp only[nA]
    refine wpAnyH_ready (rs:=[6]) (by kernel_rfl) (by simp) ?_;refine AllReadyH.cons (o:=⟨some 86,.load 9 (.tmp 85),9,"law.go:23",#[⟨5,.data⟩],none⟩) rfl (fun K9 hK=>?_) ?_
    ·go_simp;refine hK.out _ _ ?_ ?_
     ·(try dsimp only);exact x0a
     clear hK K9 hHeld;intro hHeld
     try simp only[nA]
     refine wpAnyH_ready (rs:=[7]) (by kernel_rfl) (by simp) ?_;refine AllReadyH.cons (o:=⟨some 87,.buildSlice 22 1 #[(0,.tmp 86)],22,"law.go:23",#[⟨6,.data⟩],none⟩) rfl (fun K9 hK=>?_) ?_
     ·go_simp;refine hK.out _ _ ?_ ?_
      ·(try dsimp only);exact x0b
      clear hK K9 hHeld;intro hHeld
      try simp only[nA]
      refine wpAnyH_ready (rs:=[8]) (by kernel_rfl) (by simp) ?_;refine AllReadyH.cons (o:=⟨some 88,.call { callee:=.builtin .append,args:=#[.tmp 81,.tmp 87],argTypes:=#[22,22] },22,"law.go:23",#[⟨1,.data⟩,⟨7,.data⟩],none⟩) rfl (fun K9 hK=>?_) ?_
      ·refine step_append_lies _ rfl (.tmp 81) (.tmp 87) 22 rfl (w.heap.size+2) 9 i0 (.string ByteArray.empty) 1 16 Tryz.underlying22 hi0 hi0z hi0s hi0b rfl (by decide) (.slice a0 l1 c0) l1 _ rfl on7.out ⟨W7.heap.size+1,0,none⟩ 1 1 (strs [nm]) rfl rfl rd7.out (strs_one _) (by omega) (by omega) (by omega) hb7.out _ rfl ?_;intro g1 cap1 wh hown1 hgrow1 hat1 hlt1;have hN:=HD (hOU1.out.pushn hA7.out (by rw[← hl1.out];exact hown1) hgrow1 (fun k hk=>by have e1:g1=k:=(by simpa [Value.ownBlock] using hk);rcases hat1 with e | e;exact Or.inl (by rw[← e1];exact e);exact Or.inr (by rw[← e1];exact e)) (fun k e=>e.elim) (by rw[← hl1.out];omega) hnz.out);have hBx:=(hOU1.out.bx.up hA7.out).cg ((Cg.refl (fun k=>(Value.slice a0 l1 c0).ownBlock=some k) _).grown hgrow1 (fun k hk=>Or.inl hk)) (fun k hk=>((hOU1.out.up hA7.out).on.lt k hk).1);have x0h:=hBx.c0;have z0h:=hBx.z 0;clear hown1 hgrow1 hat1 hlt1 hBx;refine hK.out _ _ ?_ ?_
       ·(try dsimp only);exact x0h
       clear hK K9 hHeld;intro hHeld
       try simp only[nA]
       refine tk (i:=9) (oi:=⟨some 89,.fieldAddr 27 (.tmp 4) 0,0,"law.go:23",#[⟨0,.phase⟩,⟨1,.phase⟩,⟨2,.phase⟩,⟨3,.phase⟩,⟨4,.phase⟩,⟨5,.phase⟩,⟨6,.phase⟩,⟨7,.phase⟩,⟨8,.phase⟩],none⟩) ?_
       try simp only[nA]
       refine last_step (o:=⟨none,.store 22 (.tmp 89) (.tmp 88),0,"law.go:23",#[⟨9,.data⟩,⟨8,.data⟩,⟨8,.chain⟩,⟨0,.phase⟩,⟨1,.phase⟩,⟨2,.phase⟩,⟨3,.phase⟩,⟨4,.phase⟩,⟨5,.phase⟩,⟨6,.phase⟩,⟨7,.phase⟩,⟨8,.phase⟩],none⟩) rfl (by kernel_rfl) (fun K hK=>?_);go_simp;refine hK.out _ _ ?_;clear hK K
       try simp only[nA]
       have hD:=HD (hN.out.fin (Nat.le_refl _))
       go_wp2
       go_meet
       exact hD
      exact AllReadyH.nil
     exact AllReadyH.nil
    exact AllReadyH.nil
   exact AllReadyH.nil
  ·as_aux_lemma =>
   have x0:=hOU.out.bx.c0;have PA:=HD (within_c at_ 0 (l1:Int) ha.1 ha.2 (by omega) (by omega) (by omega));have hka:=within_bd at_ 0 (l1:Int) (by omega);generalize within at_ 0 (l1:Int)=kk at *;obtain⟨k,rfl⟩:∃ k:Nat,kk=(k:Int):=⟨kk.toNat,by omega⟩
   have k0:(0:Int)≤(k:Int):=by omega
   have k1:(k:Int)≤(l1:Int):=by omega
   have kcp:k≤c0:=by
    obtain⟨_,_,e,h1,_⟩:=(OU.lst hOU.out (Cg.refl _ _)).n.ex;cases e;simp only at h1;have:=hl1.out;omega
   go_upto_region 14 with fail
   refine wp_region_still_tail 9 (by kernel_rfl) (by kernel_rfl) ?_;simp only[List.take_succ_cons,List.take_zero,List.drop_succ_cons,List.drop_zero]
   iterate 6 still_step
   still_call (PA.out _)
   iterate 2 still_step
   refine wpStill_nil ?_;change wpList _ _ _ _ _ W7.drew;have hSd:=hOU.out.up ((Below.refl _ _).drew);have x0':=hSd.bx.c0;have zz:=hSd.bx.z 0;have hD:=HD (hSd.cutn k (by have:=hl1.out;omega) (show b≤b+50 by omega));clear hSd PA x0 hOU;generalize W7.drew=Wd at *
   go_wp2
   go_meet
   exact hD
  ·as_aux_lemma =>
   obtain⟨s0,f0,nb,pb⟩:=hOU.out.ic _ (List.mem_of_getElem? hxc.out);simp only at s0 f0 nb pb;have hro:=hOU.out.oc;rw[hTl.out] at hro;have cf:W7.cell? ⟨gc,kc*4+1,none⟩=some (.int .i64 cx.super):=(hro.cellAt (kc*4+1) (by omega)).trans (cl4s_get T kc _ hxc.out).2.1;have zf:W7.frozen? ⟨gc,kc*4+1,none⟩=false:=hro.frozenAt (kc*4+1);have hup:=(cl4s_up T kc _ hxc.out n 0).1;simp only at hup;have hD:=(hOU.out.cls (k:=kc) (j:=1) (y:=(⟨cx.nm,n,cx.fields,cx.binds⟩,bv)) (u:=.int .i64 n) hTl.out hup ⟨hn,f0,nb,pb⟩ (hOU.out.cs (cx,bv) (List.mem_of_getElem? hxc.out))).fin (b':=b+50) (by omega);replace hD:=HD hD;clear hOU hup hro s0 f0 nb pb
   go_wp2
   go_meet
   exact hD
  ·as_aux_lemma =>
   obtain⟨s0,f0,nb,pb⟩:=hOU.out.ic _ (List.mem_of_getElem? hxc.out);simp only at s0 f0 nb pb;have hro:=hOU.out.oc;rw[hTl.out] at hro;have cf:W7.cell? ⟨gc,kc*4+2,none⟩=some (.int .i64 cx.fields):=(hro.cellAt (kc*4+2) (by omega)).trans (cl4s_get T kc _ hxc.out).2.2.1;have zf:W7.frozen? ⟨gc,kc*4+2,none⟩=false:=hro.frozenAt (kc*4+2);have hup:=(cl4s_up T kc _ hxc.out 0 n).2;simp only at hup;have hD:=(hOU.out.cls (k:=kc) (j:=2) (y:=(⟨cx.nm,cx.super,n,cx.binds⟩,bv)) (u:=.int .i64 n) hTl.out hup ⟨s0,hn,nb,pb⟩ (hOU.out.cs (cx,bv) (List.mem_of_getElem? hxc.out))).fin (b':=b+50) (by omega);replace hD:=HD hD;clear hOU hup hro s0 f0 nb pb
   go_wp2
   go_meet
   exact hD
  ·as_aux_lemma =>
   obtain⟨s0,f0,nb,pb⟩:=hOU.out.ic _ (List.mem_of_getElem? hxc.out);simp only at s0 f0 nb pb;obtain⟨j9,hj9,j64⟩:∃ x,bits .and .i64 at_ 15=x∧In64 x:=⟨_,rfl,by rw[umask15];exact in64_of (by omega) (by omega)⟩
   have nb8:=HD nb;obtain⟨ba,bc,eb,hb1,hb2⟩:=pb.view.form;obtain⟨nx,hnx⟩:∃ n,n=cx.binds.length:=⟨_,rfl⟩
   rw[← hnx] at eb hb1;subst eb;have b64:=HD pb.view.b64;have hs7:=hOU.out.bx.sz;have hrd9:Hid (Rd (W7.alloc (.cells #[] 66)) (.slice ba nx bc) nx (pr2 cx.binds)):=HD (by
    have h:=pb.view.rd.up ((Below.refl W7.heap.size W7).alloc (Nat.le_refl _) (.cells #[] 66));rw[← hnx] at h;exact h)
   replace hnx:=HD hnx;obtain⟨i9,hi9,hi9z,hi9s,hi9b⟩:=info_parts infoBind;have k0:(W7.alloc (.cells #[] 66)).cell? ⟨gc,kc*4+3,none⟩=some (.slice ba nx bc):=by
    have hU9:=hOU.out.up ((Below.refl W7.heap.size W7).alloc (Nat.le_refl _) (.cells #[] 66));have hro:=hU9.oc;rw[hTl.out] at hro;exact (hro.cellAt (kc*4+3) (by omega)).trans (cl4s_get T kc _ hxc.out).2.2.2
   clear s0 f0 nb pb;have nb9:nx≤b:=by rw[hnx.out];exact nb8.out
   go_wp2_with (first | (at_builtin;refine wpList_app_any rfl (.tmp 116) (.tmp 120) 58 rfl (w.heap.size+2) 66 i9 (.agg #[.int .i64 0,.int .i64 0]) 2 16 Tryz.underlying58 hi9 hi9z hi9s hi9b rfl (by decide) (.slice (some ⟨W7.heap.size,0,none⟩) 0 0) (.slice ba nx bc) 0 nx [] (pr2 cx.binds) (by simp[Act.eval]) (by simp[Act.eval]) (made_none W7 66 2 _ hs7) hrd9.out (by rw[pr2_len,hnx.out]) (pr2_one _) (by omega) (by omega) (by simp only[World.size_alloc];omega) ?_;intro v3 w3 hown3 hg3 hat3;rw[Nat.zero_add,List.nil_append] at hown3;obtain⟨a9,c9,rfl⟩:=row_shape hown3;have B3:=HD (grow_new hg3);have na3:=HD (new_at hat3);have ho3:=HD (row_bel hown3 ((Below.refl w3.heap.size w3).alloc (Nat.le_refl _) (.cells #[.int .i64 n,.int .i64 j9] 66)));have hs9:w.heap.size+2≤w3.heap.size:=Nat.le_trans hs7 B3.out.size;clear hown3 hg3 hat3 k0 hrd9) | (at_builtin;refine wpList_app_any rfl (.tmp 121) (.tmp 126) 58 rfl (w.heap.size+2) 66 i9 (.agg #[.int .i64 0,.int .i64 0]) 2 16 Tryz.underlying58 hi9 hi9z hi9s hi9b rfl (by decide) (.slice a9 nx c9) (.slice (some ⟨w3.heap.size,0,none⟩) 1 1) nx 1 (pr2 cx.binds) (pr2 [(n,j9)]) (by simp[Act.eval]) (by simp[Act.eval]) ho3.out (Or.inr ⟨_,_,rfl,rd_pair w3 n j9 _⟩) rfl (pr2_one _) (by omega) (by omega) (by simp only[World.size_alloc];omega) ?_;intro v4 w4 hown4 hg4 hat4;obtain⟨a8,c8,rfl⟩:=row_shape hown4;obtain⟨B4,na4,hp4⟩:=app_two hnx.out B3.out na3.out hown4 hg4 hat4 b64.out (p:=(n,j9)) ⟨hn,j64⟩;obtain⟨cf,zf,hD0⟩:=hOU.out.bind hTl.out hxc.out (by rw[List.length_append,List.length_singleton,← hnx.out];omega) B4 na4 hp4;have hD:=HD hD0;clear hD0 hown4 hg4 hat4 B4 na4 hp4 B3 na3 ho3))
   go_meet
   exact hD
  ·as_aux_lemma =>
   obtain⟨s0,f0,nl,nk,pl,pk⟩:=hOU.out.im _ (List.mem_of_getElem? hxm.out);simp only at s0 f0 nl nk pl pk;have hro:=hOU.out.om;rw[hMl.out] at hro;have cf:W7.cell? ⟨gm,km*4,none⟩=some (.int .i64 mx.args):=(hro.cellAt (km*4) (by omega)).trans (mt4s_get M km _ hxm.out).1;have zf:W7.frozen? ⟨gm,km*4,none⟩=false:=hro.frozenAt (km*4);have hup:=(mt4s_up M km _ hxm.out n 0).1;simp only at hup;have hD:=(hOU.out.met (k:=km) (j:=0) (y:=(⟨n,mx.temps,mx.lits,mx.code⟩,lv,kv)) (u:=.int .i64 n) hMl.out hup ⟨hn,f0,nl,nk,pl,pk⟩).fin (b':=b+50) (by omega);rw[Nat.add_zero] at hD;replace hD:=HD hD;clear hOU hup hro s0 f0 nl nk pl pk
   go_wp2
   go_meet
   exact hD
  ·as_aux_lemma =>
   obtain⟨s0,f0,nl,nk,pl,pk⟩:=hOU.out.im _ (List.mem_of_getElem? hxm.out);simp only at s0 f0 nl nk pl pk;have hro:=hOU.out.om;rw[hMl.out] at hro;have cf:W7.cell? ⟨gm,km*4+1,none⟩=some (.int .i64 mx.temps):=(hro.cellAt (km*4+1) (by omega)).trans (mt4s_get M km _ hxm.out).2.1;have zf:W7.frozen? ⟨gm,km*4+1,none⟩=false:=hro.frozenAt (km*4+1);have hup:=(mt4s_up M km _ hxm.out 0 n).2;simp only at hup;have hD:=(hOU.out.met (k:=km) (j:=1) (y:=(⟨mx.args,n,mx.lits,mx.code⟩,lv,kv)) (u:=.int .i64 n) hMl.out hup ⟨s0,hn,nl,nk,pl,pk⟩).fin (b':=b+50) (by omega);replace hD:=HD hD;clear hOU hup hro s0 f0 nl nk pl pk
   go_wp2
   go_meet
   exact hD
  ·as_aux_lemma =>
   obtain⟨s0,f0,nl,nk,pl,pk⟩:=hOU.out.im _ (List.mem_of_getElem? hxm.out);simp only at s0 f0 nl nk pl pk;obtain⟨y0,y1⟩:=wr8_bd n;obtain⟨x0,x1⟩:=wr8_bd at_;generalize hy9:IntKind.u8.wrap n=y9 at *;generalize hx9:IntKind.u8.wrap at_=x9 at *;have hyx:Hid ((0≤y9∧y9≤255)∧(0≤x9∧x9≤255)):=HD (by unfold wr8 at y0 y1 x0 x1;rw[hy9] at y0 y1;rw[hx9] at x0 x1;exact⟨⟨y0,y1⟩,x0,x1⟩);clear y0 y1 x0 x1;have nb8:=HD nk;obtain⟨ba,bc,eb,hb1,hb2⟩:=pk.view.form;obtain⟨nx,hnx⟩:∃ n,n=mx.code.length:=⟨_,rfl⟩
   rw[← hnx] at eb hb1;subst eb;have b8:=HD pk.view.bd;have hs7:=hOU.out.bx.sz;have hrd9:Hid (Rd (W7.alloc (.cells #[.int .u8 y9,.int .u8 x9] 5)) (.slice ba nx bc) nx (bys mx.code)):=HD (by
    have h:=pk.view.rd.up ((Below.refl W7.heap.size W7).alloc (Nat.le_refl _) (.cells #[.int .u8 y9,.int .u8 x9] 5));rw[← hnx] at h;exact h)
   replace hnx:=HD hnx;have hmem:Hid (∀ z∈[y9,x9]++mx.code,0≤z∧z≤255):=HD (fun z hz=>by
    rcases List.mem_append.1 hz with hz | hz
    ·simp only[List.mem_cons,List.not_mem_nil,or_false] at hz;rcases hz with rfl | rfl
     ·exact hyx.out.1
     ·exact hyx.out.2
    ·exact b8.out z hz)
   have hnew:Hid ((W7.alloc (.cells #[.int .u8 y9,.int .u8 x9] 5)).ownsRow (w.heap.size+2) 5 1 (.slice (some ⟨W7.heap.size,0,none⟩) 2 2) 2 (bys [y9,x9])):=HD (World.ownsRow_lit W7 #[.int .u8 y9,.int .u8 x9] 2 hs7 (by decide) (by simp));obtain⟨i9,hi9,hi9z,hi9s,hi9b⟩:=info_parts infoB8;have k0:(W7.alloc (.cells #[.int .u8 y9,.int .u8 x9] 5)).cell? ⟨gm,km*4+3,none⟩=some (.slice ba nx bc):=by
    have hU9:=hOU.out.up ((Below.refl W7.heap.size W7).alloc (Nat.le_refl _) (.cells #[.int .u8 y9,.int .u8 x9] 5));have hro:=hU9.om;rw[hMl.out] at hro;exact (hro.cellAt (km*4+3) (by omega)).trans (mt4s_get M km _ hxm.out).2.2.2
   clear s0 f0 nl nk pl pk;have nb9:nx≤b:=by rw[hnx.out];exact nb8.out
   go_wp2_with (first | (at_builtin;refine wpList_app_any rfl (.tmp 149) (.tmp 153) 36 rfl (w.heap.size+2) 5 i9 (.int .u8 0) 1 1 Tryz.underlying36 hi9 hi9z hi9s hi9b rfl (by decide) (.slice (some ⟨W7.heap.size,0,none⟩) 2 2) (.slice ba nx bc) 2 nx (bys [y9,x9]) (bys mx.code) (by simp[Act.eval]) (by simp[Act.eval]) hnew.out hrd9.out (by rw[bys_len,← hnx.out,Nat.mul_one]) (bys_one _) (by omega) (by omega) (by simp only[World.size_alloc];omega) ?_;intro v4 w4 hown4 hg4 hat4;obtain⟨a8,c8,rfl⟩:=row_shape hown4;have B4:=grow_new hg4;have na4:=new_at hat4;have hp4:ByV w4 (.slice a8 (2+nx) c8) ([y9,x9]++mx.code):=ByV.own (by rw[List.length_append,← hnx.out,bys_app];exact hown4) hmem.out;obtain⟨cf,zf,hD0⟩:=hOU.out.coder hMl.out hxm.out (by rw[List.length_append,← hnx.out];simp only[List.length_cons,List.length_nil];omega) B4 na4 hp4;have hD:=HD hD0;clear hD0 hown4 hg4 hat4 B4 na4 hp4 k0 hrd9 hnew))
   go_meet
   exact hD
  ·as_aux_lemma =>
   obtain⟨s0,f0,nl,nk,pl,pk⟩:=hOU.out.im _ (List.mem_of_getElem? hxm.out);simp only at s0 f0 nl nk pl pk;have nb8:=HD nl;obtain⟨ba,bc,eb,hb1,hb2⟩:=pl.view.form;obtain⟨nx,hnx⟩:∃ n,n=mx.lits.length:=⟨_,rfl⟩
   rw[← hnx] at eb hb1;subst eb;have b64:=HD pl.view.b64;have hs7:=hOU.out.bx.sz;have hrd9:Hid (Rd (W7.alloc (.cells #[] 68)) (.slice ba nx bc) nx (pr2 mx.lits)):=HD (by
    have h:=pl.view.rd.up ((Below.refl W7.heap.size W7).alloc (Nat.le_refl _) (.cells #[] 68));rw[← hnx] at h;exact h)
   replace hnx:=HD hnx;obtain⟨i9,hi9,hi9z,hi9s,hi9b⟩:=info_parts infoVal;have k0:(W7.alloc (.cells #[] 68)).cell? ⟨gm,km*4+2,none⟩=some (.slice ba nx bc):=by
    have hU9:=hOU.out.up ((Below.refl W7.heap.size W7).alloc (Nat.le_refl _) (.cells #[] 68));have hro:=hU9.om;rw[hMl.out] at hro;exact (hro.cellAt (km*4+2) (by omega)).trans (mt4s_get M km _ hxm.out).2.2.1
   clear s0 f0 nl nk pl pk;have nb9:nx≤b:=by rw[hnx.out];exact nb8.out
   go_wp2_with (first | (at_builtin;refine wpList_app_any rfl (.tmp 160) (.tmp 164) 53 rfl (w.heap.size+2) 68 i9 (.agg #[.int .i64 0,.int .i64 0]) 2 16 Tryz.underlying53 hi9 hi9z hi9s hi9b rfl (by decide) (.slice (some ⟨W7.heap.size,0,none⟩) 0 0) (.slice ba nx bc) 0 nx [] (pr2 mx.lits) (by simp[Act.eval]) (by simp[Act.eval]) (made_none W7 68 2 _ hs7) hrd9.out (by rw[pr2_len,hnx.out]) (pr2_one _) (by omega) (by omega) (by simp only[World.size_alloc];omega) ?_;intro v3 w3 hown3 hg3 hat3;rw[Nat.zero_add,List.nil_append] at hown3;obtain⟨a9,c9,rfl⟩:=row_shape hown3;have B3:=HD (grow_new hg3);have na3:=HD (new_at hat3);have ho3:=HD (row_bel hown3 ((Below.refl w3.heap.size w3).alloc (Nat.le_refl _) (.cells #[.int .i64 n,.int .i64 at_] 68)));have hs9:w.heap.size+2≤w3.heap.size:=Nat.le_trans hs7 B3.out.size;clear hown3 hg3 hat3 k0 hrd9) | (at_builtin;refine wpList_app_any rfl (.tmp 165) (.tmp 169) 53 rfl (w.heap.size+2) 68 i9 (.agg #[.int .i64 0,.int .i64 0]) 2 16 Tryz.underlying53 hi9 hi9z hi9s hi9b rfl (by decide) (.slice a9 nx c9) (.slice (some ⟨w3.heap.size,0,none⟩) 1 1) nx 1 (pr2 mx.lits) (pr2 [(n,at_)]) (by simp[Act.eval]) (by simp[Act.eval]) ho3.out (Or.inr ⟨_,_,rfl,rd_pair w3 n at_ _⟩) rfl (pr2_one _) (by omega) (by omega) (by simp only[World.size_alloc];omega) ?_;intro v4 w4 hown4 hg4 hat4;obtain⟨a8,c8,rfl⟩:=row_shape hown4;obtain⟨B4,na4,hp4⟩:=app_two hnx.out B3.out na3.out hown4 hg4 hat4 b64.out (p:=(n,at_)) ⟨hn,ha⟩;obtain⟨cf,zf,hD0⟩:=hOU.out.litr hMl.out hxm.out (by rw[List.length_append,List.length_singleton,← hnx.out];omega) B4 na4 hp4;have hD:=HD hD0;clear hD0 hown4 hg4 hat4 B4 na4 hp4 B3 na3 ho3))
   go_meet
   exact hD
  ·as_aux_lemma =>
   obtain⟨s0,nf,pf⟩:=hOU.out.io _ (List.mem_of_getElem? hxo.out);simp only at s0 nf pf;have hro:=hOU.out.oo;rw[hOl.out] at hro;have cf:W7.cell? ⟨go,ko*2,none⟩=some (.int .i64 ox.cls):=(hro.cellAt (ko*2) (by omega)).trans (ob2s_get O ko _ hxo.out).1;have zf:W7.frozen? ⟨go,ko*2,none⟩=false:=hro.frozenAt (ko*2);have hup:=(ob2s_up O ko _ hxo.out n [] (.int .i64 0)).1;simp only at hup;have hD:=(hOU.out.obj (k:=ko) (j:=0) (y:=(⟨n,ox.flds⟩,fv)) (u:=.int .i64 n) hOl.out hup ⟨hn,nf,pf⟩).fin (b':=b+50) (by omega);rw[Nat.add_zero] at hD;replace hD:=HD hD;clear hOU hup hro s0 nf pf
   go_wp2
   go_meet
   exact hD
  ·as_aux_lemma =>
   obtain⟨s0,nf,pf⟩:=hOU.out.io _ (List.mem_of_getElem? hxo.out);simp only at s0 nf pf;obtain⟨j9,hj9,j64⟩:∃ x,bits .and .i64 n 7=x∧In64 x:=⟨_,rfl,by rw[umask7];exact in64_of (by omega) (by omega)⟩
   have nb8:=HD nf;obtain⟨ba,bc,eb,hb1,hb2⟩:=pf.view.form;obtain⟨nx,hnx⟩:∃ n,n=ox.flds.length:=⟨_,rfl⟩
   rw[← hnx] at eb hb1;subst eb;have b64:=HD pf.view.b64;have hs7:=hOU.out.bx.sz;have hrd9:Hid (Rd (W7.alloc (.cells #[] 68)) (.slice ba nx bc) nx (pr2 ox.flds)):=HD (by
    have h:=pf.view.rd.up ((Below.refl W7.heap.size W7).alloc (Nat.le_refl _) (.cells #[] 68));rw[← hnx] at h;exact h)
   replace hnx:=HD hnx;obtain⟨i9,hi9,hi9z,hi9s,hi9b⟩:=info_parts infoVal;have k0:(W7.alloc (.cells #[] 68)).cell? ⟨go,ko*2+1,none⟩=some (.slice ba nx bc):=by
    have hU9:=hOU.out.up ((Below.refl W7.heap.size W7).alloc (Nat.le_refl _) (.cells #[] 68));have hro:=hU9.oo;rw[hOl.out] at hro;exact (hro.cellAt (ko*2+1) (by omega)).trans (ob2s_get O ko _ hxo.out).2
   clear s0 nf pf;have nb9:nx≤b:=by rw[hnx.out];exact nb8.out
   go_wp2_with (first | (at_builtin;refine wpList_app_any rfl (.tmp 182) (.tmp 186) 53 rfl (w.heap.size+2) 68 i9 (.agg #[.int .i64 0,.int .i64 0]) 2 16 Tryz.underlying53 hi9 hi9z hi9s hi9b rfl (by decide) (.slice (some ⟨W7.heap.size,0,none⟩) 0 0) (.slice ba nx bc) 0 nx [] (pr2 ox.flds) (by simp[Act.eval]) (by simp[Act.eval]) (made_none W7 68 2 _ hs7) hrd9.out (by rw[pr2_len,hnx.out]) (pr2_one _) (by omega) (by omega) (by simp only[World.size_alloc];omega) ?_;intro v3 w3 hown3 hg3 hat3;rw[Nat.zero_add,List.nil_append] at hown3;obtain⟨a9,c9,rfl⟩:=row_shape hown3;have B3:=HD (grow_new hg3);have na3:=HD (new_at hat3);have ho3:=HD (row_bel hown3 ((Below.refl w3.heap.size w3).alloc (Nat.le_refl _) (.cells #[.int .i64 j9,.int .i64 at_] 68)));have hs9:w.heap.size+2≤w3.heap.size:=Nat.le_trans hs7 B3.out.size;clear hown3 hg3 hat3 k0 hrd9) | (at_builtin;refine wpList_app_any rfl (.tmp 187) (.tmp 192) 53 rfl (w.heap.size+2) 68 i9 (.agg #[.int .i64 0,.int .i64 0]) 2 16 Tryz.underlying53 hi9 hi9z hi9s hi9b rfl (by decide) (.slice a9 nx c9) (.slice (some ⟨w3.heap.size,0,none⟩) 1 1) nx 1 (pr2 ox.flds) (pr2 [(j9,at_)]) (by simp[Act.eval]) (by simp[Act.eval]) ho3.out (Or.inr ⟨_,_,rfl,rd_pair w3 j9 at_ _⟩) rfl (pr2_one _) (by omega) (by omega) (by simp only[World.size_alloc];omega) ?_;intro v4 w4 hown4 hg4 hat4;obtain⟨a8,c8,rfl⟩:=row_shape hown4;obtain⟨B4,na4,hp4⟩:=app_two hnx.out B3.out na3.out hown4 hg4 hat4 b64.out (p:=(j9,at_)) ⟨j64,ha⟩;obtain⟨cf,zf,hD0⟩:=hOU.out.fldr hOl.out hxo.out (by rw[List.length_append,List.length_singleton,← hnx.out];omega) B4 na4 hp4;have hD:=HD hD0;clear hD0 hown4 hg4 hat4 B4 na4 hp4 B3 na3 ho3))
   go_meet
   exact hD
  ·as_aux_lemma =>
   obtain⟨j9,hj9,j64⟩:∃ x,bits .and .i64 n 7=x∧In64 x:=⟨_,rfl,by rw[umask7];exact in64_of (by omega) (by omega)⟩
   obtain⟨s0,nf,pf⟩:=hOU.out.io _ (List.mem_of_getElem? hxo.out);simp only at s0 nf pf;have nb8:=HD nf;obtain⟨ba,bc,eb,hb1,hb2⟩:=pf.view.form;obtain⟨nx,hnx⟩:∃ n,n=ox.flds.length:=⟨_,rfl⟩
   rw[← hnx] at eb hb1;subst eb;have b64:=HD pf.view.b64;have hs7:=hOU.out.bx.sz;have hrd9:Hid (Rd (W7.alloc (.cells #[] 68)) (.slice ba nx bc) nx (pr2 ox.flds)):=HD (by
    have h:=pf.view.rd.up ((Below.refl W7.heap.size W7).alloc (Nat.le_refl _) (.cells #[] 68));rw[← hnx] at h;exact h)
   replace hnx:=HD hnx;obtain⟨i9,hi9,hi9z,hi9s,hi9b⟩:=info_parts infoVal;have k0:(W7.alloc (.cells #[] 68)).cell? ⟨go,ko*2+1,none⟩=some (.slice ba nx bc):=by
    have hU9:=hOU.out.up ((Below.refl W7.heap.size W7).alloc (Nat.le_refl _) (.cells #[] 68));have hro:=hU9.oo;rw[hOl.out] at hro;exact (hro.cellAt (ko*2+1) (by omega)).trans (ob2s_get O ko _ hxo.out).2
   clear s0 nf pf;have nb9:nx≤b:=by rw[hnx.out];exact nb8.out
   go_upto_region 35 with (first | (at_builtin;refine wpList_app_any rfl (.tmp 199) (.tmp 203) 53 rfl (w.heap.size+2) 68 i9 (.agg #[.int .i64 0,.int .i64 0]) 2 16 Tryz.underlying53 hi9 hi9z hi9s hi9b rfl (by decide) (.slice (some ⟨W7.heap.size,0,none⟩) 0 0) (.slice ba nx bc) 0 nx [] (pr2 ox.flds) (by simp[Act.eval]) (by simp[Act.eval]) (made_none W7 68 2 _ hs7) hrd9.out (by rw[pr2_len,hnx.out]) (pr2_one _) (by omega) (by omega) (by simp only[World.size_alloc];omega) ?_;intro v3 w3 hown3 hg3 hat3;rw[Nat.zero_add,List.nil_append] at hown3;have B3:=grow_new hg3;have na3:=new_at hat3;obtain⟨g3,hg3e⟩:∃ g,v3.ownBlock=some g:=(by rcases hat3 with e | e;exact⟨_,e⟩;exact⟨_,e⟩);obtain⟨c9,rfl⟩:=row_own hown3 hg3e;obtain⟨cf,zf,hL0⟩:=OL.start hOU.out hOl.out hxo.out B3 (na3 g3 rfl) hown3 hnx.out.symm b64.out;have hL:=HD hL0;clear hL0 hown3 hg3 hat3 B3 na3 hg3e k0 hrd9))
   clear hOU;generalize w3.setCell ⟨go,ko*2+1,none⟩ (.slice (some ⟨g3,0,none⟩) nx c9)=Wl at *;have cl:=hL.out.cell hOl.out;have n99:(nx:Int)≤9223372036854775807:=by omega
   go_wp2
   clear cl
   go_loopw [212] (fun i wr=>∃ (k:Nat),k≤nx∧i=.int .i64 k∧Hid (∃ B,OL w wr b U.names T M O (.slice a0 l1 c0) (.slice (some ⟨gc,0,none⟩) l2 c1) (.slice (some ⟨gm,0,none⟩) l3 c2) (.slice (some ⟨go,0,none⟩) l4 c3) mn ko ox.cls B g3 nx c9)) (fun i _=>nx - (intOf i).toNat)
   case atStart=>exact⟨0,by omega,rfl,HD ⟨_,hL.out⟩⟩
   case round =>
    clear hL;obtain⟨k,hk,rfl,hE⟩:=hrel;obtain⟨B,hL⟩:=hE.out;clear hE;have cl:=hL.cell hOl.out;by_cases hlt:k < nx
    ·as_aux_lemma =>
     have hlt':decide ((k:Int) < (nx:Int))=true:=by simp;omega
     have p0:(0:Int)≤(k:Int):=by omega
     have p1:(k:Int) < (nx:Int):=by omega
     obtain⟨y,hy⟩:∃ y,B[k]?=some y:=⟨B[k]'(by have:=hL.bl;omega),by simp⟩
     obtain⟨q0,q1⟩:=pr2_get B k y hy;have d0:wr.cell? ⟨g3,k*2,none⟩=some (.int .i64 y.1):=(hL.o3.cellAt (k*2) (by omega)).trans q0;have d1:wr.cell? ⟨g3,k*2+1,none⟩=some (.int .i64 y.2):=(hL.o3.cellAt (k*2+1) (by omega)).trans q1;have z0:=hL.o3.frozenAt (k*2);have z1':=hL.o3.frozenAt (k*2+1);have cpx:nx≤c9:=by
      have h3:=hL.o3;have hbl:=hL.bl;rcases h3.2 with ⟨e,_⟩ | ⟨_,_,_,e,_,_,hle,_⟩
      ·cases e
      ·cases e;exact hle
     have hL':=HD (hL.put hlt j9 at_ j64 ha);clear q0 q1 hy hL
     go_wp2
     go_roundw
     case rel=>(first | exact⟨k+1,by omega,by go_num,HD ⟨_,hL'.out⟩⟩ | ((repeat apply Exists.intro (α:=Value));exact⟨⟨k+1,by omega,by go_num,HD ⟨_,hL'.out⟩⟩,rfl⟩))
     case measure=>simp[intOf];omega
    ·as_aux_lemma =>
     have hlt':decide ((k:Int) < (nx:Int))=false:=by simp;omega
     have hD:=HD (hL.fin (b':=b+50) (by omega));clear hL cl
     go_wp2
     go_meet
     exact hD
  ·as_aux_lemma =>
   have x4:=hOU.out.bx.c4;have z4':=hOU.out.bx.z 4;have hD:=HD ((hOU.out.setm n).fin (b':=b+50) (by omega));clear hOU
   go_wp2
   go_meet
   exact hD
  ·as_aux_lemma =>
   obtain⟨r,hr,r1⟩:∃ r:Nat,bits .and .i64 n 1=(r:Int)∧r≤1:=⟨(n % 2).toNat,by rw[umask1];omega,by omega⟩
   have hst:Hid (∃ (a:Option Addr) (c:Nat) (O':List (ObjA × Value)),1≤O'.length∧OU w W7 (fun _=>False) (b+50) U.names T M O' (.slice a0 l1 c0) (.slice (some ⟨gc,0,none⟩) l2 c1) (.slice (some ⟨gm,0,none⟩) l3 c2) (.slice a O'.length c) mn):=HD ⟨some ⟨go,0,none⟩,c3,O,by rw[hOl.out];omega,by rw[hOl.out];exact hOU.out.more (by omega) (fun k e=>e) (fun k e=>Or.inl e)⟩;clear hOU
   go_wp2
   go_loopw [] (fun wr=>Hid (∃ (a:Option Addr) (c:Nat) (O':List (ObjA × Value)),1≤O'.length∧OU w wr (fun _=>False) (b+50) U.names T M O' (.slice a0 l1 c0) (.slice (some ⟨gc,0,none⟩) l2 c1) (.slice (some ⟨gm,0,none⟩) l3 c2) (.slice a O'.length c) mn)) (fun wr=>50 - ulenAt (wr.cell? ⟨w.heap.size,3,none⟩))
   case atStart=>exact hst
   case round =>
    clear hst;obtain⟨a,c,O',hO1,hS⟩:=hrel.out;clear hrel;obtain⟨m,hOm⟩:∃ m,O'.length=m:=⟨_,rfl⟩
    rw[hOm] at hS hO1;have hoo:=hS.oo;rw[hOm] at hoo;obtain⟨g,rfl⟩:=row_some hoo (by omega);replace hS:=HD hS;have x3:=hS.out.bx.c3;have hmeas:Hid (ulenAt (wr.cell? ⟨w.heap.size,3,none⟩)=m):=HD (by rw[x3];rfl);replace hOm:=HD hOm;by_cases hlt:(m:Int) < 40+(r:Int)
    ·as_aux_lemma =>
     have d1:decide ((m:Int) < 40+(r:Int))=true:=by simpa using hlt
     have m0:(0:Int) < (m:Int):=by omega
     have mN:0 < m:=by omega
     obtain⟨⟨o0,f0⟩,h0⟩:∃ x,O'[0]?=some x:=⟨O'[0]'(by have:=hOm.out;omega),by simp⟩
     have hx0:=hS.out.io _ (List.mem_of_getElem? h0);obtain⟨fa,fc,ef,_,_⟩:=hx0.2.2.view.form;obtain⟨fl,hfl⟩:∃ n,n=o0.flds.length:=⟨_,rfl⟩
     simp only at ef;rw[← hfl] at ef;subst ef;obtain⟨p0,p1⟩:=ob2s_get O' 0 _ h0;have d0:wr.cell? ⟨g,0,none⟩=some (.int .i64 o0.cls):=(hoo.cellAt 0 (by omega)).trans p0;have e0:wr.cell? ⟨g,1,none⟩=some (.slice fa fl fc):=(hoo.cellAt 1 (by omega)).trans p1;have cpo:m≤c:=by
      obtain⟨_,_,e,h1,_⟩:=(OU.lst hS.out (Cg.refl _ _)).o.ex;cases e;simp only[List.length_map] at h1;have:=hOm.out;omega
     have hA6:Hid (Below wr.heap.size wr ((wr.alloc (.cells #[.int .i64 o0.cls,.slice fa fl fc] 55)).drew)):=HD (((Below.refl wr.heap.size wr).alloc (Nat.le_refl _) (.cells #[.int .i64 o0.cls,.slice fa fl fc] 55)).drew);have ho6:Hid (((wr.alloc (.cells #[.int .i64 o0.cls,.slice fa fl fc] 55)).drew).ownsRow (w.heap.size+2) 55 2 (.slice (some ⟨g,0,none⟩) m c) m (ob2s O')):=HD (row_bel hoo hA6.out);have ho1:Hid (∀ u∈ob2s [(o0,Value.slice fa fl fc)],u.oneCell'=true):=HD (ob2s_one _ (fun x hx=>by rw[List.mem_singleton.1 hx];exact⟨_,_,_,rfl⟩));have hb6:Hid (w.heap.size+2≤((wr.alloc (.cells #[.int .i64 o0.cls,.slice fa fl fc] 55)).drew).heap.size):=HD (Nat.le_trans hS.out.bx.sz hA6.out.size);have x3a:=(hS.out.up hA6.out).bx.c3;replace hx0:=HD hx0;clear hoo h0 p0 p1 hfl
     go_upto_region 10 with fail
     refine wp_region_last (d:=9) (fuel:=9) (S:=(fun wr'=>wr'.cell? ⟨w.heap.size,3,none⟩=some (.slice (some ⟨g,0,none⟩) m c))) (by kernel_rfl) (by kernel_rfl) rfl ?_ (fun hHeld=>?_)
     ·(try dsimp only);exact x3
     try simp only[nA]
     refine tk (i:=0) (oi:=⟨some 69,.fieldAddr 27 (.tmp 4) 3,0,"law.go:53",#[],none⟩) ?_
     try simp only[nA]
     refine tk (i:=1) (oi:=⟨some 70,.load 25 (.tmp 69),25,"law.go:53",#[⟨0,.data⟩],none⟩) ?_
     try simp only[nA]
     refine tk (i:=2) (oi:=⟨some 71,.fieldAddr 27 (.tmp 4) 3,0,"law.go:53",#[],none⟩) ?_
     try simp only[nA]
     refine tk (i:=3) (oi:=⟨some 72,.load 25 (.tmp 71),25,"law.go:53",#[⟨2,.data⟩],none⟩) ?_
     try simp only[nA]
     refine tk (i:=4) (oi:=⟨some 73,.indexAddr 25 (.tmp 72) (.const (.int .i64 0)),0,"law.go:53",#[⟨3,.data⟩],none⟩) ?_
     try simp only[nA]
     refine wpAnyH_ready (rs:=[5]) (by kernel_rfl) (by simp) ?_;refine AllReadyH.cons (o:=⟨some 74,.load 55 (.tmp 73),55,"law.go:53",#[⟨4,.data⟩],none⟩) rfl (fun K9 hK=>?_) ?_
     ·go_simp;refine hK.out _ _ ?_ ?_
      ·(try dsimp only);exact x3
      clear hK K9 hHeld;intro hHeld
      try simp only[nA]
      refine wpAnyH_ready (rs:=[6]) (by kernel_rfl) (by simp) ?_;refine AllReadyH.cons (o:=⟨some 75,.buildSlice 25 1 #[(0,.tmp 74)],25,"law.go:53",#[⟨5,.data⟩],none⟩) rfl (fun K9 hK=>?_) ?_
      ·go_simp;refine hK.out _ _ ?_ ?_
       ·(try dsimp only);exact x3a
       clear hK K9 hHeld;intro hHeld
       try simp only[nA]
       refine wpAnyH_ready (rs:=[7]) (by kernel_rfl) (by simp) ?_;refine AllReadyH.cons (o:=⟨some 76,.call { callee:=.builtin .append,args:=#[.tmp 70,.tmp 75],argTypes:=#[25,25] },25,"law.go:53",#[⟨1,.data⟩,⟨6,.data⟩],none⟩) rfl (fun K9 hK=>?_) ?_
       ·refine step_append_lies _ rfl (.tmp 70) (.tmp 75) 25 rfl (w.heap.size+2) 55 i3 (.agg #[.int .i64 0,.slice none 0 0]) 2 32 Tryz.underlying25 hi3 hi3z hi3s hi3b rfl (by decide) (.slice (some ⟨g,0,none⟩) m c) m _ rfl ho6.out ⟨wr.heap.size,0,none⟩ 1 1 (ob2s [(o0,.slice fa fl fc)]) rfl rfl (rd_obj wr o0.cls fa fl fc _ o0.flds) ho1.out (by omega) (by omega) (by omega) hb6.out _ rfl ?_;intro g1 cap1 wh hown1 hgrow1 hat1 hlt1;have hN:=HD (hS.out.pusho hA6.out (by rw[hOm.out];exact hown1) hgrow1 (fun k hk=>by have e1:g1=k:=(by simpa [Value.ownBlock] using hk);rcases hat1 with e | e;exact Or.inl (by rw[← e1];exact e);exact Or.inr (by rw[← e1];exact e)) (fun k e=>e.elim) (by rw[hOm.out];omega) hx0.out);have hBx:=(hS.out.bx.up hA6.out).cg ((Cg.refl (fun k=>(Value.slice (some ⟨g,0,none⟩) m c).ownBlock=some k) _).grown hgrow1 (fun k hk=>Or.inl hk)) (fun k hk=>((hS.out.up hA6.out).oo.lt k hk).1);have x3h:=hBx.c3;have z3h:=hBx.z 3;clear hown1 hgrow1 hat1 hlt1 hBx;refine hK.out _ _ ?_ ?_
        ·(try dsimp only);exact x3h
        clear hK K9 hHeld;intro hHeld
        try simp only[nA]
        refine tk (i:=8) (oi:=⟨some 77,.fieldAddr 27 (.tmp 4) 3,0,"law.go:53",#[⟨0,.phase⟩,⟨1,.phase⟩,⟨2,.phase⟩,⟨3,.phase⟩,⟨4,.phase⟩,⟨5,.phase⟩,⟨6,.phase⟩,⟨7,.phase⟩],none⟩) ?_
        try simp only[nA]
        refine last_step (o:=⟨none,.store 25 (.tmp 77) (.tmp 76),0,"law.go:53",#[⟨8,.data⟩,⟨7,.data⟩,⟨7,.chain⟩,⟨0,.phase⟩,⟨1,.phase⟩,⟨2,.phase⟩,⟨3,.phase⟩,⟨4,.phase⟩,⟨5,.phase⟩,⟨6,.phase⟩,⟨7,.phase⟩],none⟩) rfl (by kernel_rfl) (fun K hK=>?_);go_simp;refine hK.out _ _ ?_;clear hK K
        try simp only[nA]
        go_roundw
        case rel=>(repeat apply Exists.intro (α:=Value));exact⟨HD ⟨some ⟨g1,0,none⟩,cap1,O'++[(o0,.slice fa fl fc)],by rw[List.length_append,List.length_singleton];omega,by rw[List.length_append,List.length_singleton,hOm.out];exact hN.out⟩,rfl⟩
        case measure=>rw[hN.out.bx.c3,hmeas.out];simp only[ulenAt];omega
       exact AllReadyH.nil
      exact AllReadyH.nil
     exact AllReadyH.nil
    ·as_aux_lemma =>
     have d1:decide ((m:Int) < 40+(r:Int))=false:=by simpa using hlt
     have hD:=HD (hS.out.fin (Nat.le_refl _));clear hoo
     go_wp2
     go_meet
     exact hD
end Wd
end Go.Proofs.YtgfnelhbdhbklaaGreat
