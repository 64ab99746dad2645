/- Texts joined: UTP, USH, UKN, ILK0, ILK, ILN, UTC, UTM, UTR, ILO, ILQ. -/
import Derived.Test.YtgfnelhbdhbklaaGreatJT1
import Derived.Test.YtgfnelhbdhbklaaGreatJT2
import Derived.Test.YtgfnelhbdhbklaaGreatJT3
import Derived.Test.YtgfnelhbdhbklaaGreatJT5
import Derived.Test.YtgfnelhbdhbklaaGreatJT7
import Derived.Test.YtgfnelhbdhbklaaGreatJT8
import Derived.Test.YtgfnelhbdhbklaaGreatJT12
import Derived.Test.YtgfnelhbdhbklaaGreatJT13
import Derived.Test.YtgfnelhbdhbklaaGreatJT15
import Derived.Test.YtgfnelhbdhbklaaGreatJT19
import Derived.Maps.AppendAt
import Derived.Deep.AppendLies
import Derived.SizedLaws
import Derived.ProofKit
import Derived.OpenShut
import Derived.Carry
import Derived.Laws.MakeOwn
namespace Go.Proofs.YtgfnelhbdhbklaaGreat
open Go.RowKit
set_option linter.unusedVariables false
set_option maxRecDepth 20000
namespace Wd
theorem UnV.k {w:World} {nv cv mv ov:Value} {U:UnitA} (h:UnV w nv cv mv ov U) (hm:U.main=6):UnK w (.agg #[nv,cv,mv,ov,.int .i64 6]) U:=by
 obtain⟨na,nc,rfl,_⟩:=h.n.ex;obtain⟨ca,cc,rfl,_⟩:=h.c.ex;obtain⟨ma,mc,rfl,_⟩:=h.m.ex;obtain⟨oa,oc,rfl,_⟩:=h.o.ex;exact⟨⟨na,nc,ca,cc,ma,mc,oa,oc,by rw[hm],h⟩⟩
theorem MeV.of {w:World} {la ca:Option Addr} {nl lc nb cc:Nat} {a t:Int} {L:List (Int × Int)} {C:List Int} (hl:PrV w (.slice la nl lc) L) (hc:ByV w (.slice ca nb cc) C) (ha:In64 a) (ht:In64 t):MeV w (.agg #[.int .i64 a,.int .i64 t,.slice la nl lc,.slice ca nb cc]) ⟨a,t,L,C⟩:=by
 obtain⟨_,_,e,_⟩:=hl.ex;obtain⟨_,_,e2,_⟩:=hc.ex;cases e;cases e2;exact⟨⟨la,lc,ca,cc,rfl,hl,hc⟩,ha,ht⟩
def NumA (w:World) (ad:Option Addr) (n:Nat):Prop:=∀ k,k < n→∃ (g off:Nat) (x:Int),ad=some ⟨g,off,none⟩∧(-9223372036854775808≤x∧x≤9223372036854775807)∧w.cell? ⟨g,off+k,none⟩=some (.int .i64 x)
theorem NumA.up {w w1:World} {ad:Option Addr} {n:Nat} (h:NumA w ad n) (b:Below w.heap.size w w1):NumA w1 ad n:=fun k hk=>by
 obtain⟨g,off,x,e,h1,h2⟩:=h k hk;exact⟨g,off,x,e,h1,cell_up b h2⟩
theorem tape_tp {w:World} {ad:Option Addr} {n cap:Nat} (h:NumA w ad n) (hn:n≤4611686018427387904):Tp (w.alloc (.cells #[.slice ad n cap,.int .i64 0] 32)) w.heap.size ad n:=by
 refine⟨⟨cap,by simp⟩,⟨0,by omega,by simp⟩,World.frozen?_alloc_new _ _ _ _,fun k hk=>?_,hn⟩;obtain⟨g,off,x,e,b,c⟩:=h k hk;have hg:=World.block_lt_of_cell? w _ c;exact⟨g,off,x,e,by simp only at hg;omega,b,(World.cell?_alloc_old _ _ _ (Nat.ne_of_lt hg)).trans c⟩
theorem unit_bel {w w':World} {c:Obj} (h:Cg (fun k=>k=w.heap.size) (w.alloc c) w'):Below w.heap.size w w' :=
 ⟨h.os,h.tape,h.output,by have:=h.size;simp at this;omega,fun k hk=>(h.block k (by simp;omega) (by omega)).trans (Below.heap_alloc _ _ _ hk)⟩
structure UnT (s:Nat) (w:World) (v:Value) (U:UnitA) (g cap:Nat) (M:List (MethA × Value × Value)):Prop where
 ex:∃ na nc ca cc oa oc,v=.agg #[.slice na U.names.length nc,.slice ca U.classes.length cc,.slice (some ⟨g,0,none⟩) U.methods.length cap,.slice oa U.objects.length oc,.int .i64 U.main]
 un:∀ (G:Nat→Prop) (w2:World),Cg G w w2→(∀ k,G k→k < s)→UnK w2 v U
 mm:M.map (·.1)=U.methods
 ms:∀ (G:Nat→Prop) (w2:World),Cg G w w2→(∀ k,G k→k < s)→∀ (k:Nat) x,M[k]?=some x→w2.cell? ⟨g,k*4,none⟩=some (.int .i64 x.1.args)∧w2.cell? ⟨g,k*4+1,none⟩=some (.int .i64 x.1.temps)∧w2.cell? ⟨g,k*4+2,none⟩=some x.2.1∧w2.cell? ⟨g,k*4+3,none⟩=some x.2.2∧In64 x.1.args∧In64 x.1.temps∧PrV w2 x.2.1 x.1.lits∧ByV w2 x.2.2 x.1.code
 ta:TapeU U
theorem UnT.cg {s:Nat} {w w1:World} {v:Value} {U:UnitA} {g cap:Nat} {M:List (MethA × Value × Value)} (h:UnT s w v U g cap M) {F:Nat→Prop} (c:Cg F w w1) (hF:∀ k,F k→k < s):UnT s w1 v U g cap M :=
 ⟨h.ex,fun G w2 hG hl=>h.un (fun k=>F k∨G k) w2 ((c.mono (fun k hk=>Or.inl hk)).trans (hG.mono (fun k hk=>Or.inr hk))) (fun k hk=>hk.elim (hF k) (hl k)),h.mm,
  fun G w2 hG hl=>h.ms (fun k=>F k∨G k) w2 ((c.mono (fun k hk=>Or.inl hk)).trans (hG.mono (fun k hk=>Or.inr hk))) (fun k hk=>hk.elim (hF k) (hl k)),h.ta⟩
theorem UnT.up {s:Nat} {w w1:World} {v:Value} {U:UnitA} {g cap:Nat} {M:List (MethA × Value × Value)} (h:UnT s w v U g cap M) (b:Below w.heap.size w w1):UnT s w1 v U g cap M:=h.cg (Cg.below (fun _=>False) b) (fun _ e=>e.elim)
theorem UnT.k {s:Nat} {w:World} {v:Value} {U:UnitA} {g cap:Nat} {M:List (MethA × Value × Value)} (h:UnT s w v U g cap M):UnK w v U:=h.un (fun _=>False) w (Cg.refl _ _) (fun _ e=>e.elim)
theorem UnT.m {s:Nat} {w:World} {v:Value} {U:UnitA} {g cap:Nat} {M:List (MethA × Value × Value)} (h:UnT s w v U g cap M) {k:Nat} {x:MethA × Value × Value} (hx:M[k]?=some x):w.cell? ⟨g,k*4,none⟩=some (.int .i64 x.1.args)∧w.cell? ⟨g,k*4+1,none⟩=some (.int .i64 x.1.temps)∧w.cell? ⟨g,k*4+2,none⟩=some x.2.1∧w.cell? ⟨g,k*4+3,none⟩=some x.2.2∧In64 x.1.args∧In64 x.1.temps∧PrV w x.2.1 x.1.lits∧ByV w x.2.2 x.1.code:=h.ms (fun _=>False) w (Cg.refl _ _) (fun _ e=>e.elim) k x hx
theorem UnT.me {s:Nat} {w:World} {v:Value} {U:UnitA} {g cap:Nat} {M:List (MethA × Value × Value)} (h:UnT s w v U g cap M) {k:Nat} {x:MethA × Value × Value} (hx:M[k]?=some x):MeV w (.agg #[.int .i64 x.1.args,.int .i64 x.1.temps,x.2.1,x.2.2]) x.1:=by
 obtain⟨_,_,_,_,i1,i2,hl,hc⟩:=h.m hx;obtain⟨la,lc,e1,_⟩:=hl.form;obtain⟨ca,cc,e2,_⟩:=hc.form;rw[e1] at hl ⊢;rw[e2] at hc ⊢;exact MeV.of hl hc i1 i2
theorem UnT.ml {s:Nat} {w:World} {v:Value} {U:UnitA} {g cap:Nat} {M:List (MethA × Value × Value)} (h:UnT s w v U g cap M):M.length=9∧U.methods.length=9:=by
 have:=h.ta.ml;rw[← h.mm] at this;exact⟨by simpa using this,h.ta.ml⟩
end Wd
end Go.Proofs.YtgfnelhbdhbklaaGreat
namespace Go.Proofs.YtgfnelhbdhbklaaGreat
open Go.ChangeShapes Go.WideShapes Go.ChangeAt Go.RowKit
set_option linter.unusedVariables false
set_option maxRecDepth 100000
namespace Wd
theorem laidOut:laidOutB Tryz.prog=true:=by kernel_rfl
theorem cellsI9:Tryz.prog.cellsOf 3=1:=by kernel_rfl
theorem cellsS9:Tryz.prog.cellsOf 9=1:=by kernel_rfl
theorem cellsV9:Tryz.prog.cellsOf 68=2:=by kernel_rfl
theorem cellsB9:Tryz.prog.cellsOf 66=2:=by kernel_rfl
theorem cellsU9:Tryz.prog.cellsOf 5=1:=by kernel_rfl
theorem cellsM9:Tryz.prog.cellsOf 63=4:=by kernel_rfl
theorem cellsC9:Tryz.prog.cellsOf 60=4:=by kernel_rfl
theorem cellsO9:Tryz.prog.cellsOf 55=2:=by kernel_rfl
theorem cellsN9:Tryz.prog.cellsOf 27=5:=by kernel_rfl
theorem cellsLV:Tryz.prog.cellsOf 53=1:=by kernel_rfl
theorem cellsLB:Tryz.prog.cellsOf 58=1:=by kernel_rfl
theorem cellsLU:Tryz.prog.cellsOf 36=1:=by kernel_rfl
theorem cellsLS:Tryz.prog.cellsOf 22=1:=by kernel_rfl
theorem cellsLC:Tryz.prog.cellsOf 23=1:=by kernel_rfl
theorem cellsLM:Tryz.prog.cellsOf 24=1:=by kernel_rfl
theorem cellsLO:Tryz.prog.cellsOf 25=1:=by kernel_rfl
theorem bytesV9:Tryz.prog.bytesOf 68=16:=by kernel_rfl
theorem bytesB9:Tryz.prog.bytesOf 66=16:=by kernel_rfl
theorem bytesU9:Tryz.prog.bytesOf 5=1:=by kernel_rfl
theorem bytesI9:Tryz.prog.bytesOf 3=8:=by kernel_rfl
theorem list2 {α:Type} (l:List α) (h:l.length=2):∃ a b,l=[a,b]:=by
 match l,h with
 | [a,b],_=>exact⟨a,b,rfl⟩
theorem list4 {α:Type} (l:List α) (h:l.length=4):∃ a b c d,l=[a,b,c,d]:=by
 match l,h with
 | [a,b,c,d],_=>exact⟨a,b,c,d,rfl⟩
theorem list5 {α:Type} (l:List α) (h:l.length=5):∃ a b c d e,l=[a,b,c,d,e]:=by
 match l,h with
 | [a,b,c,d,e],_=>exact⟨a,b,c,d,e,rfl⟩
variable {H:Type} {enc:TypeId × Value→H} {W:World}
def Wok (t:TypeId) (d:DataW H):Prop:=∀ x∈d.weights Tryz.prog t,x≤reachBytes
theorem weights_mem_all {t:TypeId}:∀ {ds:List (DataW H)} {j:Nat} {d:DataW H},ds[j]?=some d→∀ n∈d.weights Tryz.prog t,n∈DataW.weightsAll Tryz.prog t ds
 | d0 :: ds,0,d,hd,n,hn=>by
  simp only[List.getElem?_cons_zero,Option.some.injEq] at hd;subst hd;simp only[DataW.weightsAll,List.mem_append];exact Or.inl hn
 | d0 :: ds,j+1,d,hd,n,hn=>by
  simp only[List.getElem?_cons_succ] at hd;simp only[DataW.weightsAll,List.mem_append];exact Or.inr (weights_mem_all hd n hn)
 | [],_,_,hd,_,_=>by simp at hd
theorem Wok.part {t:TypeId} {fs:Array Field} {parts:List (DataW H)} (hu:Tryz.prog.underlying t=some (.struct fs)) (h:Wok t (.agg parts)) {j:Nat} {u:TypeId} {d:DataW H} (hj:(fs.toList.map (·.type))[j]?=some u) (hd:parts[j]?=some d):Wok u d:=fun x hx =>
 h x (by simp only[DataW.weights,hu];exact DataW.weights_mem_each hj hd x hx)
theorem row_rd {T e:TypeId} {sz:Nat} (hu:Tryz.prog.underlying T=some (.slice e)) (hc:Tryz.prog.cellsOf e=sz) (h0:0 < sz) {n:Nat} {c:Value} {y:DataW H × List MemPlace} (h:DataW.trod enc Tryz.prog W 0 (fun _=>true) true n T [c]=some y) (hw:Wok T y.1) :
  ∃ ad len cap,c=.slice ad len cap∧len≤cap∧cap≤maxLen∧len*Tryz.prog.bytesOf e≤reachBytes∧∀ k,k < len→∃ (g off:Nat) (cs:List Value) (z:DataW H × List MemPlace) (n':Nat),ad=some ⟨g,off,none⟩∧cs.length=sz∧(∀ i,i < sz→W.cell? ⟨g,off+k*sz+i,none⟩=cs[i]?)∧DataW.trod enc Tryz.prog W 0 (fun _=>true) true n' e cs=some z∧Wok e z.1:=by
 rcases DataW.trod_slice hu h with ⟨hcs,hx⟩ | ⟨a,len,cap,elems,rest,m,_,hcs,hx,hb,hl,hm,hlen,hel,_,_⟩
 ·simp at hcs;exact⟨none,0,0,hcs,by omega,by decide,by omega,fun k hk=>absurd hk (by omega)⟩
 ·simp at hcs;rw[hx] at hw;have hsp:0 < len→a.spot=none:=fun hl0=>by
   obtain⟨z,hz⟩:∃ z,elems[0]?=some z:=⟨elems[0]'(by omega),by simp⟩
   have hk1:=hel 0 hl0;rw[hz,hc,Option.bind_eq_some_iff] at hk1;obtain⟨cs,hcc,ht⟩:=hk1;obtain⟨_,hcl,hce⟩:=World.cells?_some hcc;obtain⟨v0,hv0⟩:∃ v,cs[0]?=some v:=⟨cs[0]'(by omega),by simp⟩
   have hs:=World.cell?_spot ((hce 0 h0).trans hv0);simpa [Addr.add] using hs
  refine⟨some a,len,cap,hcs,hl,hm,?_,fun k hk=>?_⟩
  ·have:=hw ((elems.length+rest.length)*Tryz.prog.bytesOf e) (by simp[DataW.weights,hu]);have h2:len*Tryz.prog.bytesOf e≤(elems.length+rest.length)*Tryz.prog.bytesOf e:=Nat.mul_le_mul_right _ (by omega);omega
  ·obtain⟨z,hz⟩:∃ z,elems[k]?=some z:=⟨elems[k]'(by omega),by simp⟩
   have hk1:=hel k hk;rw[hz,hc,Option.bind_eq_some_iff] at hk1;obtain⟨cs,hcc,ht⟩:=hk1;obtain⟨_,hcl,hce⟩:=World.cells?_some hcc;obtain⟨b,off,spot⟩:=a;have hspot:spot=none:=hsp (by omega);subst hspot;refine⟨b,off,cs,z,m,rfl,hcl,fun i hi=>?_,ht,fun x hx=>hw x ?_⟩
   ·have:=hce i hi;simpa only [Addr.add_lit] using this
   ·simp only[DataW.weights,hu,List.mem_cons,List.mem_append];exact Or.inr (Or.inl (weights_mem_all (by rw[List.getElem?_map,hz];rfl) x hx))
theorem vals_rd {n:Nat} {c:Value} {y:DataW H × List MemPlace} (h:DataW.trod enc Tryz.prog W 0 (fun _=>true) true n 53 [c]=some y) (hw:Wok 53 y.1):∃ B,PrV W c B∧B.length≤8796093022208:=by
 obtain⟨ad,len,cap,rfl,hl,hm,hb,hel⟩:=row_rd Tryz.underlying53 cellsV9 (by decide) h hw;rw[bytesV9] at hb;obtain⟨B,hB1,hB2⟩:=pick_n (P:=fun k (x:Int × Int)=>In64 x.1∧In64 x.2∧∃ g off,ad=some ⟨g,off,none⟩∧W.cell? ⟨g,off+k*2,none⟩=some (.int .i64 x.1)∧W.cell? ⟨g,off+k*2+1,none⟩=some (.int .i64 x.2)) len (fun k hk=>by
  obtain⟨g,off,cs,z,m,e1,hcl,hce,ht,_⟩:=hel k hk;obtain⟨xs,n',_,_,_,hxl,hg⟩:=DataW.trod_struct Tryz.underlying68 ht;obtain⟨y0,y1,rfl⟩:=list2 xs hxl;obtain⟨c0,c1,rfl⟩:=list2 cs hcl;have g0:DataW.trod enc Tryz.prog W 0 (fun _=>true) true n' 3 (([c0,c1].drop 0).take (Tryz.prog.cellsOf 3))=some y0:=hg 0 _ rfl;have g1:DataW.trod enc Tryz.prog W 0 (fun _=>true) true n' 3 (([c0,c1].drop 1).take (Tryz.prog.cellsOf 3))=some y1:=hg 1 _ rfl;rw[cellsI9] at g0 g1;obtain⟨x,e0,_,w0⟩:=DataW.trod_int Tryz.underlying3 g0;obtain⟨q,e2,_,w1⟩:=DataW.trod_int Tryz.underlying3 g1;simp at e0 e2;subst e0 e2;exact⟨(x,q),bounds_i64 w0,bounds_i64 w1,g,off,e1,hce 0 (by decide),hce 1 (by decide)⟩)
 subst hB1;refine⟨B,⟨ad,cap,rfl,hl,hm,hB2⟩,?_⟩;simp only[reachBytes] at hb;omega
theorem binds_rd {n:Nat} {c:Value} {y:DataW H × List MemPlace} (h:DataW.trod enc Tryz.prog W 0 (fun _=>true) true n 58 [c]=some y) (hw:Wok 58 y.1):∃ B,PrV W c B∧B.length≤8796093022208:=by
 obtain⟨ad,len,cap,rfl,hl,hm,hb,hel⟩:=row_rd Tryz.underlying58 cellsB9 (by decide) h hw;rw[bytesB9] at hb;obtain⟨B,hB1,hB2⟩:=pick_n (P:=fun k (x:Int × Int)=>In64 x.1∧In64 x.2∧∃ g off,ad=some ⟨g,off,none⟩∧W.cell? ⟨g,off+k*2,none⟩=some (.int .i64 x.1)∧W.cell? ⟨g,off+k*2+1,none⟩=some (.int .i64 x.2)) len (fun k hk=>by
  obtain⟨g,off,cs,z,m,e1,hcl,hce,ht,_⟩:=hel k hk;obtain⟨xs,n',_,_,_,hxl,hg⟩:=DataW.trod_struct Tryz.underlying66 ht;obtain⟨y0,y1,rfl⟩:=list2 xs hxl;obtain⟨c0,c1,rfl⟩:=list2 cs hcl;have g0:DataW.trod enc Tryz.prog W 0 (fun _=>true) true n' 3 (([c0,c1].drop 0).take (Tryz.prog.cellsOf 3))=some y0:=hg 0 _ rfl;have g1:DataW.trod enc Tryz.prog W 0 (fun _=>true) true n' 3 (([c0,c1].drop 1).take (Tryz.prog.cellsOf 3))=some y1:=hg 1 _ rfl;rw[cellsI9] at g0 g1;obtain⟨x,e0,_,w0⟩:=DataW.trod_int Tryz.underlying3 g0;obtain⟨q,e2,_,w1⟩:=DataW.trod_int Tryz.underlying3 g1;simp at e0 e2;subst e0 e2;exact⟨(x,q),bounds_i64 w0,bounds_i64 w1,g,off,e1,hce 0 (by decide),hce 1 (by decide)⟩)
 subst hB1;refine⟨B,⟨ad,cap,rfl,hl,hm,hB2⟩,?_⟩;simp only[reachBytes] at hb;omega
theorem bytes_rd {n:Nat} {c:Value} {y:DataW H × List MemPlace} (h:DataW.trod enc Tryz.prog W 0 (fun _=>true) true n 36 [c]=some y) (hw:Wok 36 y.1):∃ L,ByV W c L∧L.length≤140737488355328:=by
 obtain⟨ad,len,cap,rfl,hl,hm,hb,hel⟩:=row_rd Tryz.underlying36 cellsU9 (by decide) h hw;rw[bytesU9] at hb;obtain⟨B,hB1,hB2⟩:=pick_n (P:=fun k (x:Int)=>(0≤x∧x≤255)∧∃ g off,ad=some ⟨g,off,none⟩∧W.cell? ⟨g,off+k,none⟩=some (.int .u8 x)) len (fun k hk=>by
  obtain⟨g,off,cs,z,m,e1,hcl,hce,ht,_⟩:=hel k hk;obtain⟨x,e0,_,w0⟩:=DataW.trod_int Tryz.underlying5 ht;subst e0;exact⟨x,bounds_u8 w0,g,off,e1,by have:=hce 0 (by decide);simpa using this⟩)
 subst hB1;refine⟨B,⟨ad,cap,rfl,hl,hm,hB2⟩,?_⟩;simp only[reachBytes] at hb;omega
theorem str_size {z:DataW H × List MemPlace} {x:ByteArray} (hz:Wok 9 z.1) (ez:z=(.lit (.string x.data.toList),[])):x.size≤140737488355328:=by
 subst ez;have h:=hz x.data.toList.length (by simp[DataW.weights]);simp only[reachBytes,Array.length_toList] at h;have e:x.size=x.data.size:=rfl;omega
theorem strs_rd {n:Nat} {c:Value} {y:DataW H × List MemPlace} (h:DataW.trod enc Tryz.prog W 0 (fun _=>true) true n 22 [c]=some y) (hw:Wok 22 y.1):∃ L,NmV W c L∧∀ x∈L,x.size≤140737488355328:=by
 obtain⟨ad,len,cap,rfl,hl,hm,hb,hel⟩:=row_rd Tryz.underlying22 cellsS9 (by decide) h hw;obtain⟨B,hB1,hB2⟩:=pick_n (P:=fun k (x:ByteArray)=>(∃ g off,ad=some ⟨g,off,none⟩∧W.cell? ⟨g,off+k,none⟩=some (.string x))∧x.size≤140737488355328) len (fun k hk=>by
  obtain⟨g,off,cs,z,m,e1,hcl,hce,ht,hz⟩:=hel k hk;obtain⟨x,e0,ez,w0⟩:=DataW.trod_string Tryz.underlying9 ht;subst e0;exact⟨x,⟨g,off,e1,by have:=hce 0 (by decide);simpa using this⟩,str_size hz ez⟩)
 subst hB1;exact⟨B,⟨ad,cap,rfl,hl,hm,fun k x hx=>(hB2 k x hx).1⟩,fun x hx=>by obtain⟨k,hk⟩:=List.getElem?_of_mem hx;exact (hB2 k x hk).2⟩
theorem classes_rd {n:Nat} {c:Value} {y:DataW H × List MemPlace} (h:DataW.trod enc Tryz.prog W 0 (fun _=>true) true n 23 [c]=some y) (hw:Wok 23 y.1):∃ L,ClV W c L∧(∀ x∈L,x.binds.length≤8796093022208)∧∀ x∈L,x.nm.size≤140737488355328:=by
 obtain⟨ad,len,cap,rfl,hl,hm,hb,hel⟩:=row_rd Tryz.underlying23 cellsC9 (by decide) h hw;obtain⟨B,hB1,hB2⟩:=pick_n (P:=fun k (c:ClassA)=>(In64 c.super∧In64 c.fields∧∃ g off bv,ad=some ⟨g,off,none⟩∧W.cell? ⟨g,off+k*4,none⟩=some (.string c.nm)∧W.cell? ⟨g,off+k*4+1,none⟩=some (.int .i64 c.super)∧W.cell? ⟨g,off+k*4+2,none⟩=some (.int .i64 c.fields)∧W.cell? ⟨g,off+k*4+3,none⟩=some bv∧PrV W bv c.binds)∧c.binds.length≤8796093022208∧c.nm.size≤140737488355328) len (fun k hk=>by
  obtain⟨g,off,cs,z,m,e1,hcl,hce,ht,hz⟩:=hel k hk;obtain⟨xs,n',_,rfl,_,hxl,hg⟩:=DataW.trod_struct Tryz.underlying60 ht;obtain⟨y0,y1,y2,y3,rfl⟩:=list4 xs hxl;obtain⟨c0,c1,c2,c3,rfl⟩:=list4 cs hcl;have g0:DataW.trod enc Tryz.prog W 0 (fun _=>true) true n' 9 (([c0,c1,c2,c3].drop 0).take (Tryz.prog.cellsOf 9))=some y0:=hg 0 _ rfl;have g1:DataW.trod enc Tryz.prog W 0 (fun _=>true) true n' 3 (([c0,c1,c2,c3].drop 1).take (Tryz.prog.cellsOf 3))=some y1:=hg 1 _ rfl;have g2:DataW.trod enc Tryz.prog W 0 (fun _=>true) true n' 3 (([c0,c1,c2,c3].drop 2).take (Tryz.prog.cellsOf 3))=some y2:=hg 2 _ rfl;have g3:DataW.trod enc Tryz.prog W 0 (fun _=>true) true n' 58 (([c0,c1,c2,c3].drop 3).take (Tryz.prog.cellsOf 58))=some y3:=hg 3 _ rfl;rw[cellsS9] at g0;rw[cellsI9] at g1 g2;rw[cellsLB] at g3;obtain⟨x,q0,ez,_⟩:=DataW.trod_string Tryz.underlying9 g0;have hzn:=str_size (hz.part Tryz.underlying60 (j:=0) rfl rfl) ez;obtain⟨p,q1,_,w1⟩:=DataW.trod_int Tryz.underlying3 g1;obtain⟨q,q2,_,w2⟩:=DataW.trod_int Tryz.underlying3 g2;simp at q0 q1 q2;subst q0 q1 q2;obtain⟨L,hL,hLb⟩:=binds_rd (c:=c3) (by simpa using g3) (hz.part Tryz.underlying60 (j:=3) rfl rfl);exact⟨⟨x,p,q,L⟩,⟨bounds_i64 w1,bounds_i64 w2,g,off,_,e1,hce 0 (by decide),hce 1 (by decide),hce 2 (by decide),hce 3 (by decide),hL⟩,hLb,hzn⟩)
 subst hB1;refine⟨B,⟨ad,cap,rfl,hl,hm,fun k x hx=>(hB2 k x hx).1⟩,fun x hx=>?_,fun x hx=>?_⟩
 ·obtain⟨k,hk⟩:=List.getElem?_of_mem hx;exact (hB2 k x hk).2.1
 ·obtain⟨k,hk⟩:=List.getElem?_of_mem hx;exact (hB2 k x hk).2.2
theorem methods_rd {n:Nat} {c:Value} {y:DataW H × List MemPlace} (h:DataW.trod enc Tryz.prog W 0 (fun _=>true) true n 24 [c]=some y) (hw:Wok 24 y.1):∃ L,MtV W c L∧∀ x∈L,x.lits.length≤8796093022208∧x.code.length≤140737488355328:=by
 obtain⟨ad,len,cap,rfl,hl,hm,hb,hel⟩:=row_rd Tryz.underlying24 cellsM9 (by decide) h hw;obtain⟨B,hB1,hB2⟩:=pick_n (P:=fun k (x:MethA)=>(In64 x.args∧In64 x.temps∧∃ g off lv cv,ad=some ⟨g,off,none⟩∧W.cell? ⟨g,off+k*4,none⟩=some (.int .i64 x.args)∧W.cell? ⟨g,off+k*4+1,none⟩=some (.int .i64 x.temps)∧W.cell? ⟨g,off+k*4+2,none⟩=some lv∧W.cell? ⟨g,off+k*4+3,none⟩=some cv∧PrV W lv x.lits∧ByV W cv x.code)∧x.lits.length≤8796093022208∧x.code.length≤140737488355328) len (fun k hk=>by
  obtain⟨g,off,cs,z,m,e1,hcl,hce,ht,hz⟩:=hel k hk;obtain⟨xs,n',_,rfl,_,hxl,hg⟩:=DataW.trod_struct Tryz.underlying63 ht;obtain⟨y0,y1,y2,y3,rfl⟩:=list4 xs hxl;obtain⟨c0,c1,c2,c3,rfl⟩:=list4 cs hcl;have g0:DataW.trod enc Tryz.prog W 0 (fun _=>true) true n' 3 (([c0,c1,c2,c3].drop 0).take (Tryz.prog.cellsOf 3))=some y0:=hg 0 _ rfl;have g1:DataW.trod enc Tryz.prog W 0 (fun _=>true) true n' 3 (([c0,c1,c2,c3].drop 1).take (Tryz.prog.cellsOf 3))=some y1:=hg 1 _ rfl;have g2:DataW.trod enc Tryz.prog W 0 (fun _=>true) true n' 53 (([c0,c1,c2,c3].drop 2).take (Tryz.prog.cellsOf 53))=some y2:=hg 2 _ rfl;have g3:DataW.trod enc Tryz.prog W 0 (fun _=>true) true n' 36 (([c0,c1,c2,c3].drop 3).take (Tryz.prog.cellsOf 36))=some y3:=hg 3 _ rfl;rw[cellsI9] at g0 g1;rw[cellsLV] at g2;rw[cellsLU] at g3;obtain⟨p,q1,_,w1⟩:=DataW.trod_int Tryz.underlying3 g0;obtain⟨q,q2,_,w2⟩:=DataW.trod_int Tryz.underlying3 g1;simp at q1 q2;subst q1 q2;obtain⟨L,hL,hLb⟩:=vals_rd (c:=c2) (by simpa using g2) (hz.part Tryz.underlying63 (j:=2) rfl rfl);obtain⟨C,hC,hCb⟩:=bytes_rd (c:=c3) (by simpa using g3) (hz.part Tryz.underlying63 (j:=3) rfl rfl);exact⟨⟨p,q,L,C⟩,⟨bounds_i64 w1,bounds_i64 w2,g,off,_,_,e1,hce 0 (by decide),hce 1 (by decide),hce 2 (by decide),hce 3 (by decide),hL,hC⟩,hLb,hCb⟩)
 subst hB1;refine⟨B,⟨ad,cap,rfl,hl,hm,fun k x hx=>(hB2 k x hx).1⟩,fun x hx=>?_⟩;obtain⟨k,hk⟩:=List.getElem?_of_mem hx;exact (hB2 k x hk).2
theorem objects_rd {n:Nat} {c:Value} {y:DataW H × List MemPlace} (h:DataW.trod enc Tryz.prog W 0 (fun _=>true) true n 25 [c]=some y) (hw:Wok 25 y.1):∃ L,ObV W c L∧∀ x∈L,x.flds.length≤8796093022208:=by
 obtain⟨ad,len,cap,rfl,hl,hm,hb,hel⟩:=row_rd Tryz.underlying25 cellsO9 (by decide) h hw;obtain⟨B,hB1,hB2⟩:=pick_n (P:=fun k (x:ObjA)=>(In64 x.cls∧∃ g off fv,ad=some ⟨g,off,none⟩∧W.cell? ⟨g,off+k*2,none⟩=some (.int .i64 x.cls)∧W.cell? ⟨g,off+k*2+1,none⟩=some fv∧PrV W fv x.flds)∧x.flds.length≤8796093022208) len (fun k hk=>by
  obtain⟨g,off,cs,z,m,e1,hcl,hce,ht,hz⟩:=hel k hk;obtain⟨xs,n',_,rfl,_,hxl,hg⟩:=DataW.trod_struct Tryz.underlying55 ht;obtain⟨y0,y1,rfl⟩:=list2 xs hxl;obtain⟨c0,c1,rfl⟩:=list2 cs hcl;have g0:DataW.trod enc Tryz.prog W 0 (fun _=>true) true n' 3 (([c0,c1].drop 0).take (Tryz.prog.cellsOf 3))=some y0:=hg 0 _ rfl;have g1:DataW.trod enc Tryz.prog W 0 (fun _=>true) true n' 53 (([c0,c1].drop 1).take (Tryz.prog.cellsOf 53))=some y1:=hg 1 _ rfl;rw[cellsI9] at g0;rw[cellsLV] at g1;obtain⟨p,q1,_,w1⟩:=DataW.trod_int Tryz.underlying3 g0;simp at q1;subst q1;obtain⟨L,hL,hLb⟩:=vals_rd (c:=c1) (by simpa using g1) (hz.part Tryz.underlying55 (j:=1) rfl rfl);exact⟨⟨p,L⟩,⟨bounds_i64 w1,g,off,_,e1,hce 0 (by decide),hce 1 (by decide),hL⟩,hLb⟩)
 subst hB1;refine⟨B,⟨ad,cap,rfl,hl,hm,fun k x hx=>(hB2 k x hx).1⟩,fun x hx=>?_⟩;obtain⟨k,hk⟩:=List.getElem?_of_mem hx;exact (hB2 k x hk).2
theorem unit_of {base:Nat} {v:Value} {d:DataW H} {p:List MemPlace} (hv:Value.okWide Tryz.prog W .any base 27 v) (h:DataW.Trod enc Tryz.prog W 0 (fun _=>true) true 27 v d p) (hw:Wok 27 d):∃ U,UnK W v U∧(∀ c∈U.classes,c.binds.length≤8796093022208)∧(∀ m∈U.methods,m.lits.length≤8796093022208∧m.code.length≤140737488355328)∧(∀ x∈U.objects,x.flds.length≤8796093022208)∧(∀ x∈U.names,x.size≤140737488355328)∧∀ c∈U.classes,c.nm.size≤140737488355328:=by
 obtain⟨cs,rfl,hsz⟩:=okWide_struct Tryz.underlying27 hv;rw[cellsN9] at hsz;obtain⟨l⟩:=cs;obtain⟨c0,c1,c2,c3,c4,rfl⟩:=list5 l hsz;obtain⟨fuel,hf⟩:=h;obtain⟨xs,n',_,ex,_,hxl,hg⟩:=DataW.trod_struct Tryz.underlying27 hf;obtain⟨y0,y1,y2,y3,y4,rfl⟩:=list5 xs hxl;simp only[Prod.mk.injEq] at ex;rw[ex.1] at hw;have g0:DataW.trod enc Tryz.prog W 0 (fun _=>true) true n' 22 (([c0,c1,c2,c3,c4].drop 0).take (Tryz.prog.cellsOf 22))=some y0:=hg 0 _ rfl;have g1:DataW.trod enc Tryz.prog W 0 (fun _=>true) true n' 23 (([c0,c1,c2,c3,c4].drop 1).take (Tryz.prog.cellsOf 23))=some y1:=hg 1 _ rfl;have g2:DataW.trod enc Tryz.prog W 0 (fun _=>true) true n' 24 (([c0,c1,c2,c3,c4].drop 2).take (Tryz.prog.cellsOf 24))=some y2:=hg 2 _ rfl;have g3:DataW.trod enc Tryz.prog W 0 (fun _=>true) true n' 25 (([c0,c1,c2,c3,c4].drop 3).take (Tryz.prog.cellsOf 25))=some y3:=hg 3 _ rfl;have g4:DataW.trod enc Tryz.prog W 0 (fun _=>true) true n' 3 (([c0,c1,c2,c3,c4].drop 4).take (Tryz.prog.cellsOf 3))=some y4:=hg 4 _ rfl;rw[cellsLS] at g0;rw[cellsLC] at g1;rw[cellsLM] at g2;rw[cellsLO] at g3;rw[cellsI9] at g4;obtain⟨N,hN,hNz⟩:=strs_rd (c:=c0) (by simpa using g0) (hw.part Tryz.underlying27 (j:=0) rfl rfl);obtain⟨C,hC,hCb,hCz⟩:=classes_rd (c:=c1) (by simpa using g1) (hw.part Tryz.underlying27 (j:=1) rfl rfl);obtain⟨M,hM,hMb⟩:=methods_rd (c:=c2) (by simpa using g2) (hw.part Tryz.underlying27 (j:=2) rfl rfl);obtain⟨O,hO,hOb⟩:=objects_rd (c:=c3) (by simpa using g3) (hw.part Tryz.underlying27 (j:=3) rfl rfl);obtain⟨x,q4,_,_⟩:=DataW.trod_int Tryz.underlying3 g4;simp at q4;subst q4;exact⟨⟨N,C,M,O,x⟩,(UnV.unk (U:=⟨N,C,M,O,x⟩) ⟨hN,hC,hM,hO⟩:UnK W (.agg #[c0,c1,c2,c3,.int .i64 x]) ⟨N,C,M,O,x⟩),hCb,hMb,hOb,hNz,hCz⟩
theorem nums_raw {n:Nat} {c:Value} {y:DataW H × List MemPlace} (h:DataW.trod enc Tryz.prog W 0 (fun _=>true) true n 29 [c]=some y):∃ ad len cap,c=.slice ad len cap∧NumA W ad len:=by
 rcases DataW.trod_slice Tryz.underlying29 h with ⟨hcs,hx⟩ | ⟨a,len,cap,elems,rest,m,_,hcs,hx,hb,hl,hm,hlen,hel,_,_⟩
 ·simp at hcs;exact⟨none,0,0,hcs,fun k hk=>absurd hk (by omega)⟩
 ·simp at hcs;have hsp:0 < len→a.spot=none:=fun h0=>by
   obtain⟨z,hz⟩:∃ z,elems[0]?=some z:=⟨elems[0]'(by omega),by simp⟩
   have hk1:=hel 0 h0;rw[hz,cellsI9,Option.bind_eq_some_iff] at hk1;obtain⟨cs,hc,ht⟩:=hk1;obtain⟨_,hcl,hcc⟩:=World.cells?_some hc;obtain⟨x,e0,_,w0⟩:=DataW.trod_int Tryz.underlying3 ht;subst e0;have hs:=World.cell?_spot ((hcc 0 (by omega)).trans (show [Value.int IntKind.i64 x][0]?=some (.int .i64 x) from rfl));simpa [Addr.add] using hs
  refine⟨some a,len,cap,hcs,fun k hk=>?_⟩;obtain⟨z,hz⟩:∃ z,elems[k]?=some z:=⟨elems[k]'(by omega),by simp⟩
  have hk1:=hel k hk;rw[hz,cellsI9,Option.bind_eq_some_iff] at hk1;obtain⟨cs,hc,ht⟩:=hk1;obtain⟨_,hcl,hcc⟩:=World.cells?_some hc;obtain⟨x,e0,_,w0⟩:=DataW.trod_int Tryz.underlying3 ht;subst e0;have h0:=hcc 0 (by omega);obtain⟨b,off,spot⟩:=a;have hspot:spot=none:=hsp (by omega);subst hspot;simp only[Addr.add_lit,Nat.add_zero,Nat.mul_one] at h0;exact⟨b,off,x,rfl,bounds_i64 w0,h0⟩
theorem nums_of {base:Nat} {v:Value} {d:DataW H} {p:List MemPlace} (hv:Value.okWide Tryz.prog W .any base 29 v) (h:DataW.Trod enc Tryz.prog W 0 (fun _=>true) true 29 v d p):∃ ad len cap,v=.slice ad len cap∧NumA W ad len∧((d=.nil∧len=0)∨∃ elems spare,d=.slice elems spare∧len≤elems.length):=by
 obtain⟨a0,len,cap,rfl⟩:=okWide_slice Tryz.underlying29 hv;obtain⟨fuel,hf⟩:=h;obtain⟨ad,len',cap',e,hN⟩:=nums_raw (c:=.slice a0 len cap) (by simpa [Value.cells] using hf);cases e;refine⟨_,_,_,rfl,hN,?_⟩;rcases DataW.trod_slice Tryz.underlying29 hf with ⟨hcs,hx⟩ | ⟨a,len',cap',elems,rest,n,_,hcs,hx,hb,hl,hm,hlen,hel,_,_⟩
 ·simp[Value.cells] at hcs;obtain⟨rfl,rfl,rfl⟩:=hcs;simp only[Prod.mk.injEq] at hx;exact Or.inl ⟨hx.1,rfl⟩
 ·simp[Value.cells] at hcs;obtain⟨rfl,rfl,rfl⟩:=hcs;simp only[Prod.mk.injEq] at hx;exact Or.inr ⟨_,_,hx.1,by simp;omega⟩
end Wd
end Go.Proofs.YtgfnelhbdhbklaaGreat
namespace Go.Proofs.YtgfnelhbdhbklaaGreat
open Go.RowKit
set_option linter.unusedVariables false
set_option maxRecDepth 20000
namespace Wd
def kU:UnitA:=⟨[],[⟨⟨#[66]⟩,-1,4,[]⟩,⟨⟨#[65]⟩,-1,0,[]⟩,⟨⟨#[67]⟩,-1,1,[]⟩],[⟨0,0,[],[3,0,14,0]⟩],[⟨2,[(3,5)]⟩],0⟩
def zU:UnitA:=⟨[],[],[],[],0⟩
theorem zU_right:unitR zU=3:=by decide +kernel
theorem zU_k (w:World):UnK w (.agg #[.slice none 0 0,.slice none 0 0,.slice none 0 0,.slice none 0 0,.int .i64 0]) zU :=
 ⟨⟨none,0,none,0,none,0,none,0,rfl,⟨⟨none,0,rfl,by decide,by decide,fun k x h=>by simp[zU] at h⟩,⟨none,0,rfl,by decide,by decide,fun k x h=>by simp[zU] at h⟩,⟨none,0,rfl,by decide,by decide,fun k x h=>by simp[zU] at h⟩,⟨none,0,rfl,by decide,by decide,fun k x h=>by simp[zU] at h⟩⟩⟩⟩
theorem i64s {x:Int} (h0:-1000≤x) (h1:x≤1000):In64 x:=in64_of (by omega) (by omega)
structure KnA (w0 wr:World) (s s2 s3 s4 q:Nat):Prop where
 b:UnB wr q (.agg #[.slice none 0 0,.slice (some ⟨s,0,none⟩) 3 3,.slice (some ⟨s2,0,none⟩) 1 1,.slice (some ⟨s4,0,none⟩) 1 1,.int .i64 0]) kU none (some ⟨s,0,none⟩) (some ⟨s2,0,none⟩) (some ⟨s4,0,none⟩) 0 3 1 1
 f0:wr.cell? ⟨s4,1,none⟩=some (.slice (some ⟨s3,0,none⟩) 1 1)
 f1:wr.cell? ⟨s3,1,none⟩=some (.int .i64 5)
 bel:Below w0.heap.size w0 wr
theorem KnA.up {w0 w w1:World} {s s2 s3 s4 q:Nat} (h:KnA w0 w s s2 s3 s4 q) (b:Below w.heap.size w w1):KnA w0 w1 s s2 s3 s4 q:=⟨h.b.up b,cell_up b h.f0,cell_up b h.f1,h.bel.trans (b.mono h.bel.size)⟩
theorem KnA.box {w0 w:World} {s s2 s3 s4 q:Nat} (h:KnA w0 w s s2 s3 s4 q):w.cell? ⟨q,0,none⟩=some (.slice none 0 0)∧w.cell? ⟨q,1,none⟩=some (.slice (some ⟨s,0,none⟩) 3 3)∧w.cell? ⟨q,2,none⟩=some (.slice (some ⟨s2,0,none⟩) 1 1)∧w.cell? ⟨q,3,none⟩=some (.slice (some ⟨s4,0,none⟩) 1 1)∧w.cell? ⟨q,4,none⟩=some (.int .i64 0):=⟨h.b.c0,h.b.c1,h.b.c2,h.b.c3,h.b.c4⟩
structure KnB (w0 wr:World) (s s2 s3 s4 q Q:Nat) (na ka ma oa:Option Addr) (nc kc mc oc:Nat) (V:UnitA):Prop where
 a:KnA w0 wr s s2 s3 s4 q
 v:UnK wr (.agg #[.slice na 0 nc,.slice ka 3 kc,.slice ma 1 mc,.slice oa 1 oc,.int .i64 0]) V
 y0:wr.cell? ⟨Q,0,none⟩=some (.slice na 0 nc)
 y1:wr.cell? ⟨Q,1,none⟩=some (.slice ka 3 kc)
 y2:wr.cell? ⟨Q,2,none⟩=some (.slice ma 1 mc)
 y3:wr.cell? ⟨Q,3,none⟩=some (.slice oa 1 oc)
 y4:wr.cell? ⟨Q,4,none⟩=some (.int .i64 0)
theorem KnB.up {w0 w w1:World} {s s2 s3 s4 q Q:Nat} {na ka ma oa:Option Addr} {nc kc mc oc:Nat} {V:UnitA} (h:KnB w0 w s s2 s3 s4 q Q na ka ma oa nc kc mc oc V) (b:Below w.heap.size w w1):KnB w0 w1 s s2 s3 s4 q Q na ka ma oa nc kc mc oc V :=
 ⟨h.a.up b,h.v.up b,cell_up b h.y0,cell_up b h.y1,cell_up b h.y2,cell_up b h.y3,cell_up b h.y4⟩
theorem alloc6 (w:World) (o0 o1 o2 o3 o4 o5:Obj):((((((w.alloc o0).alloc o1).alloc o2).alloc o3).alloc o4).alloc o5).heap[w.heap.size]?=some o0∧((((((w.alloc o0).alloc o1).alloc o2).alloc o3).alloc o4).alloc o5).heap[w.heap.size+1]?=some o1∧((((((w.alloc o0).alloc o1).alloc o2).alloc o3).alloc o4).alloc o5).heap[w.heap.size+1+1]?=some o2∧((((((w.alloc o0).alloc o1).alloc o2).alloc o3).alloc o4).alloc o5).heap[w.heap.size+1+1+1]?=some o3∧((((((w.alloc o0).alloc o1).alloc o2).alloc o3).alloc o4).alloc o5).heap[w.heap.size+1+1+1+1]?=some o4∧((((((w.alloc o0).alloc o1).alloc o2).alloc o3).alloc o4).alloc o5).heap[w.heap.size+1+1+1+1+1]?=some o5∧Below w.heap.size w ((((((w.alloc o0).alloc o1).alloc o2).alloc o3).alloc o4).alloc o5):=by
 have z1:(w.alloc o0).heap.size=w.heap.size+1:=World.size_alloc _ _;have z2:((w.alloc o0).alloc o1).heap.size=w.heap.size+1+1:=by rw[World.size_alloc,z1]
 have z3:(((w.alloc o0).alloc o1).alloc o2).heap.size=w.heap.size+1+1+1:=by rw[World.size_alloc,z2]
 have z4:((((w.alloc o0).alloc o1).alloc o2).alloc o3).heap.size=w.heap.size+1+1+1+1:=by rw[World.size_alloc,z3]
 have z5:(((((w.alloc o0).alloc o1).alloc o2).alloc o3).alloc o4).heap.size=w.heap.size+1+1+1+1+1:=by rw[World.size_alloc,z4]
 refine⟨?_,?_,?_,?_,?_,?_,?_⟩
 ·rw[Below.heap_alloc _ _ _ (by omega),Below.heap_alloc _ _ _ (by omega),Below.heap_alloc _ _ _ (by omega),Below.heap_alloc _ _ _ (by omega),Below.heap_alloc _ _ _ (by omega)];exact heap_alloc_new _ _
 ·rw[Below.heap_alloc _ _ _ (by omega),Below.heap_alloc _ _ _ (by omega),Below.heap_alloc _ _ _ (by omega),Below.heap_alloc _ _ _ (by omega),← z1];exact heap_alloc_new _ _
 ·rw[Below.heap_alloc _ _ _ (by omega),Below.heap_alloc _ _ _ (by omega),Below.heap_alloc _ _ _ (by omega),← z2];exact heap_alloc_new _ _
 ·rw[Below.heap_alloc _ _ _ (by omega),Below.heap_alloc _ _ _ (by omega),← z3];exact heap_alloc_new _ _
 ·rw[Below.heap_alloc _ _ _ (by omega),← z4];exact heap_alloc_new _ _
 ·rw[← z5];exact heap_alloc_new _ _
 ·exact (((((Below.refl _ _).alloc (Nat.le_refl _) _).alloc (by omega) _).alloc (by omega) _).alloc (by omega) _).alloc (by omega) _ |>.alloc (by omega) _
structure RdK:Prop where
 read:∀ {w:World} {bv:Value} {b:List Int},ByV w bv b→Calls Tryz.prog 29 #[bv] w fun e w'=>RdA w' b e∧Below w.heap.size w w'
theorem rdA_any {w1:World} {b:List Int} {e1:Ending} (h1:RdA w1 b e1):∃ (U:UnitA) (na ka ma oa:Option Addr) (nc kc mc oc:Nat) (m:Int),e1=.returned (.tuple #[.agg #[.slice na U.names.length nc,.slice ka U.classes.length kc,.slice ma U.methods.length mc,.slice oa U.objects.length oc,.int .i64 U.main],.int .i64 m])∧UnK w1 (.agg #[.slice na U.names.length nc,.slice ka U.classes.length kc,.slice ma U.methods.length mc,.slice oa U.objects.length oc,.int .i64 U.main]) U∧(∀ w2 e2,RdA w2 b e2→∃ (pa qa ra sa:Option Addr) (pc qc rc sc:Nat),e2=.returned (.tuple #[.agg #[.slice pa U.names.length pc,.slice qa U.classes.length qc,.slice ra U.methods.length rc,.slice sa U.objects.length sc,.int .i64 U.main],.int .i64 m])∧UnK w2 (.agg #[.slice pa U.names.length pc,.slice qa U.classes.length qc,.slice ra U.methods.length rc,.slice sa U.objects.length sc,.int .i64 U.main]) U):=by
 rcases h1 with ⟨U,v,g,rfl,k⟩ | ⟨n,rfl⟩
 ·obtain⟨na,nc,ca,cc,ma,mc,oa,oc,rfl,_⟩:=k.ex;refine⟨U,na,ca,ma,oa,nc,cc,mc,oc,0,rfl,k,fun w2 e2 h2=>?_⟩;rcases h2 with ⟨V,v2,g2,rfl,k2⟩ | ⟨n,_⟩
  ·obtain rfl:=good_one g g2;obtain⟨pa,pc,qa,qc,ra,rc,sa,sc,rfl,_⟩:=k2.ex;exact⟨pa,qa,ra,sa,pc,qc,rc,sc,rfl,k2⟩
  ·exact absurd g (n U)
 ·refine⟨zU,none,none,none,none,0,0,0,0,errB b,rfl,zU_k _,fun w2 e2 h2=>?_⟩;rcases h2 with ⟨V,v2,g2,_,_⟩ | ⟨_,rfl⟩
  ·exact absurd g2 (n V)
  ·exact⟨none,none,none,none,0,0,0,0,rfl,zU_k _⟩
set_option maxHeartbeats 16000000 in
theorem reads_c (K:RdK) {w:World} {bv:Value} {b:List Int} (hb:ByV w bv b) (hf:SlF bv) :
  Calls Tryz.prog 13 #[bv] w fun e w'=>e=.returned (.bool true)∧Below w.heap.size w w':=by
 have P1:=HD (iread_c hb hf);replace hb:=HD hb;clear hf;go_enter Tryz.func13,Tryz.ntmps13
 go_wp2_with fail
 with_reducible refine P1.out.mono ?_
 rintro e1 w1 ⟨h1,hb1⟩;obtain⟨U,na,ka,ma,oa,nc,kc,mc,oc,m,rfl,hk,h2⟩:=rdA_any h1;have hB:=HD (UnB.born hk);have hbx:=(Below.refl w1.heap.size w1).alloc (Nat.le_refl _) (.cells #[.slice na U.names.length nc,.slice ka U.classes.length kc,.slice ma U.methods.length mc,.slice oa U.objects.length oc,.int .i64 U.main] 27);have hbW:=hb1.trans (hbx.mono hb1.size);have P2:=HD (K.read (hb.out.up hbW));replace h2:=HD h2;clear P1 h1 hk hbx hb hb1
 go_upto_region 2 with fail
 obtain⟨Q1,hQ1⟩:∃ Q,w1.heap.size=Q:=⟨_,rfl⟩
 generalize w1.alloc (.cells #[.slice na U.names.length nc,.slice ka U.classes.length kc,.slice ma U.methods.length mc,.slice oa U.objects.length oc,.int .i64 U.main] 27)=W1 at *
 try simp only[hQ1]
 rw[hQ1] at hB;clear hQ1
 go_wp2_with fail
 with_reducible refine P2.out.mono ?_
 rintro e2 w2 ⟨h3,hb2⟩;obtain⟨pa,qa,ra,sa,pc,qc,rc,sc,rfl,hk2⟩:=h2.out _ _ h3;have hB2:=HD (UnB.born hk2);have hbx:=(Below.refl w2.heap.size w2).alloc (Nat.le_refl _) (.cells #[.slice pa U.names.length pc,.slice qa U.classes.length qc,.slice ra U.methods.length rc,.slice sa U.objects.length sc,.int .i64 U.main] 27);replace hB:=HD (hB.out.up (hb2.trans (hbx.mono hb2.size)));replace hbW:=hbW.trans ((hb2.trans (hbx.mono hb2.size)).mono hbW.size);clear P2 h3 hk2 hbx h2 hb2
 go_upto_region 3 with fail
 obtain⟨Q2,hQ2⟩:∃ Q,w2.heap.size=Q:=⟨_,rfl⟩
 generalize w2.alloc (.cells #[.slice pa U.names.length pc,.slice qa U.classes.length qc,.slice ra U.methods.length rc,.slice sa U.objects.length sc,.int .i64 U.main] 27)=W2 at *
 try simp only[hQ2]
 rw[hQ2] at hB2;clear hQ2;have a0:=hB.out.c0;have a1:=hB.out.c1;have a2:=hB.out.c2;have a3:=hB.out.c3;have a4:=hB.out.c4;have b0:=hB2.out.c0;have b1:=hB2.out.c1;have b2:=hB2.out.c2;have b3:=hB2.out.c3;have b4:=hB2.out.c4;have P3:=rsame_c hB.out.un hB2.out.un;rw[sameU_self] at P3;replace P3:=HD P3
 go_wp2_with (first | (go_at_call 19;((with_reducible refine P3.out.mono ?_);rintro e1 w3 ⟨rfl,hb3⟩)))
 go_ret;exact⟨rfl,hbW.trans (hb3.mono hbW.size)⟩
theorem slF_some (g off n cap:Nat):SlF (.slice (some ⟨g,off,none⟩) n cap):=Or.inr ⟨_,_,_,_,rfl⟩
theorem RB.byv2 {w:World} {base:Nat} {v:Value} {T:List Int} (h:RB w base 5 v (bys T)) (hb:Bd8 T):ByV w v T:=by
 obtain⟨g,cap,cur,fr,rfl,_,hg,_,hc,hm,_,_⟩:=h.ex;have hl:=bys_ln T;refine⟨some ⟨g,0,none⟩,cap,by rw[hl],by rw[← hl];exact hc,hm,fun k x hx=>⟨hb x (List.mem_of_getElem? hx),g,0,rfl,?_⟩⟩;have:=h.cells k (.int .u8 x) (by unfold bys;rw[List.getElem?_map,hx];rfl);rw[Addr.add_lit] at this;simpa using this
theorem RB.form {w:World} {base:Nat} {v:Value} {T:List Int} (h:RB w base 5 v (bys T)):∃ g cap,v=.slice (some ⟨g,0,none⟩) T.length cap∧T.length≤cap∧cap≤maxLen:=by
 obtain⟨g,cap,cur,fr,rfl,_,_,_,hc,hm,_,_⟩:=h.ex;have hl:=bys_ln T;exact⟨g,cap,by rw[hl],by omega,hm⟩
theorem bytes_bdK {w:World} {v:Value} {U:UnitA} (h:UnK w v U):Bd8 (bytesU U):=by
 have hc:∀ m∈U.methods,Bd8 m.code:=fun m hm=>by
  obtain⟨na,nc,ca,cc,ma,mc,oa,oc,_,hU⟩:=h.ex;obtain⟨k,hk⟩:=List.getElem?_of_mem hm;obtain⟨ad,cap,_,_,_,h3⟩:=hU.m.ex;obtain⟨_,_,_,_,_,_,_,_,_,_,_,_,q⟩:=h3 k m hk;intro x hx;obtain⟨i,hi⟩:=List.getElem?_of_mem hx;obtain⟨ad',cap',e,_,_,h4⟩:=q.ex;exact (h4 i x hi).1
 have app:∀ {A B:List Int},Bd8 A→Bd8 B→Bd8 (A++B):=fun h g x hx=>(List.mem_append.1 hx).elim (h x) (g x);have flat:∀ {T:Type} {f:T→List Int} (L:List T),(∀ x∈L,Bd8 (f x))→Bd8 ((L.map f).flatten):=fun L h x hx=>by
  obtain⟨l,hl,hxl⟩:=List.mem_flatten.1 hx;obtain⟨y,hy,rfl⟩:=List.mem_map.1 hl;exact h y hy x hxl
 have row:∀ {T:Type} {f:T→List Int} (L:List T),(∀ x∈L,Bd8 (f x))→Bd8 (rowB f L):=fun L h=>app (b4_bd _) (flat L h);have tx:∀ s,Bd8 (txt s):=fun s=>app (b4_bd _) (tby_bd _);have rp:∀ L,Bd8 (rowP L):=fun L=>by rw[rowP_eq];exact row L (fun x _=>app (b4_bd _) (b4_bd _))
 unfold bytesU bodyU;refine app ?_ (app (app (app (app (row _ (fun s _=>tx s)) (row _ (fun c _=>app (app (app (tx _) (b4_bd _)) (b4_bd _)) (rp _)))) (row _ (fun m hm=>app (app (app (b4_bd _) (b4_bd _)) (rp _)) (app (b4_bd _) (hc m hm))))) (row _ (fun o _=>app (b4_bd _) (rp _)))) (b4_bd _));intro x hx;simp only[List.mem_cons,List.not_mem_nil,or_false] at hx;omega
set_option maxHeartbeats 32000000 in
theorem isame_c (K:RdK) {w:World} {u:Value} {U:UnitA} (hu:UnK w u U) :
  Calls Tryz.prog 10 #[u] w fun e w'=>e=.returned (.bool true)∧Below w.heap.size w w':=by
 have hbd:=HD (bytes_bdK hu);obtain⟨na,nc,ca,cc,ma,mc,oa,oc,l1,l2,l3,l4,rfl,hS,j1,j2,j3,j4⟩:=hu.v1;clear hu;have PB:=HD (fun (w':World) (h:UnK w' (.agg #[.slice na l1 nc,.slice ca l2 cc,.slice ma l3 mc,.slice oa l4 oc,.int .i64 U.main]) U)=>ibytes_c h);have PU:=HD (fun (w':World) (h:UnK w' (.agg #[.slice na l1 nc,.slice ca l2 cc,.slice ma l3 mc,.slice oa l4 oc,.int .i64 U.main]) U)=>runit_c h);have PS:=HD (fun (w':World) (h:UnK w' (.agg #[.slice na l1 nc,.slice ca l2 cc,.slice ma l3 mc,.slice oa l4 oc,.int .i64 U.main]) U)=>isize_c h);have PW:=HD (fun (w':World) (h:UnK w' (.agg #[.slice na l1 nc,.slice ca l2 cc,.slice ma l3 mc,.slice oa l4 oc,.int .i64 U.main]) U) (hz:(bytesU U).length≤500000)=>wbytes_c h hz);replace hS:=HD hS;go_enter Tryz.func10,Tryz.ntmps10
 go_upto_region 1 with fail
 generalize w.alloc (.cells #[.slice na l1 nc,.slice ca l2 cc,.slice ma l3 mc,.slice oa l4 oc,.int .i64 U.main] 27)=W at *;obtain⟨a0,a1,a2,a3,a4⟩:=hS.out.cells
 go_wp2_with fail
 with_reducible refine (PB.out _ hS.out.unk).mono ?_
 rintro e1 w2 ⟨h1,h2,hb2⟩;replace hS:=HD (hS.out.up hb2);clear hb2 a0 a1 a2 a3 a4 PB;obtain⟨a0,a1,a2,a3,a4⟩:=hS.out.cells;by_cases hr:unitR U=0
 ·obtain⟨v',rfl,hrb⟩:=h1 hr;obtain⟨g,cap,rfl,hc1,hc2⟩:=hrb.form;have hby:=HD (hrb.byv2 hbd.out);have hz8:(bytesU U).length≤500000:=Nat.le_trans (bytes_le (right_u hr)) (by decide);have es:=HD (szU_y hr);have PS0:=HD (fun w' h=>by have:=PS.out w' h;rw[es.out] at this;exact this);have PU0:=HD (fun w' h=>by have:=PU.out w' h;rw[hr] at this;exact this);clear h1 h2 hr hrb PS PU
  go_upto_region 3 with (first | (go_at_call 25;((with_reducible refine (PU0.out _ hS.out.unk).mono ?_);rintro e1 w3 ⟨rfl,hb3⟩)))
  replace hS:=HD (hS.out.up hb3);replace hby:=HD (hby.out.up hb3);clear hb3 a0 a1 a2 a3 a4 PU0;obtain⟨n,hn⟩:∃ n,n=(bytesU U).length:=⟨_,rfl⟩
  rw[← hn] at hby hc1;have PS1:=HD (fun w' h=>by have:=PS0.out w' h;rw[← hn] at this;exact this);simp only[← hn];replace hn:=HD hn;clear PS0
  go_upto_region 7 with fail
  have et:((textOf (bytesU U)).toList == (textOf (bytesU U)).toList)=true:=bl_eq rfl;replace hS:=HD hS.out.drew;replace hby:=HD (hby.out.up (Below.refl _ _).drew);refine wp_region_held_drew (S:=(fun y=>y.cell? ⟨w.heap.size,0,none⟩=some (.slice na l1 nc)∧y.cell? ⟨w.heap.size,1,none⟩=some (.slice ca l2 cc)∧y.cell? ⟨w.heap.size,2,none⟩=some (.slice ma l3 mc)∧y.cell? ⟨w.heap.size,3,none⟩=some (.slice oa l4 oc)∧y.cell? ⟨w.heap.size,4,none⟩=some (.int .i64 U.main)∧ByV y (.slice (some ⟨g,0,none⟩) n cap) (bytesU U))) (by kernel_rfl) ?_ (fun hHeld=>?_)
  ·(try dsimp only);exact⟨hS.out.cells.1,hS.out.cells.2.1,hS.out.cells.2.2.1,hS.out.cells.2.2.2.1,hS.out.cells.2.2.2.2,hby.out⟩
  try simp only[nA]
  generalize w3.drew=y0 at *;refine tk (i:=0) (oi:=⟨some 26,.move (.tmp 3),36,"law.go:99",#[],none⟩) (hy:=by intro w hSw;(try dsimp only at hSw);obtain⟨s0,s1,s2,s3,s4,s5⟩:=hSw;go_simp <;> with_reducible rfl) ?_
  try simp only[nA]
  refine tk (i:=2) (oi:=⟨some 28,.load 27 (.tmp 1),27,"law.go:99",#[],none⟩) (hy:=by intro w hSw;(try dsimp only at hSw);obtain⟨s0,s1,s2,s3,s4,s5⟩:=hSw;go_simp <;> with_reducible rfl) ?_
  try simp only[nA]
  refine tk (i:=1) (oi:=⟨some 27,.convert 36 9 (.tmp 26),9,"law.go:99",#[⟨0,.data⟩],none⟩) (hy:=by intro w hSw;(try dsimp only at hSw);obtain⟨s0,s1,s2,s3,s4,s5⟩:=hSw;have s8:=by_text s5;go_simp <;> with_reducible rfl) ?_
  try simp only[nA]
  refine wpAnyH_ready (rs:=[3]) (by kernel_rfl) (by simp) ?_;refine AllReadyH.cons (o:=⟨some 29,.call { callee:=.value (.func 12),args:=#[.tmp 28],argTypes:=#[27] },36,"law.go:99",#[⟨2,.data⟩],none⟩) rfl (fun K9 hK=>?_) AllReadyH.nil;go_simp
  with_reducible refine (PW.out _ hS.out.unk hz8).mono ?_
  rintro e y1 ⟨v8,rfl,hrb8,hb8⟩;have PT:=by_text (hrb8.byv2 hbd.out);replace hS:=HD (hS.out.up hb8);replace hby:=HD (hby.out.up hb8);clear PW hb8 hrb8
  go_wp2_with fail
  refine hK.out _ _ ?_ ?_
  ·(try dsimp only);exact⟨hS.out.cells.1,hS.out.cells.2.1,hS.out.cells.2.2.1,hS.out.cells.2.2.2.1,hS.out.cells.2.2.2.2,hby.out⟩
  clear hK K9 hHeld;intro hHeld
  try simp only[nA]
  refine wpAnyH_ready (rs:=[4]) (by kernel_rfl) (by simp) ?_;refine AllReadyH.cons (o:=⟨some 30,.convert 36 9 (.tmp 29),9,"law.go:99",#[⟨3,.data⟩],none⟩) rfl (fun K9 hK=>?_) AllReadyH.nil;go_simp;refine hK.out _ _ ?_ ?_
  ·(try dsimp only);exact⟨hS.out.cells.1,hS.out.cells.2.1,hS.out.cells.2.2.1,hS.out.cells.2.2.2.1,hS.out.cells.2.2.2.2,hby.out⟩
  clear hK K9 hHeld;intro hHeld
  try simp only[nA]
  refine tk (i:=5) (oi:=⟨some 31,.binOp .eql 9 (.tmp 27) (.tmp 30) 9,4,"law.go:99",#[⟨1,.data⟩,⟨4,.data⟩],none⟩) (hy:=by intro w hSw;(try dsimp only at hSw);obtain⟨s0,s1,s2,s3,s4,s5⟩:=hSw;go_simp <;> with_reducible rfl) ?_
  try simp only[nA]
  refine tk (i:=6) (oi:=⟨some 32,.move (.tmp 31),4,"law.go:99",#[⟨5,.data⟩,⟨3,.chain⟩],none⟩) (hy:=by intro w hSw;(try dsimp only at hSw);obtain⟨s0,s1,s2,s3,s4,s5⟩:=hSw;go_simp <;> with_reducible rfl) ?_
  try simp only[nA]
  refine tk (i:=7) (oi:=⟨some 33,.load 27 (.tmp 1),27,"law.go:99",#[⟨6,.guard⟩],some (6,true)⟩) (hy:=by intro w hSw;(try dsimp only at hSw);obtain⟨s0,s1,s2,s3,s4,s5⟩:=hSw;go_simp <;> with_reducible rfl) ?_
  try simp only[nA]
  refine tk (i:=9) (oi:=⟨some 35,.move (.tmp 3),36,"law.go:99",#[⟨6,.guard⟩],some (6,true)⟩) (hy:=by intro w hSw;(try dsimp only at hSw);obtain⟨s0,s1,s2,s3,s4,s5⟩:=hSw;go_simp <;> with_reducible rfl) ?_
  try simp only[nA]
  refine tk (i:=10) (oi:=⟨some 36,.call { callee:=.builtin .len,args:=#[.tmp 35],argTypes:=#[36] },3,"law.go:99",#[⟨9,.data⟩,⟨6,.guard⟩],some (6,true)⟩) (hy:=by intro w hSw;(try dsimp only at hSw);obtain⟨s0,s1,s2,s3,s4,s5⟩:=hSw;go_simp <;> with_reducible rfl) ?_
  try simp only[nA]
  refine wpAnyH_ready (rs:=[8]) (by kernel_rfl) (by simp) ?_;refine AllReadyH.cons (o:=⟨some 34,.call { callee:=.value (.func 20),args:=#[.tmp 33],argTypes:=#[27] },3,"law.go:99",#[⟨7,.data⟩,⟨6,.chain⟩,⟨6,.guard⟩],some (6,true)⟩) rfl (fun K9 hK=>?_) AllReadyH.nil;go_simp
  with_reducible refine (PS1.out _ hS.out.unk).mono ?_
  rintro e y2 ⟨rfl,hb9⟩;replace hS:=HD (hS.out.up hb9);replace hby:=HD (hby.out.up hb9);clear PS1 hb9
  go_wp2_with fail
  refine hK.out _ _ ?_ ?_
  ·(try dsimp only);exact⟨hS.out.cells.1,hS.out.cells.2.1,hS.out.cells.2.2.1,hS.out.cells.2.2.2.1,hS.out.cells.2.2.2.2,hby.out⟩
  clear hK K9 hHeld;intro hHeld
  try simp only[nA]
  refine tk (i:=11) (oi:=⟨some 37,.binOp .eql 3 (.tmp 34) (.tmp 36) 3,4,"law.go:99",#[⟨8,.data⟩,⟨10,.data⟩,⟨6,.guard⟩],some (6,true)⟩) (hy:=by intro w hSw;(try dsimp only at hSw);obtain⟨s0,s1,s2,s3,s4,s5⟩:=hSw;go_simp <;> with_reducible rfl) ?_
  try simp only[nA]
  refine tk (i:=12) (oi:=⟨some 38,.pick (.tmp 32) (.tmp 37) (.const (.bool false)),4,"law.go:99",#[⟨6,.data⟩,⟨11,.data⟩],none⟩) (hy:=by intro w hSw;(try dsimp only at hSw);obtain⟨s0,s1,s2,s3,s4,s5⟩:=hSw;go_simp <;> with_reducible rfl) ?_
  try simp only[nA]
  refine tk (i:=13) (oi:=⟨some 39,.move (.tmp 38),4,"law.go:99",#[⟨12,.data⟩,⟨8,.chain⟩],none⟩) (hy:=by intro w hSw;(try dsimp only at hSw);obtain⟨s0,s1,s2,s3,s4,s5⟩:=hSw;go_simp <;> with_reducible rfl) ?_
  try simp only[nA]
  refine tk (i:=14) (oi:=⟨some 40,.move (.tmp 3),36,"law.go:99",#[⟨13,.guard⟩],some (13,true)⟩) (hy:=by intro w hSw;(try dsimp only at hSw);obtain⟨s0,s1,s2,s3,s4,s5⟩:=hSw;go_simp <;> with_reducible rfl) ?_
  try simp only[nA]
  refine wpAnyH_ready (rs:=[15]) (by kernel_rfl) (by simp) ?_;refine AllReadyH.cons (o:=⟨some 41,.call { callee:=.value (.func 13),args:=#[.tmp 40],argTypes:=#[36] },4,"law.go:99",#[⟨14,.data⟩,⟨13,.chain⟩,⟨13,.guard⟩],some (13,true)⟩) rfl (fun K9 hK=>?_) AllReadyH.nil;go_simp
  with_reducible refine (reads_c K hby.out (slF_some ..)).mono ?_
  rintro e y3 ⟨rfl,hb10⟩;replace hS:=HD (hS.out.up hb10);replace hby:=HD (hby.out.up hb10);clear hb10
  go_wp2_with fail
  refine hK.out _ _ ?_ ?_
  ·(try dsimp only);exact⟨hS.out.cells.1,hS.out.cells.2.1,hS.out.cells.2.2.1,hS.out.cells.2.2.2.1,hS.out.cells.2.2.2.2,hby.out⟩
  clear hK K9 hHeld;intro hHeld
  try simp only[nA]
  refine tk (i:=16) (oi:=⟨some 42,.pick (.tmp 39) (.tmp 41) (.const (.bool false)),4,"law.go:99",#[⟨13,.data⟩,⟨15,.data⟩],none⟩) (hy:=by intro w hSw;(try dsimp only at hSw);obtain⟨s0,s1,s2,s3,s4,s5⟩:=hSw;go_simp <;> with_reducible rfl) ?_
  try simp only[nA]
  refine tk (i:=17) (oi:=⟨some 2,.assign (.tmp 42),4,"law.go:99",#[⟨16,.data⟩,⟨15,.chain⟩,⟨0,.phase⟩,⟨1,.phase⟩,⟨2,.phase⟩,⟨3,.phase⟩,⟨4,.phase⟩,⟨5,.phase⟩,⟨6,.phase⟩,⟨7,.phase⟩,⟨8,.phase⟩,⟨9,.phase⟩,⟨10,.phase⟩,⟨11,.phase⟩,⟨12,.phase⟩,⟨13,.phase⟩,⟨14,.phase⟩,⟨15,.phase⟩,⟨16,.phase⟩],none⟩) (hy:=by intro w hSw;(try dsimp only at hSw);obtain⟨s0,s1,s2,s3,s4,s5⟩:=hSw;go_simp <;> with_reducible rfl) ?_
  try simp only[nA]
  refine wpAnyH_done (by kernel_rfl) ?_ _
  go_wp2
  go_ret;exact⟨rfl,hS.out.bel⟩
 ·obtain rfl:=h2 hr;have es:=HD (szU_n hr);have PS0:=HD (fun w' h=>by have:=PS.out w' h;rw[es.out] at this;exact this);have hr0:(unitR U != 0)=true:=by simpa using hr
  clear h1 h2 hr PS PW
  go_upto_region 3 with (first | (go_at_call 25;((with_reducible refine (PU.out _ hS.out.unk).mono ?_);rintro e1 w3 ⟨rfl,hb3⟩)))
  replace hS:=HD (hS.out.up hb3);clear hb3 a0 a1 a2 a3 a4 PU;obtain⟨a0,a1,a2,a3,a4⟩:=hS.out.cells
  go_wp2_with (first | (go_at_call 20;((with_reducible refine (PS0.out _ hS.out.unk).mono ?_);rintro e1 w4 ⟨rfl,hb4⟩)))
  go_ret;exact⟨rfl,(hS.out.up hb4).bel⟩
def kV:UnitA:=⟨[],[⟨⟨#[66]⟩,-1,4,[]⟩,⟨⟨#[65]⟩,-1,0,[]⟩],[⟨0,0,[],[3,0,14,0]⟩],[⟨1,[]⟩],0⟩
theorem kV_right:unitR kV=0:=by decide +kernel
theorem kV_len:4 < (bytesU kV).length:=by decide +kernel
theorem kV_four:(bytesU kV).take 4=[84,87,49,0]:=by decide +kernel
theorem kV_born {w:World} {s s1 s2 s3:Nat} (h0:w.heap[s]?=some (.cells #[.string ⟨#[66]⟩,.int .i64 (-1),.int .i64 4,.slice none 0 0,.string ⟨#[65]⟩,.int .i64 (-1),.int .i64 0,.slice none 0 0] 60 (0,0))) (h1:w.heap[s1]?=some (.cells #[.int .u8 3,.int .u8 0,.int .u8 14,.int .u8 0] 5 (0,0))) (h2:w.heap[s2]?=some (.cells #[.int .i64 0,.int .i64 0,.slice none 0 0,.slice (some ⟨s1,0,none⟩) 4 4] 63 (0,0))) (h3:w.heap[s3]?=some (.cells #[.int .i64 1,.slice none 0 0] 55 (0,0))):UnK w (.agg #[.slice none 0 0,.slice (some ⟨s,0,none⟩) 2 2,.slice (some ⟨s2,0,none⟩) 1 1,.slice (some ⟨s3,0,none⟩) 1 1,.int .i64 0]) kV:=by
 have hb:ByV w (.slice (some ⟨s1,0,none⟩) 4 4) [3,0,14,0]:=by
  refine⟨_,4,rfl,by simp,by decide,fun k x hx=>?_⟩;have hk:k < 4:=by have:=(List.getElem?_eq_some_iff.1 hx).1;simpa using this
  rcases (show k=0∨k=1∨k=2∨k=3 by omega) with rfl | rfl | rfl | rfl <;> (simp at hx;subst hx;exact⟨by omega,_,0,rfl,cell_in h1 rfl⟩)
 have hn:∀ u:World,PrV u (.slice none 0 0) []:=fun u=>⟨none,0,rfl,by simp,by decide,fun k x hx=>by simp at hx⟩
 refine⟨⟨none,0,some ⟨s,0,none⟩,2,some ⟨s2,0,none⟩,1,some ⟨s3,0,none⟩,1,rfl,?_⟩⟩;refine⟨⟨none,0,rfl,by decide,by decide,fun k x h=>by simp[kV] at h⟩,⟨_,2,rfl,by decide,by decide,fun k x hx=>?_⟩,⟨_,1,rfl,by decide,by decide,fun k x hx=>?_⟩,⟨_,1,rfl,by decide,by decide,fun k x hx=>?_⟩⟩
 ·have hk:k < 2:=by have:=(List.getElem?_eq_some_iff.1 hx).1;simpa [kV] using this
  rcases (show k=0∨k=1 by omega) with rfl | rfl <;> (simp[kV] at hx;subst hx;exact⟨i64s (by simp) (by simp),i64s (by simp) (by simp),_,0,_,rfl,cell_in h0 rfl,cell_in h0 rfl,cell_in h0 rfl,cell_in h0 rfl,hn _⟩)
 ·have hk:k < 1:=by have:=(List.getElem?_eq_some_iff.1 hx).1;simpa [kV] using this
  obtain rfl:k=0:=by omega
  simp[kV] at hx;subst hx;exact⟨i64s (by simp) (by simp),i64s (by simp) (by simp),_,0,_,_,rfl,cell_in h2 rfl,cell_in h2 rfl,cell_in h2 rfl,cell_in h2 rfl,hn _,hb⟩
 ·have hk:k < 1:=by have:=(List.getElem?_eq_some_iff.1 hx).1;simpa [kV] using this
  obtain rfl:k=0:=by omega
  simp[kV] at hx;subst hx;exact⟨i64s (by simp) (by simp),_,0,_,rfl,cell_in h3 rfl,cell_in h3 rfl,hn _⟩
theorem alloc5 (w:World) (o0 o1 o2 o3 o4:Obj):(((((w.alloc o0).alloc o1).alloc o2).alloc o3).alloc o4).heap[w.heap.size]?=some o0∧(((((w.alloc o0).alloc o1).alloc o2).alloc o3).alloc o4).heap[w.heap.size+1]?=some o1∧(((((w.alloc o0).alloc o1).alloc o2).alloc o3).alloc o4).heap[w.heap.size+1+1]?=some o2∧(((((w.alloc o0).alloc o1).alloc o2).alloc o3).alloc o4).heap[w.heap.size+1+1+1]?=some o3∧(((((w.alloc o0).alloc o1).alloc o2).alloc o3).alloc o4).heap[w.heap.size+1+1+1+1]?=some o4∧Below w.heap.size w (((((w.alloc o0).alloc o1).alloc o2).alloc o3).alloc o4):=by
 obtain⟨e0,e1,e2,e3,e4,_,hb⟩:=alloc6 w o0 o1 o2 o3 o4 o4;have b5:=(Below.refl (((((w.alloc o0).alloc o1).alloc o2).alloc o3).alloc o4).heap.size (((((w.alloc o0).alloc o1).alloc o2).alloc o3).alloc o4)).alloc (Nat.le_refl _) o4;have hz:(((((w.alloc o0).alloc o1).alloc o2).alloc o3).alloc o4).heap.size=w.heap.size+1+1+1+1+1:=by simp
 refine⟨(b5.block _ (by omega)).symm.trans e0,(b5.block _ (by omega)).symm.trans e1,(b5.block _ (by omega)).symm.trans e2,(b5.block _ (by omega)).symm.trans e3,(b5.block _ (by omega)).symm.trans e4,?_⟩;exact ((((Below.refl _ _).alloc (Nat.le_refl _) _).alloc (by simp only[World.size_alloc];omega) _).alloc (by simp only[World.size_alloc];omega) _).alloc (by simp only[World.size_alloc];omega) _ |>.alloc (by simp only[World.size_alloc];omega) _
theorem rdA_good {w:World} {b:List Int} {e:Ending} {U:UnitA} (h:RdA w b e) (g:Good b U):∃ na nc ka kc ma mc oa oc,e=.returned (.tuple #[.agg #[.slice na U.names.length nc,.slice ka U.classes.length kc,.slice ma U.methods.length mc,.slice oa U.objects.length oc,.int .i64 U.main],.int .i64 0])∧UnK w (.agg #[.slice na U.names.length nc,.slice ka U.classes.length kc,.slice ma U.methods.length mc,.slice oa U.objects.length oc,.int .i64 U.main]) U:=by
 rcases h with ⟨V,v,g2,rfl,k⟩ | ⟨n,_⟩
 ·obtain rfl:=good_one g g2;obtain⟨na,nc,ca,cc,ma,mc,oa,oc,rfl,_⟩:=k.ex;exact⟨na,nc,ca,cc,ma,mc,oa,oc,rfl,k⟩
 ·exact absurd g (n U)
theorem rdA_none {w:World} {b:List Int} {e:Ending} (h:RdA w b e) (n:∀ U,¬ Good b U):e=.returned (.tuple #[zUv,.int .i64 (errB b)]):=by
 rcases h with ⟨V,v,g2,_,_⟩ | ⟨_,e⟩
 ·exact absurd g2 (n V)
 ·exact e
theorem bs_nil:∀ U,¬ Good [] U:=fun U h=>by
 have h2:=h.2;unfold bytesU at h2;cases h2
theorem z65_no:∀ U,¬ Good (List.replicate 65537 0) U:=fun U h=>by
 have:=good_le h;rw[List.length_replicate] at this;omega
theorem z65_err:errB (List.replicate 65537 0)=3:=errB_long (by rw[List.length_replicate];omega)
theorem made_byv {w:World} {n:Nat} (hn:n≤maxLen):ByV (w.alloc (.cells (madeCells (.int .u8 0:Value).cells (n*1)) 5)) (.slice (some ⟨w.heap.size,0,none⟩) n n) (List.replicate n 0):=by
 refine⟨some ⟨w.heap.size,0,none⟩,n,by rw[List.length_replicate],by rw[List.length_replicate];exact Nat.le_refl _,hn,fun k x hx=>?_⟩;have hk:k < n:=by have:=(List.getElem?_eq_some_iff.1 hx).1;rwa [List.length_replicate] at this
 rw[List.getElem?_replicate,if_pos hk] at hx;obtain rfl:=Option.some.inj hx;refine⟨by omega,w.heap.size,0,rfl,?_⟩;rw[Nat.zero_add];refine (World.cell?_alloc_new _ _ _ k).trans ?_;unfold madeCells;simp[Value.cells,hk,Nat.mod_one]
theorem run_mk65 (w:World):(Instr.makeSlice 36 (.int .i64 65537) (.int .i64 65537)).run Tryz.prog w=.ok (.slice (some ⟨w.heap.size,0,none⟩) 65537 65537) (w.alloc (.cells (madeCells (.int .u8 0:Value).cells (65537*1)) 5)):=by
 obtain⟨i0,hi0,hz0,hz1,hz2⟩:=info_parts infoB8;have h:=run_makeSlice (P:=Tryz.prog) w 36 5 i0 (.int .u8 0) Tryz.underlying36 hi0 hz0 .i64 .i64 65537 65537 (by omega) (by omega) (by rw[hz1];decide) (by rw[hz2];decide) (by decide);rw[hz1] at h;exact h
theorem mk65 (w:World):∃ w' b,(Instr.makeSlice 36 (.int .i64 65537) (.int .i64 65537)).run Tryz.prog w=.ok (.slice (some ⟨w.heap.size,0,none⟩) 65537 65537) w'∧ByV w' (.slice (some ⟨w.heap.size,0,none⟩) 65537 65537) b∧Below w.heap.size w w'∧(∀ U,¬ Good b U)∧errB b=3 :=
 ⟨_,_,run_mk65 w,made_byv (by decide),(Below.refl w.heap.size w).alloc (Nat.le_refl _) _,z65_no,z65_err⟩
abbrev KnV (w:World) (s s2 s3 q:Nat):Prop:=UnB w q (.agg #[.slice none 0 0,.slice (some ⟨s,0,none⟩) 2 2,.slice (some ⟨s2,0,none⟩) 1 1,.slice (some ⟨s3,0,none⟩) 1 1,.int .i64 0]) kV none (some ⟨s,0,none⟩) (some ⟨s2,0,none⟩) (some ⟨s3,0,none⟩) 0 2 1 1
set_option maxHeartbeats 32000000 in
theorem iknown_c (w:World):Calls Tryz.prog 14 #[] w fun e w'=>e=.returned (.bool true)∧Below w.heap.size w w':=by
 obtain⟨e0,e1,e2,e3,e4,hb⟩:=alloc5 w (.cells #[.string ⟨#[66]⟩,.int .i64 (-1),.int .i64 4,.slice none 0 0,.string ⟨#[65]⟩,.int .i64 (-1),.int .i64 0,.slice none 0 0] 60) (.cells #[.int .u8 3,.int .u8 0,.int .u8 14,.int .u8 0] 5) (.cells #[.int .i64 0,.int .i64 0,.slice none 0 0,.slice (some ⟨w.heap.size+1,0,none⟩) 4 4] 63) (.cells #[.int .i64 1,.slice none 0 0] 55) (.cells #[.slice none 0 0,.slice (some ⟨w.heap.size,0,none⟩) 2 2,.slice (some ⟨w.heap.size+1+1,0,none⟩) 1 1,.slice (some ⟨w.heap.size+1+1+1,0,none⟩) 1 1,.int .i64 0] 27);have hA:KnV (((((w.alloc (.cells #[.string ⟨#[66]⟩,.int .i64 (-1),.int .i64 4,.slice none 0 0,.string ⟨#[65]⟩,.int .i64 (-1),.int .i64 0,.slice none 0 0] 60)).alloc (.cells #[.int .u8 3,.int .u8 0,.int .u8 14,.int .u8 0] 5)).alloc (.cells #[.int .i64 0,.int .i64 0,.slice none 0 0,.slice (some ⟨w.heap.size+1,0,none⟩) 4 4] 63)).alloc (.cells #[.int .i64 1,.slice none 0 0] 55)).alloc (.cells #[.slice none 0 0,.slice (some ⟨w.heap.size,0,none⟩) 2 2,.slice (some ⟨w.heap.size+1+1,0,none⟩) 1 1,.slice (some ⟨w.heap.size+1+1+1,0,none⟩) 1 1,.int .i64 0] 27)) w.heap.size (w.heap.size+1+1) (w.heap.size+1+1+1) (w.heap.size+1+1+1+1):=⟨rfl,cells_at e4 rfl,cells_at e4 rfl,cells_at e4 rfl,cells_at e4 rfl,cells_at e4 rfl,kV_born e0 e1 e2 e3⟩
 have hA2:=HD (And.intro hA hb);clear e0 e1 e2 e3 e4 hA hb;have kr:=kV_right;have kl:=kV_len;have kf:=kV_four;go_enter Tryz.func14,Tryz.ntmps14
 go_upto_region 2 with fail
 generalize (((((w.alloc (.cells #[.string ⟨#[66]⟩,.int .i64 (-1),.int .i64 4,.slice none 0 0,.string ⟨#[65]⟩,.int .i64 (-1),.int .i64 0,.slice none 0 0] 60)).alloc (.cells #[.int .u8 3,.int .u8 0,.int .u8 14,.int .u8 0] 5)).alloc (.cells #[.int .i64 0,.int .i64 0,.slice none 0 0,.slice (some ⟨w.heap.size+1,0,none⟩) 4 4] 63)).alloc (.cells #[.int .i64 1,.slice none 0 0] 55)).alloc (.cells #[.slice none 0 0,.slice (some ⟨w.heap.size,0,none⟩) 2 2,.slice (some ⟨w.heap.size+1+1,0,none⟩) 1 1,.slice (some ⟨w.heap.size+1+1+1,0,none⟩) 1 1,.int .i64 0] 27))=W0 at *;generalize w.heap.size+1+1+1+1=q at *;generalize w.heap.size+1+1+1=s3 at *;generalize w.heap.size+1+1=s2 at *;generalize hs0:w.heap.size+1=s1 at *;clear hs0;have hA:=HD hA2.out.1;have hb:=HD hA2.out.2;clear hA2;have hG:Good (bytesU kV) kV:=⟨kr,rfl⟩
 have hbd:=bytes_bdK hA.out.un;have a0:W0.cell? ⟨q,0,none⟩=some (.slice none 0 0):=hA.out.c0;have a1:W0.cell? ⟨q,1,none⟩=some (.slice (some ⟨w.heap.size,0,none⟩) 2 2):=hA.out.c1;have a2:W0.cell? ⟨q,2,none⟩=some (.slice (some ⟨s2,0,none⟩) 1 1):=hA.out.c2;have a3:W0.cell? ⟨q,3,none⟩=some (.slice (some ⟨s3,0,none⟩) 1 1):=hA.out.c3;have a4:W0.cell? ⟨q,4,none⟩=some (.int .i64 0):=hA.out.c4;have P:=HD (ibytes_c hA.out.un)
 go_wp2_with fail
 with_reducible refine P.out.mono ?_
 rintro e1 w1 ⟨h1,_,hb1⟩;obtain⟨v',rfl,hrb⟩:=h1 kr;obtain⟨g,cap,rfl,hc1,hc2⟩:=hrb.form;have hby:=hrb.byv2 hbd;have es:=szU_y kr;generalize hB:bytesU kV=B at *;obtain⟨n,hn⟩:∃ n,n=B.length:=⟨_,rfl⟩
 rw[← hn] at hby hc1 kl es ⊢;have hnB:=HD hn;have PT0:=HD (by_text (ByV.take hby 4 (by omega)));replace hby:=HD hby;replace hA:=HD (hA.out.up hb1);replace hb:=HD (hb.out.trans (hb1.mono hb.out.size));replace es:=HD es;replace hG:=HD hG;replace hbd:=HD hbd;replace kf:=HD kf;clear h1 hrb P hb1 hn kr hB;clear a0 a1 a2 a3 a4;have P:=HD (iread_c hby.out (slF_some ..))
 go_wp2_with fail
 with_reducible refine P.out.mono ?_
 rintro e1 w2 ⟨h1,hb2⟩;obtain⟨na,nc,ka,kc,ma,mc,oa,oc,he,hk⟩:=rdA_good h1 hG.out;replace he:e1=.returned (.tuple #[.agg #[.slice na 0 nc,.slice ka 2 kc,.slice ma 1 mc,.slice oa 1 oc,.int .i64 0],.int .i64 0]):=he;subst he;replace hk:UnK w2 (.agg #[.slice na 0 nc,.slice ka 2 kc,.slice ma 1 mc,.slice oa 1 oc,.int .i64 0]) kV:=hk;have hV:Hid (UnB (w2.alloc (.cells #[.slice na 0 nc,.slice ka 2 kc,.slice ma 1 mc,.slice oa 1 oc,.int .i64 0] 27)) w2.heap.size _ kV na ka ma oa nc kc mc oc):=HD (UnB.born (U:=kV) hk);have hbx:=(Below.refl w2.heap.size w2).alloc (Nat.le_refl _) (.cells #[.slice na 0 nc,.slice ka 2 kc,.slice ma 1 mc,.slice oa 1 oc,.int .i64 0] 27);have hb3:=hb2.trans (hbx.mono hb2.size);replace hA:=HD (hA.out.up hb3);replace hby:=HD (hby.out.up hb3);replace hb:=HD (hb.out.trans (hb3.mono hb.out.size));clear h1 hk P hb2 hb3 hbx hG
 go_upto_region 4 with fail
 obtain⟨Q,hQ⟩:∃ Q,w2.heap.size=Q:=⟨_,rfl⟩
 obtain⟨W2,hW2⟩:∃ W,w2.alloc (.cells #[.slice na 0 nc,.slice ka 2 kc,.slice ma 1 mc,.slice oa 1 oc,.int .i64 0] 27)=W:=⟨_,rfl⟩
 rw[hW2,hQ] at hV;rw[hW2] at hA hby hb
 try simp only[hW2,hQ]
 clear hW2 hQ;have P:=HD (iread_c (byv_nil (w:=W2) (ad:=none)) (Or.inl ⟨none,rfl⟩));have e12:errB []=12:=errB_short (by decide)
 go_wp2_with fail
 with_reducible refine P.out.mono ?_
 rintro e1 w3 ⟨h1,hb3⟩;have h1':=rdA_none h1 bs_nil;rw[e12] at h1';subst h1';have hb4:=hb3.trans (((Below.refl w3.heap.size w3).alloc (Nat.le_refl _) (.cells #[.slice none 0 0,.slice none 0 0,.slice none 0 0,.slice none 0 0,.int .i64 0] 27)).mono hb3.size);replace hA:=HD (hA.out.up hb4);replace hV:=HD (hV.out.up hb4);replace hby:=HD (hby.out.up hb4);replace hb:=HD (hb.out.trans (hb4.mono hb.out.size));clear h1 P hb3 hb4 e12
 go_upto_region 5 with fail
 generalize w3.alloc (.cells #[.slice none 0 0,.slice none 0 0,.slice none 0 0,.slice none 0 0,.int .i64 0] 27)=W3 at *;have P:=HD (ibytes_c (zU_k W3))
 go_wp2_with fail
 with_reducible refine P.out.mono ?_
 rintro e1 w4 ⟨_,h2,hb5⟩;have h2':=h2 (by rw[zU_right];decide);rw[zU_right] at h2';subst h2';replace hA:=HD (hA.out.up hb5);replace hV:=HD (hV.out.up hb5);replace hby:=HD (hby.out.up hb5);replace hb:=HD (hb.out.trans (hb5.mono hb.out.size));clear h2 P hb5
 go_upto_region 6 with fail
 obtain⟨w5,bz,hmk,hbz,hb6,hno,herr⟩:=mk65 w4;have P:=HD (iread_c hbz (slF_some ..));clear hbz
 go_wp2_with fail
 clear hmk
 with_reducible refine P.out.mono ?_
 rintro e1 w6 ⟨h1,hb7⟩;have h1':=rdA_none h1 hno;rw[herr] at h1';subst h1';have hb8:=(hb6.trans (hb7.mono hb6.size))
 have hb9:=hb8.trans (((Below.refl w6.heap.size w6).alloc (Nat.le_refl _) (.cells #[.slice none 0 0,.slice none 0 0,.slice none 0 0,.slice none 0 0,.int .i64 0] 27)).mono hb8.size);replace hA:=HD (hA.out.up hb9);replace hV:=HD (hV.out.up hb9);replace hby:=HD (hby.out.up hb9);replace hb:=HD (hb.out.trans (hb9.mono hb.out.size));clear h1 P hb6 hb7 hb8 hb9 hno herr
 go_upto_region 7 with fail
 generalize w6.alloc (.cells #[.slice none 0 0,.slice none 0 0,.slice none 0 0,.slice none 0 0,.int .i64 0] 27)=W6 at *;have a0:W6.cell? ⟨q,0,none⟩=some (.slice none 0 0):=hA.out.c0;have a1:W6.cell? ⟨q,1,none⟩=some (.slice (some ⟨w.heap.size,0,none⟩) 2 2):=hA.out.c1;have a2:W6.cell? ⟨q,2,none⟩=some (.slice (some ⟨s2,0,none⟩) 1 1):=hA.out.c2;have a3:W6.cell? ⟨q,3,none⟩=some (.slice (some ⟨s3,0,none⟩) 1 1):=hA.out.c3;have a4:W6.cell? ⟨q,4,none⟩=some (.int .i64 0):=hA.out.c4;have b0:W6.cell? ⟨Q,0,none⟩=some (.slice na 0 nc):=hV.out.c0;have b1:W6.cell? ⟨Q,1,none⟩=some (.slice ka 2 kc):=hV.out.c1;have b2:W6.cell? ⟨Q,2,none⟩=some (.slice ma 1 mc):=hV.out.c2;have b3:W6.cell? ⟨Q,3,none⟩=some (.slice oa 1 oc):=hV.out.c3;have b4:W6.cell? ⟨Q,4,none⟩=some (.int .i64 0):=hV.out.c4;have hVu:UnK W6 (.agg #[.slice na 0 nc,.slice ka 2 kc,.slice ma 1 mc,.slice oa 1 oc,.int .i64 0]) kV:=hV.out.un;have P3:=rsame_c hA.out.un hVu;rw[sameU_self] at P3;replace P3:=HD P3;clear PT0
 go_wp2_with fail
 with_reducible refine P3.out.mono ?_
 rintro e1 w7 ⟨rfl,hb7⟩;replace hA:=HD (hA.out.up hb7);replace hby:=HD (hby.out.up hb7);replace hb:=HD (hb.out.trans (hb7.mono hb.out.size));clear hV hb7 P3 a0 a1 a2 a3 a4 b0 b1 b2 b3 b4;have a0:w7.cell? ⟨q,0,none⟩=some (.slice none 0 0):=hA.out.c0;have a1:w7.cell? ⟨q,1,none⟩=some (.slice (some ⟨w.heap.size,0,none⟩) 2 2):=hA.out.c1;have a2:w7.cell? ⟨q,2,none⟩=some (.slice (some ⟨s2,0,none⟩) 1 1):=hA.out.c2;have a3:w7.cell? ⟨q,3,none⟩=some (.slice (some ⟨s3,0,none⟩) 1 1):=hA.out.c3;have a4:w7.cell? ⟨q,4,none⟩=some (.int .i64 0):=hA.out.c4;have P4:=isize_c hA.out.un;rw[es.out] at P4;replace P4:=HD P4
 go_wp2_with fail
 with_reducible refine P4.out.mono ?_
 rintro e1 w8 ⟨rfl,hb8⟩;replace hby:=HD (hby.out.up hb8);replace hb:=HD (hb.out.trans (hb8.mono hb.out.size));clear hA hb8 P4 a0 a1 a2 a3 a4;have PT:=by_text (ByV.take hby.out 4 (by have:=hnB.out;omega));rw[kf.out] at PT;have et:((textOf [84,87,49,0]).toList == [84,87,49,0])=true:=by
  have e:=(text_mark (T:=[84,87,49,0]) (fun x hx=>by simp only[List.mem_cons,List.not_mem_nil,or_false] at hx;omega)).2 rfl;have e9:(textOf [84,87,49,0]).toList=[84,87,49,0]:=by rw[e];exact mark_list
  rw[e9];decide
 have d4:decide ((4:Int) < (n:Int))=true:=by simp;omega
 have d4':decide (4 < n)=true:=by simp;omega
 have i4:4≤n:=by omega
 have i4':4≤cap:=by omega
 have P5:=isize_c (zU_k w8);rw[szU_n (by rw[zU_right];decide)] at P5;replace P5:=HD P5
 go_wp2_with fail
 with_reducible refine P5.out.mono ?_
 rintro e1 w9 ⟨rfl,hb9⟩
 go_wp2
 go_ret;exact⟨rfl,hb.out.trans (hb9.mono hb.out.size)⟩
structure TapeL (L:List ClassA):Prop where
 le:L.length≤5
 ok:∀ (k:Nat) c,L[k]?=some c→clsOk L k c∧bndSub 6 c.binds
theorem TapeU.tl {U:UnitA} (h:TapeU U):TapeL U.classes:=⟨h.cl1,fun k c hc=>⟨(h.cls k c hc).1,(h.cls k c hc).2.2⟩⟩
theorem TapeL.take {L:List ClassA} (h:TapeL L) (n:Nat):TapeL (L.take n):=by
 refine⟨by rw[List.length_take];have:=h.le;omega,fun k c hc=>?_⟩;have hk:k < n∧L[k]?=some c:=by
  rw[List.getElem?_take] at hc
  split at hc
  ·exact⟨by assumption,hc⟩
  ·cases hc
 obtain⟨a,b⟩:=h.ok k c hk.2;refine⟨⟨a.z,a.o,a.nm,fun h2=>?_,a.fld⟩,b⟩;rcases a.sup h2 with e | ⟨e1,e2,d,e3,e4⟩
 ·exact Or.inl e
 ·exact Or.inr ⟨e1,e2,d,by rw[List.getElem?_take,if_pos (by omega)];exact e3,e4⟩
def nmOf (k:Nat):ByteArray:=if k=0 then ⟨#[66,108,111,99,107]⟩ else if k=1 then ⟨#[65,114,114,97,121]⟩ else cName (k - 2)
theorem nm_at {L:List ClassA} {k:Nat} {c:ClassA} (h:clsOk L k c):c.nm=nmOf k:=by
 unfold nmOf
 split
 ·exact (h.z ‹_›).1
 ·split
  ·exact (h.o ‹_›).1
  ·exact h.nm (by omega)
theorem nm_apart:∀ i,i < 5→∀ j,j < i→nmOf j≠nmOf i:=by decide +kernel
theorem nm_text:∀ i,i < 5→textOk (nmOf i)=true:=by decide +kernel
theorem bnd_right {b:List (Int × Int)} (h:bndSub 6 b):bindsOk b 6 9=true:=by
 have hl:=h.len;obtain⟨S,h1,h2,rfl⟩:=h;unfold bindsOk;have a:(S.map (fun (s:Nat)=>((s:Int),(s:Int)))).all (bindOk 6 9)=true:=by
  rw[List.all_eq_true];intro x hx;obtain⟨s,hs,rfl⟩:=List.mem_map.1 hx;have:=h2 s hs;exact bindOk_of (by simp only;omega) (by simp only;omega) (by simp only;omega) (by simp only;omega)
 have d:((S.map (fun (s:Nat)=>((s:Int),(s:Int)))).map (·.1)).Nodup:=by
  rw[List.map_map,List.Nodup,List.pairwise_map];exact h1.imp (fun hlt e=>by simp only[Function.comp] at e;omega)
 rw[a,decide_eq_true d,decide_eq_true (by omega)];rfl
theorem tape_cls {L:List ClassA} (h:TapeL L) {k:Nat} {c:ClassA} (hc:L[k]?=some c):classOk L k c=true:=by
 obtain⟨a,_⟩:=h.ok k c hc;have hk:=(List.getElem?_eq_some_iff.1 hc).1;have hk5:=h.le;have hd:=deep_le L (k+1) c.super;have key:-1≤c.super∧c.super < k∧0≤c.fields∧c.fields≤62∧(c.super < 0∨superF L c.super≤c.fields):=by
  rcases (show k=0∨k=1∨2≤k by omega) with e | e | e
  ·obtain⟨_,s,f⟩:=a.z e;rw[s,f];omega
  ·obtain⟨_,s,f⟩:=a.o e;rw[s,f];omega
  ·obtain⟨f0,f1⟩:=a.fld e;rcases a.sup e with e1 | ⟨e1,e2,d,e3,e4⟩
   ·omega
   ·refine⟨by omega,e2,f0,by omega,Or.inr ?_⟩;unfold superF;rw[e3];exact e4
 obtain⟨k1,k2,k3,k4,k5⟩:=key;rw[classOk_eq k1 k2 k3 k4,decide_eq_true (by omega)];rcases k5 with k5 | k5
 ·rw[decide_eq_true k5];rfl
 ·rw[decide_eq_true k5];simp
theorem tape_from {L:List ClassA} (h:TapeL L):∀ (R:List ClassA) (i:Nat),L.drop i=R→shapeFrom L 6 9 i R=0
 | [],_,_=>rfl
 | c :: R,i,e=>by
  have hc:L[i]?=some c:=by
   have:=congrArg (fun l=>l[0]?) e;simpa [List.getElem?_drop] using this
  have hi:=(List.getElem?_eq_some_iff.1 hc).1;have h5:=h.le;obtain⟨a,b⟩:=h.ok i c hc;have hn:∀ x∈L.take i,x.nm≠c.nm:=fun x hx=>by
   obtain⟨j,hj⟩:=List.getElem?_of_mem hx;have hji:j < i∧L[j]?=some x:=by
    rw[List.getElem?_take] at hj
    split at hj
    ·exact⟨by assumption,hj⟩
    ·cases hj
   rw[nm_at (h.ok j x hji.2).1,nm_at a];exact nm_apart i (by omega) j hji.1
  rw[shapeFrom,if_neg (by rw[nm_at a,nm_text i (by omega)];decide),if_neg (by rw[anyNot hn];decide),if_neg (by rw[tape_cls h hc];decide),if_neg (by rw[bnd_right b];decide)];refine tape_from h R (i+1) ?_;have:=drop_next hc;rw[e] at this;exact (List.cons.inj this).2.symm
theorem tape_right {L:List ClassA} (h:TapeL L) (h2:2≤L.length):shapeR L 6 9=0:=by
 have h5:=h.le;have hh:headOk L=true:=by
  obtain⟨a,ha⟩:∃ x,L[0]?=some x:=⟨L[0]'(by omega),by simp⟩
  obtain⟨b,hb⟩:∃ x,L[1]?=some x:=⟨L[1]'(by omega),by simp⟩
  rw[head_at ha hb];obtain⟨_,s0,f0⟩:=(h.ok 0 a ha).1.z rfl;obtain⟨_,s1,f1⟩:=(h.ok 1 b hb).1.o rfl;rw[s0,f0,s1,f1];rfl
 unfold shapeR;rw[if_neg (by omega),if_neg (by rw[hh];decide)];exact tape_from h L 0 rfl
theorem wr8_id {x:Int} (h0:0≤x) (h1:x≤255):wr8 x=x:=by
 have e:wr8 x=x % 256:=by
  unfold wr8 IntKind.wrap;rfl
 rw[e];omega
def insW (j n:Nat) (y:Int × Int):Prop :=
 ((y.1=0∨y.1=10)∧y.2 < 2)∨((y.1=1∨y.1=11)∧y.2 < 62)∨(y.1=2∧0≤y.2∧y.2 < 4)∨((y.1=12∨y.1=13)∧4≤y.2∧y.2 < 10)∨(y.1=20∧10≤y.2∧y.2 < 12)∨(y.1=18∧12≤y.2∧y.2 < 14)∨(y.1=17∧(j:Int)+1+y.2≤n)∨(y.1=21∧y.2≤23)∨((3≤y.1∧y.1≤9)∨y.1=14∨y.1=19)
theorem w_mk {j n:Nat} {a b:Int} (h:((a=0∨a=10)∧b < 2)∨((a=1∨a=11)∧b < 62)∨(a=2∧0≤b∧b < 4)∨((a=12∨a=13)∧4≤b∧b < 10)∨(a=20∧10≤b∧b < 12)∨(a=18∧12≤b∧b < 14)∨(a=17∧(j:Int)+1+b≤n)∨(a=21∧b≤23)∨((3≤a∧a≤9)∨a=14∨a=19)):insW j n (a,b):=h
theorem w_A {l:List (Int × Int)} (h:pkA l) {j:Nat} {z9:Int × Int} (hj:l[j]?=some z9):insW j l.length z9:=by
 obtain⟨a,ha,rfl⟩:=h;rcases (show j=0∨j=1∨j=2 by have:=(List.getElem?_eq_some_iff.1 hj).1;simp at this;omega) with rfl | rfl | rfl
 ·obtain rfl:(wr8 7,wr8 a)=z9:=by simpa using hj
  have b9:=wr8_bd a;rw[wr8_id (x:=7) (by omega) (by omega)];refine w_mk (n:=3) ?_;omega
 ·obtain rfl:(wr8 21,wr8 10)=z9:=by simpa using hj
  have b9:=wr8_bd 10;rw[wr8_id (x:=21) (by omega) (by omega)];rw[wr8_id (x:=10) (by omega) (by omega)];refine w_mk (n:=3) ?_;omega
 ·obtain rfl:(wr8 8,wr8 0)=z9:=by simpa using hj
  have b9:=wr8_bd 0;rw[wr8_id (x:=8) (by omega) (by omega)];refine w_mk (n:=3) ?_;omega
theorem w_B {l:List (Int × Int)} (h:pkB l) {j:Nat} {z9:Int × Int} (hj:l[j]?=some z9):insW j l.length z9:=by
 obtain⟨s,hs,rfl⟩:=h;rcases (show j=0∨j=1∨j=2 by have:=(List.getElem?_eq_some_iff.1 hj).1;simp at this;omega) with rfl | rfl | rfl
 ·obtain rfl:(wr8 3,wr8 0)=z9:=by simpa using hj
  have b9:=wr8_bd 0;rw[wr8_id (x:=3) (by omega) (by omega)];refine w_mk (n:=3) ?_;omega
 ·obtain rfl:(wr8 12,wr8 s)=z9:=by simpa using hj
  have b9:=wr8_bd s;rw[wr8_id (x:=12) (by omega) (by omega)];rw[wr8_id (x:=s) (by omega) (by omega)];refine w_mk (n:=3) ?_;omega
 ·obtain rfl:(wr8 8,wr8 0)=z9:=by simpa using hj
  have b9:=wr8_bd 0;rw[wr8_id (x:=8) (by omega) (by omega)];refine w_mk (n:=3) ?_;omega
theorem w_C {l:List (Int × Int)} (h:pkC l) {j:Nat} {z9:Int × Int} (hj:l[j]?=some z9):insW j l.length z9:=by
 obtain⟨a,x,ha,hx,rfl⟩:=h;rcases (show j=0∨j=1∨j=2∨j=3∨j=4 by have:=(List.getElem?_eq_some_iff.1 hj).1;simp at this;omega) with rfl | rfl | rfl | rfl | rfl
 ·obtain rfl:(wr8 3,wr8 0)=z9:=by simpa using hj
  have b9:=wr8_bd 0;rw[wr8_id (x:=3) (by omega) (by omega)];refine w_mk (n:=5) ?_;omega
 ·obtain rfl:(wr8 7,wr8 a)=z9:=by simpa using hj
  have b9:=wr8_bd a;rw[wr8_id (x:=7) (by omega) (by omega)];refine w_mk (n:=5) ?_;omega
 ·obtain rfl:(wr8 12,wr8 (5+x))=z9:=by simpa using hj
  have b9:=wr8_bd (5+x);rw[wr8_id (x:=12) (by omega) (by omega)];rw[wr8_id (x:=(5+x)) (by omega) (by omega)];refine w_mk (n:=5) ?_;omega
 ·obtain rfl:(wr8 21,wr8 10)=z9:=by simpa using hj
  have b9:=wr8_bd 10;rw[wr8_id (x:=21) (by omega) (by omega)];rw[wr8_id (x:=10) (by omega) (by omega)];refine w_mk (n:=5) ?_;omega
 ·obtain rfl:(wr8 8,wr8 0)=z9:=by simpa using hj
  have b9:=wr8_bd 0;rw[wr8_id (x:=8) (by omega) (by omega)];refine w_mk (n:=5) ?_;omega
theorem w_D {l:List (Int × Int)} (h:pkD l) {j:Nat} {z9:Int × Int} (hj:l[j]?=some z9):insW j l.length z9:=by
 obtain⟨i,a,q,hi,ha,hq,rfl⟩:=h;rcases (show j=0∨j=1∨j=2∨j=3∨j=4 by have:=(List.getElem?_eq_some_iff.1 hj).1;simp at this;omega) with rfl | rfl | rfl | rfl | rfl
 ·obtain rfl:(wr8 2,wr8 i)=z9:=by simpa using hj
  have b9:=wr8_bd i;rw[wr8_id (x:=2) (by omega) (by omega)];rw[wr8_id (x:=i) (by omega) (by omega)];refine w_mk (n:=5) ?_;omega
 ·obtain rfl:(wr8 7,wr8 (a - 9))=z9:=by simpa using hj
  have b9:=wr8_bd (a - 9);rw[wr8_id (x:=7) (by omega) (by omega)];refine w_mk (n:=5) ?_;omega
 ·obtain rfl:(wr8 21,wr8 q)=z9:=by simpa using hj
  have b9:=wr8_bd q;rw[wr8_id (x:=21) (by omega) (by omega)];rw[wr8_id (x:=q) (by omega) (by omega)];refine w_mk (n:=5) ?_;omega
 ·obtain rfl:(wr8 21,wr8 10)=z9:=by simpa using hj
  have b9:=wr8_bd 10;rw[wr8_id (x:=21) (by omega) (by omega)];rw[wr8_id (x:=10) (by omega) (by omega)];refine w_mk (n:=5) ?_;omega
 ·obtain rfl:(wr8 8,wr8 0)=z9:=by simpa using hj
  have b9:=wr8_bd 0;rw[wr8_id (x:=8) (by omega) (by omega)];refine w_mk (n:=5) ?_;omega
theorem w_E {l:List (Int × Int)} (h:pkE l) {j:Nat} {z9:Int × Int} (hj:l[j]?=some z9):insW j l.length z9:=by
 obtain⟨x,y,hx,hy,rfl⟩:=h;rcases (show j=0∨j=1∨j=2 by have:=(List.getElem?_eq_some_iff.1 hj).1;simp at this;omega) with rfl | rfl | rfl
 ·obtain rfl:(wr8 20,wr8 (10+x))=z9:=by simpa using hj
  have b9:=wr8_bd (10+x);rw[wr8_id (x:=20) (by omega) (by omega)];rw[wr8_id (x:=(10+x)) (by omega) (by omega)];refine w_mk (n:=3) ?_;omega
 ·obtain rfl:(wr8 10,wr8 y)=z9:=by simpa using hj
  have b9:=wr8_bd y;rw[wr8_id (x:=10) (by omega) (by omega)];rw[wr8_id (x:=y) (by omega) (by omega)];refine w_mk (n:=3) ?_;omega
 ·obtain rfl:(wr8 8,wr8 0)=z9:=by simpa using hj
  have b9:=wr8_bd 0;rw[wr8_id (x:=8) (by omega) (by omega)];refine w_mk (n:=3) ?_;omega
theorem w_F {l:List (Int × Int)} (h:pkF l) {j:Nat} {z9:Int × Int} (hj:l[j]?=some z9):insW j l.length z9:=by
 obtain⟨a,y,ha,hy,rfl⟩:=h;rcases (show j=0∨j=1∨j=2∨j=3 by have:=(List.getElem?_eq_some_iff.1 hj).1;simp at this;omega) with rfl | rfl | rfl | rfl
 ·obtain rfl:(wr8 7,wr8 a)=z9:=by simpa using hj
  have b9:=wr8_bd a;rw[wr8_id (x:=7) (by omega) (by omega)];refine w_mk (n:=4) ?_;omega
 ·obtain rfl:(wr8 21,wr8 18)=z9:=by simpa using hj
  have b9:=wr8_bd 18;rw[wr8_id (x:=21) (by omega) (by omega)];rw[wr8_id (x:=18) (by omega) (by omega)];refine w_mk (n:=4) ?_;omega
 ·obtain rfl:(wr8 10,wr8 y)=z9:=by simpa using hj
  have b9:=wr8_bd y;rw[wr8_id (x:=10) (by omega) (by omega)];rw[wr8_id (x:=y) (by omega) (by omega)];refine w_mk (n:=4) ?_;omega
 ·obtain rfl:(wr8 8,wr8 0)=z9:=by simpa using hj
  have b9:=wr8_bd 0;rw[wr8_id (x:=8) (by omega) (by omega)];refine w_mk (n:=4) ?_;omega
theorem w_G {l:List (Int × Int)} (h:pkG l) {j:Nat} {z9:Int × Int} (hj:l[j]?=some z9):insW j l.length z9:=by
 obtain⟨x,k,s,z,hx,hk,hs,hz,rfl⟩:=h;rcases (show j=0∨j=1∨j=2∨j=3∨j=4 by have:=(List.getElem?_eq_some_iff.1 hj).1;simp at this;omega) with rfl | rfl | rfl | rfl | rfl
 ·obtain rfl:(wr8 0,wr8 x)=z9:=by simpa using hj
  have b9:=wr8_bd x;rw[wr8_id (x:=0) (by omega) (by omega)];rw[wr8_id (x:=x) (by omega) (by omega)];refine w_mk (n:=5) ?_;omega
 ·obtain rfl:(wr8 7,wr8 k)=z9:=by simpa using hj
  have b9:=wr8_bd k;rw[wr8_id (x:=7) (by omega) (by omega)];refine w_mk (n:=5) ?_;omega
 ·obtain rfl:(wr8 s,wr8 z)=z9:=by simpa using hj
  have b9:=wr8_bd z;rw[wr8_id (x:=s) (by omega) (by omega)];rw[wr8_id (x:=z) (by omega) (by omega)];refine w_mk (n:=5) ?_;omega
 ·obtain rfl:(wr8 21,wr8 9)=z9:=by simpa using hj
  have b9:=wr8_bd 9;rw[wr8_id (x:=21) (by omega) (by omega)];rw[wr8_id (x:=9) (by omega) (by omega)];refine w_mk (n:=5) ?_;omega
 ·obtain rfl:(wr8 8,wr8 0)=z9:=by simpa using hj
  have b9:=wr8_bd 0;rw[wr8_id (x:=8) (by omega) (by omega)];refine w_mk (n:=5) ?_;omega
theorem w_H {l:List (Int × Int)} (h:pkH l) {j:Nat} {z9:Int × Int} (hj:l[j]?=some z9):insW j l.length z9:=by
 obtain⟨x,k,hx,hk,rfl⟩:=h;rcases (show j=0∨j=1∨j=2∨j=3 by have:=(List.getElem?_eq_some_iff.1 hj).1;simp at this;omega) with rfl | rfl | rfl | rfl
 ·obtain rfl:(wr8 0,wr8 x)=z9:=by simpa using hj
  have b9:=wr8_bd x;rw[wr8_id (x:=0) (by omega) (by omega)];rw[wr8_id (x:=x) (by omega) (by omega)];refine w_mk (n:=4) ?_;omega
 ·obtain rfl:(wr8 7,wr8 k)=z9:=by simpa using hj
  have b9:=wr8_bd k;rw[wr8_id (x:=7) (by omega) (by omega)];refine w_mk (n:=4) ?_;omega
 ·obtain rfl:(wr8 21,wr8 8)=z9:=by simpa using hj
  have b9:=wr8_bd 8;rw[wr8_id (x:=21) (by omega) (by omega)];rw[wr8_id (x:=8) (by omega) (by omega)];refine w_mk (n:=4) ?_;omega
 ·obtain rfl:(wr8 21,wr8 10)=z9:=by simpa using hj
  have b9:=wr8_bd 10;rw[wr8_id (x:=21) (by omega) (by omega)];rw[wr8_id (x:=10) (by omega) (by omega)];refine w_mk (n:=4) ?_;omega
theorem w_I {l:List (Int × Int)} (h:pkI l) {j:Nat} {z9:Int × Int} (hj:l[j]?=some z9):insW j l.length z9:=by
 unfold pkI at h;subst h;rcases (show j=0∨j=1∨j=2 by have:=(List.getElem?_eq_some_iff.1 hj).1;simp at this;omega) with rfl | rfl | rfl
 ·obtain rfl:(wr8 18,wr8 12)=z9:=by simpa using hj
  have b9:=wr8_bd 12;rw[wr8_id (x:=18) (by omega) (by omega)];rw[wr8_id (x:=12) (by omega) (by omega)];refine w_mk (n:=3) ?_;omega
 ·obtain rfl:(wr8 21,wr8 11)=z9:=by simpa using hj
  have b9:=wr8_bd 11;rw[wr8_id (x:=21) (by omega) (by omega)];rw[wr8_id (x:=11) (by omega) (by omega)];refine w_mk (n:=3) ?_;omega
 ·obtain rfl:(wr8 8,wr8 0)=z9:=by simpa using hj
  have b9:=wr8_bd 0;rw[wr8_id (x:=8) (by omega) (by omega)];refine w_mk (n:=3) ?_;omega
theorem w_J {l:List (Int × Int)} (h:pkJ l) {j:Nat} {z9:Int × Int} (hj:l[j]?=some z9):insW j l.length z9:=by
 obtain⟨a,ha,rfl⟩:=h;rcases (show j=0∨j=1∨j=2∨j=3 by have:=(List.getElem?_eq_some_iff.1 hj).1;simp at this;omega) with rfl | rfl | rfl | rfl
 ·obtain rfl:(wr8 18,wr8 13)=z9:=by simpa using hj
  have b9:=wr8_bd 13;rw[wr8_id (x:=18) (by omega) (by omega)];rw[wr8_id (x:=13) (by omega) (by omega)];refine w_mk (n:=4) ?_;omega
 ·obtain rfl:(wr8 7,wr8 a)=z9:=by simpa using hj
  have b9:=wr8_bd a;rw[wr8_id (x:=7) (by omega) (by omega)];refine w_mk (n:=4) ?_;omega
 ·obtain rfl:(wr8 21,wr8 12)=z9:=by simpa using hj
  have b9:=wr8_bd 12;rw[wr8_id (x:=21) (by omega) (by omega)];rw[wr8_id (x:=12) (by omega) (by omega)];refine w_mk (n:=4) ?_;omega
 ·obtain rfl:(wr8 8,wr8 0)=z9:=by simpa using hj
  have b9:=wr8_bd 0;rw[wr8_id (x:=8) (by omega) (by omega)];refine w_mk (n:=4) ?_;omega
theorem w_K {l:List (Int × Int)} (h:pkK l) {j:Nat} {z9:Int × Int} (hj:l[j]?=some z9):insW j l.length z9:=by
 obtain⟨k,hk,rfl⟩:=h;rcases (show j=0∨j=1∨j=2∨j=3 by have:=(List.getElem?_eq_some_iff.1 hj).1;simp at this;omega) with rfl | rfl | rfl | rfl
 ·obtain rfl:(wr8 18,wr8 12)=z9:=by simpa using hj
  have b9:=wr8_bd 12;rw[wr8_id (x:=18) (by omega) (by omega)];rw[wr8_id (x:=12) (by omega) (by omega)];refine w_mk (n:=4) ?_;omega
 ·obtain rfl:(wr8 7,wr8 k)=z9:=by simpa using hj
  have b9:=wr8_bd k;rw[wr8_id (x:=7) (by omega) (by omega)];refine w_mk (n:=4) ?_;omega
 ·obtain rfl:(wr8 21,wr8 13)=z9:=by simpa using hj
  have b9:=wr8_bd 13;rw[wr8_id (x:=21) (by omega) (by omega)];rw[wr8_id (x:=13) (by omega) (by omega)];refine w_mk (n:=4) ?_;omega
 ·obtain rfl:(wr8 8,wr8 0)=z9:=by simpa using hj
  have b9:=wr8_bd 0;rw[wr8_id (x:=8) (by omega) (by omega)];refine w_mk (n:=4) ?_;omega
theorem w_L {l:List (Int × Int)} (h:pkL l) {j:Nat} {z9:Int × Int} (hj:l[j]?=some z9):insW j l.length z9:=by
 obtain⟨k,x,hk,hx,rfl⟩:=h;rcases (show j=0∨j=1∨j=2 by have:=(List.getElem?_eq_some_iff.1 hj).1;simp at this;omega) with rfl | rfl | rfl
 ·obtain rfl:(wr8 7,wr8 k)=z9:=by simpa using hj
  have b9:=wr8_bd k;rw[wr8_id (x:=7) (by omega) (by omega)];refine w_mk (n:=3) ?_;omega
 ·obtain rfl:(wr8 21,wr8 (15+x))=z9:=by simpa using hj
  have b9:=wr8_bd (15+x);rw[wr8_id (x:=21) (by omega) (by omega)];rw[wr8_id (x:=(15+x)) (by omega) (by omega)];refine w_mk (n:=3) ?_;omega
 ·obtain rfl:(wr8 8,wr8 0)=z9:=by simpa using hj
  have b9:=wr8_bd 0;rw[wr8_id (x:=8) (by omega) (by omega)];refine w_mk (n:=3) ?_;omega
theorem w_M {l:List (Int × Int)} (h:pkM l) {j:Nat} {z9:Int × Int} (hj:l[j]?=some z9):insW j l.length z9:=by
 obtain⟨s,hs,rfl⟩:=h;rcases (show j=0∨j=1 by have:=(List.getElem?_eq_some_iff.1 hj).1;simp at this;omega) with rfl | rfl
 ·obtain rfl:(wr8 21,wr8 s)=z9:=by simpa using hj
  have b9:=wr8_bd s;rw[wr8_id (x:=21) (by omega) (by omega)];rw[wr8_id (x:=s) (by omega) (by omega)];refine w_mk (n:=2) ?_;omega
 ·obtain rfl:(wr8 8,wr8 0)=z9:=by simpa using hj
  have b9:=wr8_bd 0;rw[wr8_id (x:=8) (by omega) (by omega)];refine w_mk (n:=2) ?_;omega
theorem w_N {l:List (Int × Int)} (h:pkN l) {j:Nat} {z9:Int × Int} (hj:l[j]?=some z9):insW j l.length z9:=by
 obtain⟨x,a,hx,ha,rfl⟩:=h;rcases (show j=0∨j=1∨j=2∨j=3 by have:=(List.getElem?_eq_some_iff.1 hj).1;simp at this;omega) with rfl | rfl | rfl | rfl
 ·obtain rfl:(wr8 (5+x),wr8 0)=z9:=by simpa using hj
  have b9:=wr8_bd 0;rw[wr8_id (x:=(5+x)) (by omega) (by omega)];refine w_mk (n:=4) ?_;omega
 ·obtain rfl:(wr8 17,wr8 1)=z9:=by simpa using hj
  have b9:=wr8_bd 1;rw[wr8_id (x:=17) (by omega) (by omega)];rw[wr8_id (x:=1) (by omega) (by omega)];refine w_mk (n:=4) ?_;omega
 ·obtain rfl:(wr8 7,wr8 a)=z9:=by simpa using hj
  have b9:=wr8_bd a;rw[wr8_id (x:=7) (by omega) (by omega)];refine w_mk (n:=4) ?_;omega
 ·obtain rfl:(wr8 8,wr8 0)=z9:=by simpa using hj
  have b9:=wr8_bd 0;rw[wr8_id (x:=8) (by omega) (by omega)];refine w_mk (n:=4) ?_;omega
theorem w_O {l:List (Int × Int)} (h:pkO l) {j:Nat} {z9:Int × Int} (hj:l[j]?=some z9):insW j l.length z9:=by
 obtain⟨k,hk,rfl⟩:=h;rcases (show j=0∨j=1∨j=2∨j=3∨j=4 by have:=(List.getElem?_eq_some_iff.1 hj).1;simp at this;omega) with rfl | rfl | rfl | rfl | rfl
 ·obtain rfl:(wr8 0,wr8 0)=z9:=by simpa using hj
  have b9:=wr8_bd 0;rw[wr8_id (x:=0) (by omega) (by omega)];refine w_mk (n:=5) ?_;omega
 ·obtain rfl:(wr8 0,wr8 1)=z9:=by simpa using hj
  have b9:=wr8_bd 1;rw[wr8_id (x:=0) (by omega) (by omega)];rw[wr8_id (x:=1) (by omega) (by omega)];refine w_mk (n:=5) ?_;omega
 ·obtain rfl:(wr8 7,wr8 k)=z9:=by simpa using hj
  have b9:=wr8_bd k;rw[wr8_id (x:=7) (by omega) (by omega)];refine w_mk (n:=5) ?_;omega
 ·obtain rfl:(wr8 21,wr8 19)=z9:=by simpa using hj
  have b9:=wr8_bd 19;rw[wr8_id (x:=21) (by omega) (by omega)];rw[wr8_id (x:=19) (by omega) (by omega)];refine w_mk (n:=5) ?_;omega
 ·obtain rfl:(wr8 8,wr8 0)=z9:=by simpa using hj
  have b9:=wr8_bd 0;rw[wr8_id (x:=8) (by omega) (by omega)];refine w_mk (n:=5) ?_;omega
theorem w_P {l:List (Int × Int)} (h:pkP l) {j:Nat} {z9:Int × Int} (hj:l[j]?=some z9):insW j l.length z9:=by
 obtain⟨s,hs,rfl⟩:=h;rcases (show j=0∨j=1∨j=2∨j=3 by have:=(List.getElem?_eq_some_iff.1 hj).1;simp at this;omega) with rfl | rfl | rfl | rfl
 ·obtain rfl:(wr8 0,wr8 0)=z9:=by simpa using hj
  have b9:=wr8_bd 0;rw[wr8_id (x:=0) (by omega) (by omega)];refine w_mk (n:=4) ?_;omega
 ·obtain rfl:(wr8 0,wr8 1)=z9:=by simpa using hj
  have b9:=wr8_bd 1;rw[wr8_id (x:=0) (by omega) (by omega)];rw[wr8_id (x:=1) (by omega) (by omega)];refine w_mk (n:=4) ?_;omega
 ·obtain rfl:(wr8 21,wr8 s)=z9:=by simpa using hj
  have b9:=wr8_bd s;rw[wr8_id (x:=21) (by omega) (by omega)];rw[wr8_id (x:=s) (by omega) (by omega)];refine w_mk (n:=4) ?_;omega
 ·obtain rfl:(wr8 8,wr8 0)=z9:=by simpa using hj
  have b9:=wr8_bd 0;rw[wr8_id (x:=8) (by omega) (by omega)];refine w_mk (n:=4) ?_;omega
theorem w_Q {l:List (Int × Int)} (h:pkQ l) {j:Nat} {z9:Int × Int} (hj:l[j]?=some z9):insW j l.length z9:=by
 obtain⟨x,y,hx,hy,rfl⟩:=h;rcases (show j=0∨j=1∨j=2 by have:=(List.getElem?_eq_some_iff.1 hj).1;simp at this;omega) with rfl | rfl | rfl
 ·obtain rfl:(wr8 1,wr8 x)=z9:=by simpa using hj
  have b9:=wr8_bd x;rw[wr8_id (x:=1) (by omega) (by omega)];rw[wr8_id (x:=x) (by omega) (by omega)];refine w_mk (n:=3) ?_;omega
 ·obtain rfl:(wr8 11,wr8 y)=z9:=by simpa using hj
  have b9:=wr8_bd y;rw[wr8_id (x:=11) (by omega) (by omega)];rw[wr8_id (x:=y) (by omega) (by omega)];refine w_mk (n:=3) ?_;omega
 ·obtain rfl:(wr8 8,wr8 0)=z9:=by simpa using hj
  have b9:=wr8_bd 0;rw[wr8_id (x:=8) (by omega) (by omega)];refine w_mk (n:=3) ?_;omega
theorem w_R {l:List (Int × Int)} (h:pkR l) {j:Nat} {z9:Int × Int} (hj:l[j]?=some z9):insW j l.length z9:=by
 obtain⟨x,y,hx,hy,rfl⟩:=h;rcases (show j=0∨j=1 by have:=(List.getElem?_eq_some_iff.1 hj).1;simp at this;omega) with rfl | rfl
 ·obtain rfl:(wr8 0,wr8 x)=z9:=by simpa using hj
  have b9:=wr8_bd x;rw[wr8_id (x:=0) (by omega) (by omega)];rw[wr8_id (x:=x) (by omega) (by omega)];refine w_mk (n:=2) ?_;omega
 ·obtain rfl:(wr8 11,wr8 y)=z9:=by simpa using hj
  have b9:=wr8_bd y;rw[wr8_id (x:=11) (by omega) (by omega)];rw[wr8_id (x:=y) (by omega) (by omega)];refine w_mk (n:=2) ?_;omega
theorem piece_w {l:List (Int × Int)} (h:pieceOk l) {j:Nat} {y:Int × Int} (hj:l[j]?=some y):insW j l.length y:=by
 rcases h with h | h | h | h | h | h | h | h | h | h | h | h | h | h | h | h | h | h
 ·exact w_A h hj
 ·exact w_B h hj
 ·exact w_C h hj
 ·exact w_D h hj
 ·exact w_E h hj
 ·exact w_F h hj
 ·exact w_G h hj
 ·exact w_H h hj
 ·exact w_I h hj
 ·exact w_J h hj
 ·exact w_K h hj
 ·exact w_L h hj
 ·exact w_M h hj
 ·exact w_N h hj
 ·exact w_O h hj
 ·exact w_P h hj
 ·exact w_Q h hj
 ·exact w_R h hj
theorem insW.in {j n o N:Nat} {y:Int × Int} (h:insW j n y) (hN:o+n < N):insW (o+j) N y∧(y.1=17→((o+j:Nat):Int)+1+y.2 < N):=by
 rcases h with h | h | h | h | h | h | ⟨h,h2⟩ | h | h
 ·exact⟨Or.inl h,fun e=>by clear hN;omega⟩
 ·exact⟨Or.inr (Or.inl h),fun e=>by clear hN;omega⟩
 ·exact⟨Or.inr (Or.inr (Or.inl h)),fun e=>by clear hN;omega⟩
 ·exact⟨Or.inr (Or.inr (Or.inr (Or.inl h))),fun e=>by clear hN;omega⟩
 ·exact⟨Or.inr (Or.inr (Or.inr (Or.inr (Or.inl h)))),fun e=>by clear hN;omega⟩
 ·exact⟨Or.inr (Or.inr (Or.inr (Or.inr (Or.inr (Or.inl h))))),fun e=>by clear hN;omega⟩
 ·exact⟨Or.inr (Or.inr (Or.inr (Or.inr (Or.inr (Or.inr (Or.inl ⟨h,by omega⟩)))))),fun e=>by omega⟩
 ·exact⟨Or.inr (Or.inr (Or.inr (Or.inr (Or.inr (Or.inr (Or.inr (Or.inl h))))))),fun e=>by clear hN;omega⟩
 ·exact⟨Or.inr (Or.inr (Or.inr (Or.inr (Or.inr (Or.inr (Or.inr (Or.inr h))))))),fun e=>by clear hN;omega⟩
theorem w_n {j n:Nat} {a b:Int} (h:(3≤a∧a≤9)∨a=14∨a=19):insW j n (a,b):=Or.inr (Or.inr (Or.inr (Or.inr (Or.inr (Or.inr (Or.inr (Or.inr h)))))))
theorem w_t {j n:Nat} {a b:Int} (h:a=0∨a=10) (h2:b < 2):insW j n (a,b):=Or.inl ⟨h,h2⟩
theorem w_s {j n:Nat} {a b:Int} (h:a=12∨a=13) (h2:4≤b) (h3:b < 10):insW j n (a,b):=Or.inr (Or.inr (Or.inr (Or.inl ⟨h,h2,h3⟩)))
def insG (N k:Nat) (y:Int × Int):Prop:=insW k N y∧(y.1=17→(k:Int)+1+y.2 < N)
theorem flatten_g:∀ (P:List (List (Int × Int))) (o N:Nat),(∀ x∈P,pieceOk x)→o+P.flatten.length < N→∀ k y,P.flatten[k]?=some y→insG N (o+k) y
 | [],_,_,_,_,k,y,hy=>by simp at hy
 | l :: P,o,N,hP,hN,k,y,hy=>by
  rw[List.flatten_cons] at hy hN;rw[List.length_append] at hN;by_cases hk:k < l.length
  ·rw[List.getElem?_append_left hk] at hy;exact (piece_w (hP l (by simp)) hy).in (by omega)
  ·rw[List.getElem?_append_right (by omega)] at hy;have:=flatten_g P (o+l.length) N (fun x hx=>hP x (by simp[hx])) (by omega) (k - l.length) y hy;rw[show o+k=o+l.length+(k - l.length) by omega];exact this
theorem code_g {b:Bool} {I:List (Int × Int)} (h:codeOk b I):∀ k y,I[k]?=some y→insG I.length k y:=by
 obtain⟨P,S,q,r,l,hI,h1,h5,hP,hS,hq,hr,hl⟩:=h;intro k y hy;have hlen:I.length=P.flatten.length+S.length+2:=by rw[hI];simp;omega
 generalize I.length=N at *;rw[hI,List.append_assoc] at hy;clear hI;by_cases hk:k < P.flatten.length
 ·rw[List.getElem?_append_left hk] at hy;have:=flatten_g P 0 N hP (by omega) k y hy
  rwa [Nat.zero_add] at this
 rw[List.getElem?_append_right (by omega)] at hy;generalize k - P.flatten.length=k2 at *;clear hP h1 h5 hk;by_cases hk2:k2 < S.length
 ·rw[List.getElem?_append_left hk2] at hy;rcases hS with rfl | rfl
  ·simp at hk2
  ·simp only[List.length_cons,List.length_nil] at hk2;rcases (show k2=0∨k2=1 by omega) with e | e
   ·rw[e] at hy;obtain rfl:(wr8 3,wr8 0)=y:=by simpa using hy
    rw[wr8_id (x:=3) (by omega) (by omega)];exact⟨w_n (by omega),fun e=>by simp only at e;omega⟩
   ·rw[e] at hy;obtain rfl:(wr8 13,wr8 4)=y:=by simpa using hy
    rw[wr8_id (x:=13) (by omega) (by omega),wr8_id (x:=4) (by omega) (by omega)];exact⟨w_s (by omega) (by omega) (by omega),fun e=>by simp only at e;omega⟩
 rw[List.getElem?_append_right (by omega)] at hy;have hk3:=(List.getElem?_eq_some_iff.1 hy).1;simp only[List.length_cons,List.length_nil] at hk3;generalize k2 - S.length=k3 at *;clear hS hk2 hlen;rcases (show k3=0∨k3=1 by omega) with e | e
 ·rw[e] at hy;obtain rfl:(wr8 q,wr8 r)=y:=by simpa using hy
  rw[wr8_id (x:=q) (by omega) (by omega),wr8_id (x:=r) (by omega) (by omega)];by_cases q0:q=0
  ·exact⟨w_t (by omega) (by omega),fun e=>by simp only at e;omega⟩
  ·exact⟨w_n (by omega),fun e=>by simp only at e;omega⟩
 ·rw[e] at hy;obtain rfl:(wr8 l,wr8 0)=y:=by simpa using hy
  rw[wr8_id (x:=l) (by omega) (by omega),wr8_id (x:=0) (by omega) (by omega)];exact⟨w_n (by omega),fun e=>by simp only at e;omega⟩
theorem flat_at:∀ (I:List (Int × Int)) (k:Nat) (y:Int × Int),I[k]?=some y→byAt (flat I) (2*k)=y.1∧byAt (flat I) (2*k+1)=y.2
 | [],k,y,h=>by simp at h
 | x :: I,0,y,h=>by
  obtain rfl:x=y:=by simpa using h
  exact⟨rfl,rfl⟩
 | x :: I,k+1,y,h=>by
  have:=flat_at I k y (by simpa using h);rw[show 2*(k+1)=2*k+1+1 by omega,show 2*k+1+1+1=(2*k+1)+2 by omega];exact this
theorem lits_k {c:Int} {X:List (Int × Int)} (h:litsOk c X):X.length=14∧(∀ i:Nat,i < 4→(litAt X i).1=3)∧(∀ i:Nat,4≤i→i < 10→(litAt X i).1=5)∧(∀ i:Nat,10≤i→i < 12→(litAt X i).1=6∧1 < (litAt X i).2)∧(∀ i:Nat,12≤i→i < 14→(litAt X i).1=7):=by
 obtain⟨A,B,rfl,hA,hB,h1,h2⟩:=h;have hS:(sels 6).length=6:=by decide
 match A,hA,B,hB with
 | [a,b,c,d],_,[e,f],_ =>
  refine⟨by simp[hS],fun i hi=>?_,fun i hi hj=>?_,fun i hi hj=>?_,fun i hi hj=>?_⟩
  ·rcases (show i=0∨i=1∨i=2∨i=3 by omega) with rfl | rfl | rfl | rfl
   ·exact (h1 a (by simp)).1
   ·exact (h1 b (by simp)).1
   ·exact (h1 c (by simp)).1
   ·exact (h1 d (by simp)).1
  ·rcases (show i=4∨i=5∨i=6∨i=7∨i=8∨i=9 by omega) with rfl | rfl | rfl | rfl | rfl | rfl <;> rfl
  ·rcases (show i=10∨i=11 by omega) with rfl | rfl
   ·obtain⟨p,q,_⟩:=h2 e (by simp);exact⟨p,by have:(litAt ([a,b,c,d]++sels 6++[e,f]++[(7,7),(7,8)]) ((10:Nat):Int))=e:=rfl;rw[this];omega⟩
   ·obtain⟨p,q,_⟩:=h2 f (by simp);exact⟨p,by have:(litAt ([a,b,c,d]++sels 6++[e,f]++[(7,7),(7,8)]) ((11:Nat):Int))=f:=rfl;rw[this];omega⟩
  ·rcases (show i=12∨i=13 by omega) with rfl | rfl <;> rfl
theorem has_at {X:List (Int × Int)} {i kind:Int} (h0:0≤i) (h1:i < (X.length:Int)) (h:(litAt X i).1=kind):hasLit X i kind=true:=by
 unfold hasLit;rw[decide_eq_true h1,decide_eq_true h];rfl
theorem ins_ok {c:Int} {m:MethA} (hl:litsOk c m.lits) (ht:m.temps=2) (ha:0≤m.args) {k N:Nat} (hN:m.code.length=2*N) {y:Int × Int} (hy:0≤y.2) (h:insG N k y):insR m ((2*k:Nat):Int) y.1 y.2=true:=by
 obtain⟨n14,l3,l5,l6,l7⟩:=lits_k hl;obtain⟨h,hj⟩:=h;obtain⟨op,arg⟩:=y;unfold insW at h;simp only at h hj hy ⊢;obtain⟨i,rfl⟩:∃ i:Nat,arg=i:=⟨arg.toNat,by omega⟩
 have hh3:i < 4→hasLit m.lits (i:Int) 3=true:=fun g=>has_at (by omega) (by omega) (l3 i g);have hh5:4≤i→i < 10→hasLit m.lits (i:Int) 5=true:=fun g g2=>has_at (by omega) (by omega) (l5 i g g2);have hh6:10≤i→i < 12→hasLit m.lits (i:Int) 6=true∧1 < (litAt m.lits (i:Int)).2:=fun g g2=>⟨has_at (by omega) (by omega) (l6 i g g2).1,(l6 i g g2).2⟩
 have hh7:12≤i→i < 14→hasLit m.lits (i:Int) 7=true:=fun g g2=>has_at (by omega) (by omega) (l7 i g g2);unfold insR;by_cases e0:op=0∨op=10
 ·rw[if_pos e0];exact decide_eq_true (by omega)
 rw[if_neg e0];by_cases e1:op=1∨op=11
 ·rw[if_pos e1];exact decide_eq_true (by omega)
 rw[if_neg e1];by_cases e2:op=2
 ·rw[if_pos e2];exact hh3 (by omega)
 rw[if_neg e2];by_cases e3:op=12∨op=13
 ·rw[if_pos e3];exact hh5 (by omega) (by omega)
 rw[if_neg e3];by_cases e4:op=20
 ·rw[if_pos e4,(hh6 (by omega) (by omega)).1];exact decide_eq_true (hh6 (by omega) (by omega)).2
 rw[if_neg e4];by_cases e5:op=18
 ·rw[if_pos e5];exact hh7 (by omega) (by omega)
 rw[if_neg e5];by_cases e6:op=15∨op=17
 ·rw[if_pos e6,hN];exact decide_eq_true (by have:=hj (by omega);omega)
 rw[if_neg e6];by_cases e7:op=16
 ·omega
 rw[if_neg e7];by_cases e8:op=21
 ·rw[if_pos e8];exact decide_eq_true (by omega)
 rw[if_neg e8];exact decide_eq_true (by omega)
theorem insF_ok {m:MethA} {N:Nat}:∀ (f k:Nat),f+k=N→(∀ j,k≤j→j < N→insR m ((2*j:Nat):Int) (byAt m.code (2*j)) (byAt m.code (2*j+1))=true)→insF m f (2*k)=true
 | 0,k,_,_=>rfl
 | f+1,k,e,h=>by
  rw[insF,h k (Nat.le_refl _) (by omega),Bool.true_and,show 2*k+2=2*(k+1) by omega];exact insF_ok f (k+1) (by omega) (fun j hj hj2=>h j (by omega) hj2)
theorem meth_ok {c:Int} {j:Nat} {m:MethA} (h:methOk c j m) (hj:j < 9) {nn nc nm:Nat} (hn:nn=6) (hc:c=(nc:Int)) (hm:nm=9):metR m nn nc nm=0:=by
 obtain⟨I,hI,eI⟩:=h.code;have hfl:m.code.length=2*I.length:=by rw[eI,flat_len]
 obtain⟨n14,l3,l5,l6,l7⟩:=lits_k h.lits;have ht:=h.temps;have ha:0≤m.args∧m.args≤2:=by
  rw[h.args]
  split
  ·exact argOf_le j
  ·split <;> omega
 have hex:=hI;obtain⟨P,S,q,r,l,eP,h1,h5,hP,hS,hq,hr,hl⟩:=hex;have hPl:=flatten_len P hP;have hSl:S.length≤2:=by rcases hS with rfl | rfl <;> simp
 have hIl:I.length=P.flatten.length+S.length+2:=by rw[eP];simp;omega
 have hlast:I[I.length - 1]?=some (wr8 l,wr8 0):=by
  rw[show I.length - 1=P.flatten.length+S.length+1 by omega,eP,List.getElem?_append_right (by rw[List.length_append];omega),List.length_append,show P.flatten.length+S.length+1 - (P.flatten.length+S.length)=1 by omega];rfl
 have hby:=flat_at I _ _ hlast;rw[← eI,show 2*(I.length - 1)=m.code.length - 2 by omega,show wr8 l=l from wr8_id (by omega) (by omega)] at hby;unfold metR;rw[if_neg (by omega),if_neg (by omega),if_neg (by rw[hby.1];omega)];have hall:m.lits.all (fun x=>litR x nn nc nm)=true:=by
  rw[List.all_eq_true];intro x hx;obtain⟨A,B,e,hA,hB,g1,g2⟩:=h.lits;rw[e] at hx;simp only[List.mem_append] at hx;rcases hx with ((hx | hx) | hx) | hx
  ·obtain⟨p,p2⟩:=g1 x hx;obtain⟨a,b⟩:=x;simp only at p p2;subst p;show num30 b=true;unfold num30;rcases p2 with rfl | rfl | rfl | rfl | rfl <;> decide
  ·unfold sels at hx;obtain⟨i,hi,rfl⟩:=List.mem_map.1 hx;have:=List.mem_range.1 hi;refine (lit_sel _ _ _ _).trans ?_;unfold inN;rw[decide_eq_true (by omega),decide_eq_true (by omega)];rfl
  ·obtain⟨p,p2,p3⟩:=g2 x hx;obtain⟨a,b⟩:=x;simp only at p p2 p3;subst p;refine (lit_cls _ _ _ _).trans ?_;unfold inN;rw[decide_eq_true (by omega),decide_eq_true (by omega)];rfl
  ·simp only[List.mem_cons,List.not_mem_nil,or_false] at hx;subst hm;rcases hx with rfl | rfl <;> rfl
 rw[hall,if_neg (by decide)];have hins:insF m (m.code.length / 2) 0=true:=by
  rw[show m.code.length / 2=I.length by omega];refine insF_ok (N:=I.length) I.length 0 (by omega) (fun k _ hk=>?_);obtain⟨y,hy⟩:∃ y,I[k]?=some y:=⟨I[k],by simp⟩
  obtain⟨e1,e2⟩:=flat_at I k y hy;rw[← eI] at e1 e2;rw[e1,e2];exact ins_ok h.lits ht ha.1 hfl ((codeOk_by hI y (List.mem_of_getElem? hy)).2.1) (code_g hI k y hy)
 rw[hins,if_neg (by decide)]
theorem first_skip:∀ (A B:List Int),(∀ x∈A,x=0)→firstE (A++B)=firstE B
 | [],B,_=>rfl
 | x :: A,B,h=>by
  rw[List.cons_append,firstE,if_pos (h x (by simp))];exact first_skip A B (fun y hy=>h y (by simp[hy]))
theorem first_one (x:Int):firstE [x]=x:=by
 unfold firstE
 split
 ·next e=>rw[e];rfl
 ·rfl
def ups:Nat→Nat→List (List Nat)
 | 0,_=>[[]]
 | f+1,k=>ups f (k+1)++(ups f (k+1)).map (k :: ·)
theorem ups_mem:∀ (f k:Nat) (S:List Nat),S.Pairwise (· < ·)→(∀ s∈S,k≤s∧s < k+f)→S∈ups f k
 | 0,k,[],_,_=>by simp[ups]
 | 0,k,s :: S,_,h=>by have:=h s (by simp);omega
 | f+1,k,[],_,_=>by
  unfold ups;exact List.mem_append_left _ (ups_mem f (k+1) [] List.Pairwise.nil (by simp))
 | f+1,k,s :: S,hp,h=>by
  unfold ups;have hs:=h s (by simp);have hS:=List.pairwise_cons.1 hp;by_cases e:s=k
  ·subst e;exact List.mem_append_right _ (List.mem_map_of_mem (ups_mem f (s+1) S hS.2 (fun x hx=>by have:=hS.1 x hx;have:=h x (by simp[hx]);omega)))
  ·refine List.mem_append_left _ (ups_mem f (k+1) (s :: S) hp (fun x hx=>?_));have h2:=h x hx;rcases List.mem_cons.1 hx with e1 | e1
   ·subst e1;omega
   ·have:=hS.1 x e1;omega
theorem ups_fit:∀ S∈ups 6 0,eBinds (S.map (fun (s:Nat)=>((s:Int),(s:Int))))=0:=by decide +kernel
theorem bnd_fit {B:List (Int × Int)} (h:bndSub 6 B):eBinds B=0:=by
 obtain⟨S,h1,h2,rfl⟩:=h;exact ups_fit S (ups_mem 6 0 S h1 (fun s hs=>by have:=h2 s hs;omega))
theorem name_args:∀ s:Nat,s < 6→argsR (nmAt nameL (s:Int))=argOf s:=by decide +kernel
theorem name_ok:namesB nameL=true:=by decide +kernel
theorem eArgs_zero {U:UnitA}:∀ (C:List ClassA),(∀ c∈C,∀ b∈c.binds,eArg U b=0)→∀ x∈eArgs U C,x=0
 | [],_,x,hx=>by simp[eArgs] at hx
 | c :: C,h,x,hx=>by
  unfold eArgs at hx;rcases List.mem_append.1 hx with hx | hx
  ·obtain⟨b,hb,rfl⟩:=List.mem_map.1 hx;exact h c (by simp) b hb
  ·exact eArgs_zero C (fun c hc=>h c (by simp[hc])) x hx
structure TapeM (T U:UnitA):Prop where
 ta:TapeU T
 n:U.names=T.names
 c:U.classes=T.classes
 m:U.methods=T.methods
 o1:1≤U.objects.length
 o2:U.objects.length≤40
 ob:∀ x∈U.objects,objB x U.classes U.objects.length=true
theorem TapeM.unit {T U:UnitA} (h:TapeM T U):unitR U=mainE U:=by
 have hn:U.names=nameL:=h.n.trans h.ta.names;have hml:U.methods.length=9:=by rw[h.m];exact h.ta.ml
 have hlong:longB U=false:=by
  unfold longB;rw[hn,hml];rw[decide_eq_false (show ¬ 48 < nameL.length by decide),decide_eq_false (show ¬ 9 < 1 by decide),decide_eq_false (show ¬ 32 < 9 by decide),decide_eq_false (show ¬ U.objects.length < 1 by have:=h.o1;omega),decide_eq_false (show ¬ 40 < U.objects.length by have:=h.o2;omega)];rfl
 have hsh:shapeR U.classes U.names.length U.methods.length=0:=by
  rw[hn,hml,h.c];exact tape_right h.ta.tl (by have:=h.ta.cl0;omega)
 unfold unitR;rw[firstE,if_pos (by rw[hlong];rfl),firstE,if_pos (by rw[hn,name_ok];rfl),firstE,if_pos hsh];unfold restC;rw[List.drop_zero,first_skip _ _ (fun x hx=>?_)]
 ·unfold restM;rw[List.drop_zero,first_skip _ _ (fun x hx=>?_)]
  ·unfold restA;rw[List.drop_zero,first_skip _ _ (eArgs_zero _ (fun c hc b hb=>?_))]
   ·unfold restO;rw[List.drop_zero,first_skip _ _ (fun x hx=>?_),first_one];obtain⟨y,hy,rfl⟩:=List.mem_map.1 hx;rw[if_pos (h.ob y hy)]
   ·rw[h.c] at hc;obtain⟨k,hk⟩:=List.getElem?_of_mem hc;obtain⟨_,_,S,_,h2,e⟩:=h.ta.cls k c hk;rw[e] at hb;obtain⟨s,hs,rfl⟩:=List.mem_map.1 hb;have hs6:=h2 s hs;unfold eArg;rw[if_pos];simp only;rw[hn,name_args s hs6];obtain⟨x,hx⟩:∃ x,T.methods[s]?=some x:=⟨T.methods[s]'(by rw[h.ta.ml];omega),by simp⟩
    unfold agAt;rw[h.m,Int.toNat_natCast,hx];simp only;rw[(h.ta.mts s x hx).args,if_pos hs6]
  ·obtain⟨y,hy,rfl⟩:=List.mem_map.1 hx;rw[h.m] at hy;obtain⟨k,hk⟩:=List.getElem?_of_mem hy;have hk9:=(List.getElem?_eq_some_iff.1 hk).1;rw[h.ta.ml] at hk9;exact meth_ok (h.ta.mts k y hk) hk9 (by rw[hn];decide) (by rw[h.c]) hml
 ·obtain⟨y,hy,rfl⟩:=List.mem_map.1 hx;rw[h.c] at hy;obtain⟨k,hk⟩:=List.getElem?_of_mem hy;exact bnd_fit (h.ta.cls k y hk).2.2
theorem val_ok {N:Nat} {v:Int × Int} (h:valOk N v):fldOk v N=true:=by
 obtain⟨a,b⟩:=v;rcases h with h | h | h | ⟨h,h1,h2⟩ | ⟨h,h1,h2⟩
 ·cases h;rfl
 ·cases h;rfl
 ·cases h;rfl
 ·simp only at h h1 h2;subst h;rw[fld_3];unfold num30;rw[decide_eq_true (by omega),decide_eq_true (by omega)];rfl
 ·simp only at h h1 h2;subst h;rw[fld_4];unfold inN;rw[decide_eq_true (by omega),decide_eq_true (by omega)];rfl
theorem obj_len {T:UnitA} (h:TapeU T) {k:Nat} {x:ObjA} (hx:T.objects[k]?=some x):x.flds.length≤8∧1≤x.cls∧x.cls < (T.classes.length:Int)∧(1 < x.cls→(x.flds.length:Int)=clsF T.classes x.cls):=by
 have hc0:=h.cl0;have hc1:=h.cl1;rcases (h.obs k x hx).cls with ⟨h2,d,hd,e⟩ | ⟨_,e,h8⟩
 ·obtain⟨j,hj⟩:∃ j:Nat,x.cls=j:=⟨x.cls.toNat,by omega⟩
  rw[hj,Int.toNat_natCast] at hd;have hjl:=(List.getElem?_eq_some_iff.1 hd).1;have hf:=((h.cls j d hd).1.fld (by omega))
  refine⟨by omega,by omega,by omega,fun _=>?_⟩;rw[hj,clsF_at hd];exact e
 ·exact⟨h8,by omega,by omega,fun g=>by omega⟩
theorem obj_ok {T:UnitA} (h:TapeU T) {x:ObjA} (hx:x∈T.objects):objB x T.classes T.objects.length=true:=by
 obtain⟨k,hk⟩:=List.getElem?_of_mem hx;obtain⟨h8,g1,g2,g3⟩:=obj_len h hk;rw[objB_yes (head_ok (by omega) (fun g=>g.2 (g3 g.1)) (by omega)),List.all_eq_true];exact fun v hv=>val_ok ((h.obs k x hk).flds v hv)
theorem TapeU.m {T:UnitA} (h:TapeU T):TapeM T T:=⟨h,rfl,rfl,rfl,h.ob0,by have:=h.ob1;omega,fun x hx=>obj_ok h hx⟩
theorem TapeU.setm {T:UnitA} (h:TapeU T) (k:Int):TapeM T { T with main:=k }:=⟨h,rfl,rfl,rfl,h.ob0,by have:=h.ob1;simp only;omega,fun x hx=>obj_ok h hx⟩
theorem main_six {T U:UnitA} (h:TapeU T) (hm:U.methods=T.methods) (h6:U.main=6):mainE U=0:=by
 obtain⟨x,hx⟩:∃ x,T.methods[6]?=some x:=⟨T.methods[6]'(by rw[h.ml];omega),by simp⟩
 unfold mainE;rw[if_pos];rw[hm,h6,h.ml];refine⟨by decide,by decide,?_⟩;unfold agAt;rw[show (6:Int).toNat=6 from rfl,hx];simp only;rw[(h.mts 6 x hx).args];rfl
theorem TapeU.right {T:UnitA} (h:TapeU T):unitR T=0:=h.m.unit.trans (main_six h rfl h.main)
theorem meth_size {c:Int} {j:Nat} {x:MethA} (h:methOk c j x):x.code.length≤300∧x.lits.length≤20:=by
 refine⟨?_,?_⟩
 ·obtain⟨I,⟨⟨P,S,q,r,l,hI,h1,h5,hP,hS,_⟩⟩,e⟩:=h.code;have hfl:=flatten_len P hP;rw[e,flat_len,hI];have hSl:S.length≤2:=by
   rcases hS with rfl | rfl <;> simp
  simp only[List.length_append,List.length_cons,List.length_nil];omega
 ·have:=(lits_k h.lits).1;omega
theorem TapeU.zb {T:UnitA} (h:TapeU T):Zb 300 T:=by
 have hc0:=h.cl0;have hc1:=h.cl1;have ho0:=h.ob0;have ho1:=h.ob1;have hm:=h.ml;refine⟨by rw[h.names];decide,by omega,by omega,by omega,by omega,by omega,by omega,fun x hx=>?_,fun x hx=>?_,fun x hx=>?_,by rw[h.names];decide,fun x hx=>?_⟩
 ·obtain⟨k,hk⟩:=List.getElem?_of_mem hx;have:=(h.cls k x hk).2.2.len;omega
 ·obtain⟨k,hk⟩:=List.getElem?_of_mem hx;have:=meth_size (h.mts k x hk);omega
 ·obtain⟨k,hk⟩:=List.getElem?_of_mem hx;have:=(obj_len h hk).1;omega
 ·obtain⟨k,hk⟩:=List.getElem?_of_mem hx;have hk5:k < 5:=by have:=(List.getElem?_eq_some_iff.1 hk).1;omega
  have hc:=(h.cls k x hk).1;rcases (show k=0∨k=1∨2≤k by omega) with rfl | rfl | h2
  ·rw[(hc.z rfl).1];decide
  ·rw[(hc.o rfl).1];decide
  ·rw[hc.nm h2];rcases (show k=2∨k=3∨k=4 by omega) with rfl | rfl | rfl <;> decide
structure UQ (w:World) (q:Nat) (x0 x1 x2 x3 x4:Value) (U:UnitA):Prop where
 c0:w.cell? ⟨q,0,none⟩=some x0
 c1:w.cell? ⟨q,1,none⟩=some x1
 c2:w.cell? ⟨q,2,none⟩=some x2
 c3:w.cell? ⟨q,3,none⟩=some x3
 c4:w.cell? ⟨q,4,none⟩=some x4
 un:UnK w (.agg #[x0,x1,x2,x3,x4]) U
theorem UQ.up {w w1:World} {q:Nat} {x0 x1 x2 x3 x4:Value} {U:UnitA} (h:UQ w q x0 x1 x2 x3 x4 U) (b:Below w.heap.size w w1):UQ w1 q x0 x1 x2 x3 x4 U :=
 ⟨cell_up b h.c0,cell_up b h.c1,cell_up b h.c2,cell_up b h.c3,cell_up b h.c4,h.un.up b⟩
theorem UQ.born {w:World} {x0 x1 x2 x3 x4:Value} {U:UnitA} (h:UnK w (.agg #[x0,x1,x2,x3,x4]) U):UQ (w.alloc (.cells #[x0,x1,x2,x3,x4] 27)) w.heap.size x0 x1 x2 x3 x4 U:=by
 have e:=heap_alloc_new w (.cells #[x0,x1,x2,x3,x4] 27);exact⟨cells_at e rfl,cells_at e rfl,cells_at e rfl,cells_at e rfl,cells_at e rfl,h.up ((Below.refl w.heap.size w).alloc (Nat.le_refl _) _)⟩
theorem UQ.five {w:World} {q:Nat} {x0 x1 x2 x3 x4:Value} {U:UnitA} (h:UQ w q x0 x1 x2 x3 x4 U):w.cell? ⟨q,0,none⟩=some x0∧w.cell? ⟨q,1,none⟩=some x1∧w.cell? ⟨q,2,none⟩=some x2∧w.cell? ⟨q,3,none⟩=some x3∧w.cell? ⟨q,4,none⟩=some x4:=⟨h.c0,h.c1,h.c2,h.c3,h.c4⟩
end Wd
end Go.Proofs.YtgfnelhbdhbklaaGreat
