/- Texts joined: TK, IRB, RPure, RLast, MBase, KB, KC, IRC, IRef0, UNI, KV, UNA, UNB, UNC, SPure, SChain, SRef, SClass. -/
import Derived.Test.YtgfnelhbdhbklaaGreatRows
import Derived.OrdersHeld
import Derived.WalkKit
import Derived.Deep.RegionHeld3
import Derived.Deep.RegionWith
import Derived.KernelRfl
import Derived.Lib.Hide
import Derived.Laws.AppendOwn
import Derived.Laws.CopyRow
import Derived.Laws.IdiomStrings
import Derived.Lib.AppendStr
import Derived.OwnWalk
import Derived.RowKit
import Derived.Laws.OwnMore
import Derived.Deep.Draws
import Derived.Deep.RegionHeld
import Derived.RegionTactic
import Derived.WalkSpells
import Derived.WalkLawsBesides
import Derived.Handy
import Derived.BigQuiet
import Derived.LoopN
import Derived.OneCell
import Derived.Maps.AppendAt
import Derived.Deep.AppendLies
import Derived.Deep.RegionHeldLaw
import Derived.StillTailTactics
import Derived.BigRegion
import Derived.Deep.DeepCutAuto
import Derived.Deep.MidRow
namespace Go.Proofs.YtgfnelhbdhbklaaGreat
open Go.RowKit
namespace Wd
theorem HD {p:Prop}(h:p):Hid p:=Lib.hid h
theorem nA:(∀ {α:Type} (l:List α) (i:Nat) (a:α),l.toArray.setIfInBounds i a=(l.set i a).toArray)∧(∀ {α:Type} (l:List α) (a b:α),(b :: l).set 0 a=a :: l)∧(∀ {α:Type} (l:List α) (i:Nat) (a b:α),(b :: l).set (i+1) a=b :: l.set i a)∧(∀ (a:Act) (d:Nat) (v:Value),a.put (some d) v={a with tmps:=a.tmps.setIfInBounds d v})∧(∀ (a:Act) (v:Value),a.put none v=a) :=
 ⟨fun _ _ _=>List.setIfInBounds_toArray ..,fun _ _ _=>rfl,fun _ _ _ _=>rfl,fun _ _ _=>rfl,fun _ _=>rfl⟩
section
variable {P:Program} {ops:Array Oper} {Q:Exit→Act→World→Prop} {md:Region.Mode} {S:World→Prop}
theorem tr {i:Nat} {oi:Oper} {v:Value} {fuel:Nat} {listed:Array Bool} {a:Act} {w:World} (hy:YieldsIf P ops S oi v a)
  (h:wpAnyH P md ops Q S fuel (listed.setIfInBounds i true) (a.put oi.dst v) w)
  (hi:ops[i]?=some oi:=by rfl) (hs:Region.noSelect ops=true:=by kernel_rfl) (hf:Region.free md ops listed i=true:=by kernel_rfl) (hr:(Region.ready md ops listed).contains i=true:=by kernel_rfl)
  (hQ:∀ c a w,Q (.panic c) (a.put oi.dst v) w→Q (.panic c) a w:=by exact fun _ _ _ h=>h) (hS:S w:=by assumption):wpAnyH P md ops Q S (fuel+1) listed a w :=
 wpAnyH_take hi hs hf hr hQ hy hS h
theorem tu {i:Nat} {oi:Oper} {fuel:Nat} {listed:Array Bool} {a:Act} {w:World}
  (h:wpAnyH P md ops Q S fuel (listed.setIfInBounds i true) (a.put oi.dst undef) w)
  (hi:ops[i]?=some oi:=by rfl) (hs:Region.noSelect ops=true:=by kernel_rfl) (hf:Region.free md ops listed i=true:=by kernel_rfl) (hr:(Region.ready md ops listed).contains i=true:=by kernel_rfl)
  (hQ:∀ c a w,Q (.panic c) (a.put oi.dst undef) w→Q (.panic c) a w:=by exact fun _ _ _ h=>h) (hw:Region.wanted oi (yielded ops a.tmps)=false:=by rfl) (hS:S w:=by assumption):wpAnyH P md ops Q S (fuel+1) listed a w :=
 wpAnyH_take hi hs hf hr hQ (Or.inr ⟨hw,rfl⟩) hS h
theorem tk {i:Nat} {oi:Oper} {v:Value} {fuel:Nat} {listed:Array Bool} {a:Act} {w:World}
  (h:wpAnyH P md ops Q S fuel (listed.setIfInBounds i true) (a.put oi.dst v) w)
  (hi:ops[i]?=some oi:=by rfl) (hs:Region.noSelect ops=true:=by kernel_rfl) (hf:Region.free md ops listed i=true:=by kernel_rfl) (hr:(Region.ready md ops listed).contains i=true:=by kernel_rfl)
  (hw:Region.wanted oi (yielded ops a.tmps)=true:=by rfl)
  (hy:∀ w,S w→(execOp a.eval oi).run P w=.ok (.value v) w:=by (intro w hSw;(try dsimp only at hSw);go_simp <;> with_reducible rfl))
  (hQ:∀ c a w,Q (.panic c) (a.put oi.dst v) w→Q (.panic c) a w:=by exact fun _ _ _ h=>h) (hS:S w:=by assumption):wpAnyH P md ops Q S (fuel+1) listed a w :=
 wpAnyH_take hi hs hf hr hQ (Or.inl ⟨hw,hy⟩) hS h
end
end Wd
end Go.Proofs.YtgfnelhbdhbklaaGreat
namespace Go.Proofs.YtgfnelhbdhbklaaGreat
open Go.RowKit
set_option linter.unusedVariables false
namespace Wd
section
variable {P:Program}
theorem run_storeCells_mk (g o:Nat) (t:TypeId) (fr:Nat × Nat):∀ (vs:List Value) (i:Nat) (cur:Array Value) (w:World),w.heap[g]?=some (.cells cur t fr)→(cur.size≤fr.1∨fr.2=0)→o+i+vs.length≤cur.size→(∀ v∈vs,v.oneCell'=true) →
  (storeCells ⟨g,o,none⟩ vs i).run P w=.ok () (w.setRow g (cur.toList.take (o+i)++vs++cur.toList.drop (o+i+vs.length)).toArray)
 | [],i,cur,w,hg,_,_,_=>by
  simp only[storeCells,List.append_nil,List.length_nil,Nat.add_zero,List.take_append_drop,Array.toArray_toList];rw[setRow_self w g cur t fr hg];rfl
 | v :: rest,i,cur,w,hg,hf,hl,h1=>by
  have hi:o+i < cur.size:=by simp at hl;omega
  have hadd:(⟨g,o,none⟩:Addr).add i=⟨g,o+i,none⟩:=by unfold Addr.add;split <;> simp_all
  have hcell:w.cell? ⟨g,o+i,none⟩=some cur[o+i]:=by simp[World.cell?,hg,hi]
  have hfro:w.frozen? ⟨g,o+i,none⟩=false:=by
   simp only[World.frozen?,hg];simp;omega
  have hst:(store ((⟨g,o,none⟩:Addr).add i) v).run P w=.ok () (w.setRow g (cur.setIfInBounds (o+i) v)):=by
   rw[hadd,run_store P w _ v _ (h1 v (by simp)),hcell];simp[hfro,setCell_eq_setRow w g (o+i) cur t fr v hg]
  have ih:=run_storeCells_mk g o t fr rest (i+1) (cur.setIfInBounds (o+i) v) (w.setRow g (cur.setIfInBounds (o+i) v)) (setRow_heap w g cur _ t _ hg) (by simpa using hf) (by simp at hl ⊢;omega) (fun x hx=>h1 x (by simp[hx]));simp only[storeCells,Sem.run_bind,hst,Result.andThen_ok,ih,setRow_setRow]
  congr 3
  have e:=list_seg_step cur.toList (o+i) v rest (by simp at hl ⊢;omega);simpa [Array.toList_setIfInBounds,Nat.add_assoc] using e
structure RB (w:World) (base:Nat) (e:TypeId) (v:Value) (xs:List Value):Prop where
 mk ::
 ex:∃ g cap cur fr,v=.slice (some ⟨g,0,none⟩) xs.length cap∧base≤g∧w.heap[g]?=some (.cells cur e fr)∧(cur.size≤fr.1∨fr.2=0)∧xs.length≤cap∧cap≤maxLen∧cur.size=cap∧cur.toList.take xs.length=xs
theorem RB.cells {w:World} {base g n cap:Nat} {e:TypeId} {xs:List Value} (h:RB w base e (.slice (some ⟨g,0,none⟩) n cap) xs):∀ j u,xs[j]?=some u→w.cell? ((⟨g,0,none⟩:Addr).add j)=some u:=by
 obtain⟨g',cap',cur,fr,e1,_,hg,_,_,_,_,ht⟩:=h.ex;cases e1;intro j u hj;have hadd:(⟨g,0,none⟩:Addr).add j=⟨g,j,none⟩:=by unfold Addr.add;split <;> simp_all
 rw[hadd];have hjl:=(List.getElem?_eq_some_iff.1 hj).1;have:cur.toList[j]?=some u:=by
  rw[← ht,List.getElem?_take] at hj;simpa [hjl] using hj
 simp only[World.cell?,hg];simpa using this
theorem RB.lt {w:World} {base:Nat} {e:TypeId} {v:Value} {xs:List Value} (h:RB w base e v xs):∀ k,v.ownBlock=some k→base≤k∧k < w.heap.size:=by
 obtain⟨g,cap,cur,fr,rfl,hb,hg,_⟩:=h.ex;intro k hk;have e1:g=k:=by simpa [Value.ownBlock] using hk
 subst e1;exact⟨hb,(Array.getElem?_eq_some_iff.1 hg).1⟩
theorem RB.kept {w w':World} {base:Nat} {e:TypeId} {v:Value} {xs:List Value} (h:RB w base e v xs) (hk:∀ k,v.ownBlock=some k→w'.heap[k]?=w.heap[k]?):RB w' base e v xs:=by
 obtain⟨g,cap,cur,fr,rfl,hb,hg,r⟩:=h.ex;exact⟨g,cap,cur,fr,rfl,hb,(hk g rfl).trans hg,r⟩
variable (w:World)
theorem room_mk (t ty e:TypeId) (i:TypeInfo) (ht:P.underlying t=some (.slice e)) (hi:P.info? e=some i) (hs1:i.size=1)
  (g sLen sCap:Nat) (cur:Array Value) (fr:Nat × Nat) (hg:w.heap[g]?=some (.cells cur e fr)) (hf:cur.size≤fr.1∨fr.2=0)
  (a:Addr) (m c:Nat) (news:List Value) (hl:news.length=m) (hnews:∀ j u,news[j]?=some u→w.cell? (a.add j)=some u) (h1:∀ u∈news,u.oneCell'=true)
  (hroom:sLen+m≤sCap) (hfit:sLen+news.length≤cur.size) :
  (Builtin.append_ #[t,t] ty #[.slice (some ⟨g,0,none⟩) sLen sCap,.slice (some a) m c]).run P w =
   .ok (.slice (some ⟨g,0,none⟩) (sLen+m) sCap) (w.setRow g (cur.toList.take sLen++news++cur.toList.drop (sLen+news.length)).toArray):=by
 have hfc:=run_firstCells_some (P:=P) w i.size m a m c news (by rw[hs1,Nat.mul_one];exact hl) hnews;have hst:=run_storeCells_mk (P:=P) g sLen e fr news 0 cur w hg hf (by simpa using hfit) h1;simp only[Nat.add_zero] at hst;rw[hs1] at hfc;simp[Builtin.append_,run_underlying ht,sizeOf,typeInfo,hi,hs1,Builtin.lenOf,hroom,hfc,Addr.add_lit,hst]
theorem room_str_mk (t u ty e:TypeId) (i:TypeInfo) (ht:P.underlying t=some (.slice e)) (hu:P.underlying u=some .string) (hi:P.info? e=some i) (hs1:i.size=1)
  (g sLen sCap:Nat) (cur:Array Value) (fr:Nat × Nat) (hg:w.heap[g]?=some (.cells cur e fr)) (hf:cur.size≤fr.1∨fr.2=0) (s:ByteArray)
  (hroom:sLen+s.size≤sCap) (hfit:sLen+s.size≤cur.size) :
  (Builtin.append_ #[t,u] ty #[.slice (some ⟨g,0,none⟩) sLen sCap,.string s]).run P w =
   .ok (.slice (some ⟨g,0,none⟩) (sLen+s.size) sCap) (w.setRow g (cur.toList.take sLen++Lib.strCells s++cur.toList.drop (sLen+s.size)).toArray):=by
 have hfc:=Lib.run_firstCells_string (P:=P) w 1 s;have hst:=run_storeCells_mk (P:=P) g sLen e fr (Lib.strCells s) 0 cur w hg hf (by simpa [Lib.strCells_length] using hfit) (Lib.strCells_oneCell s);simp only[Nat.add_zero,Lib.strCells_length] at hst;simp[Builtin.append_,run_underlying ht,run_underlying hu,sizeOf,typeInfo,hi,hs1,Builtin.lenOf,hroom,hfc,Addr.add_lit,hst]
theorem grown_mk (base:Nat) (e:TypeId) (z:Value) (hz1:z.cells.size=1) (xs news:List Value) (hbase:base≤w.heap.size) (h63:xs.length+news.length≤maxLen) (old:Nat) (row:Option Nat) :
  RB (w.drew.alloc (.cells (xs.toArray++news.toArray++Builtin.zeroCells z.cells (grownCap w (xs.length+news.length) old e - (xs.length+news.length))) e)) base e
    (.slice (some ⟨w.heap.size,0,none⟩) (xs.length+news.length) (grownCap w (xs.length+news.length) old e)) (xs++news) ∧
   w.grownBy (w.drew.alloc (.cells (xs.toArray++news.toArray++Builtin.zeroCells z.cells (grownCap w (xs.length+news.length) old e - (xs.length+news.length))) e)) row:=by
 have hge:=grownCap_ge w (xs.length+news.length) old e;have hcm:grownCap w (xs.length+news.length) old e≤maxLen:=grownCap_le_maxLen w (xs.length+news.length) old e h63;refine⟨⟨w.heap.size,_,_,(0,0),by rw[List.length_append],hbase,heap_alloc_new w.drew _,Or.inr rfl,by rw[List.length_append];exact hge,hcm,?_,?_⟩,⟨rfl,rfl,rfl,by simp,fun k hk _=>heap_alloc_old w.drew _ hk⟩⟩
 ·simp only[Array.size_append,List.size_toArray,size_zeroCells,hz1];omega
 ·simp only[Array.toList_append,List.append_assoc];rw[← List.append_assoc];exact List.take_left
theorem run_app_rb (base:Nat) (t ty e:TypeId) (i:TypeInfo) (z:Value) (ht:P.underlying t=some (.slice e)) (hi:P.info? e=some i) (hz:i.zero=some z)
  (hsize:i.size=1) (hby:i.bytes=1) (hz1:z.cells.size=1)
  (v:Value) (xs:List Value) (hown:RB w base e v xs)
  (a:Addr) (m c:Nat) (news:List Value) (hl:news.length=m) (hnews:∀ j u,news[j]?=some u→w.cell? (a.add j)=some u) (h1:∀ u∈news,u.oneCell'=true)
  (h63:xs.length+m≤maxLen) (hbytes:xs.length+m≤140737488355328) (hbase:base≤w.heap.size) :
  ∃ v' w',(Builtin.append_ #[t,t] ty #[v,.slice (some a) m c]).run P w=.ok v' w'∧RB w' base e v' (xs++news)∧w.grownBy w' v.ownBlock ∧
   (v'.ownBlock=v.ownBlock∨v'.ownBlock=some w.heap.size):=by
 subst hl;have hown0:=hown;obtain⟨g,cap,cur,fr,rfl,hbg,hg,hfr,hnc,hcm,hcs,htake⟩:=hown.ex;have hsmall:xs.length+news.length≤9223372036854775807:=by simp only[maxLen] at h63;omega
 by_cases hroom:xs.length+news.length≤cap
 ·have hr:=room_mk (P:=P) w t ty e i ht hi hsize g xs.length cap cur fr hg hfr a news.length c news rfl hnews h1 hroom (by omega);refine⟨_,_,hr,⟨g,cap,_,fr,by rw[List.length_append],hbg,setRow_heap w g cur _ e _ hg,?_,by rw[List.length_append];exact hroom,hcm,?_,?_⟩,⟨rfl,rfl,rfl,by simp,fun k _ hk=>setRow_other w g k _ (fun e=>hk (by simp[Value.ownBlock,e]))⟩,Or.inl rfl⟩
  ·rcases hfr with h | h
   ·left;simp only[List.size_toArray,List.length_append,List.length_take,List.length_drop,Array.length_toList];omega
   ·exact Or.inr h
  ·simp only[List.size_toArray,List.length_append,List.length_take,List.length_drop,Array.length_toList];omega
  ·rw[htake];exact List.take_left
 ·have hr:=run_append_grow (P:=P) w t ty e i z ht hi hz ⟨g,0,none⟩ xs.length cap xs (by rw[hsize,Nat.mul_one]) hown0.cells a news.length c news (by rw[hsize,Nat.mul_one]) hnews (by omega) (by omega) (growslice_fits (by omega) (by rw[hby,Nat.mul_one];exact hbytes));have hgr:=grown_mk w base e z hz1 xs news hbase h63 cap (Value.ownBlock (.slice (some ⟨g,0,none⟩) xs.length cap));exact⟨_,_,hr,hgr.1,hgr.2,Or.inr rfl⟩
theorem run_app_rbs (base:Nat) (t u ty e:TypeId) (i:TypeInfo) (ht:P.underlying t=some (.slice e)) (hu:P.underlying u=some .string) (hi:P.info? e=some i) (hz:i.zero=some (.int .u8 0))
  (hsize:i.size=1) (hby:i.bytes=1)
  (v:Value) (xs:List Value) (hown:RB w base e v xs) (s:ByteArray)
  (h63:xs.length+s.size≤maxLen) (hbytes:xs.length+s.size≤140737488355328) (hbase:base≤w.heap.size) :
  ∃ v' w',(Builtin.append_ #[t,u] ty #[v,.string s]).run P w=.ok v' w'∧RB w' base e v' (xs++Lib.strCells s)∧w.grownBy w' v.ownBlock ∧
   (v'.ownBlock=v.ownBlock∨v'.ownBlock=some w.heap.size):=by
 have hown0:=hown;obtain⟨g,cap,cur,fr,rfl,hbg,hg,hfr,hnc,hcm,hcs,htake⟩:=hown.ex;have hsl:=Lib.strCells_length s;have hsmall:xs.length+s.size≤9223372036854775807:=by simp only[maxLen] at h63;omega
 by_cases hroom:xs.length+s.size≤cap
 ·have hr:=room_str_mk (P:=P) w t u ty e i ht hu hi hsize g xs.length cap cur fr hg hfr s hroom (by omega);refine⟨_,_,hr,⟨g,cap,_,fr,by rw[List.length_append,hsl],hbg,setRow_heap w g cur _ e _ hg,?_,by rw[List.length_append,hsl];exact hroom,hcm,?_,?_⟩,⟨rfl,rfl,rfl,by simp,fun k _ hk=>setRow_other w g k _ (fun e=>hk (by simp[Value.ownBlock,e]))⟩,Or.inl rfl⟩
  ·rcases hfr with h | h
   ·left;simp only[List.size_toArray,List.length_append,List.length_take,List.length_drop,Array.length_toList,hsl];omega
   ·exact Or.inr h
  ·simp only[List.size_toArray,List.length_append,List.length_take,List.length_drop,Array.length_toList,hsl];omega
  ·rw[htake];exact List.take_left
 ·have hr:=Lib.run_append_grow_string (P:=P) w t u ty e i (.int .u8 0) ht hu hi hz ⟨g,0,none⟩ xs.length cap xs (by rw[hsize,Nat.mul_one]) hown0.cells s (by omega) (by omega) (by rw[hby];exact growslice_fits (by omega) (by omega));have hgr:=grown_mk w base e (.int .u8 0) rfl xs (Lib.strCells s) hbase (by rw[hsl];exact h63) cap (Value.ownBlock (.slice (some ⟨g,0,none⟩) xs.length cap));rw[hsl] at hgr;exact⟨_,_,hr,hgr.1,hgr.2,Or.inr rfl⟩
theorem rb_conv (base:Nat) (e:TypeId) (s:ByteArray) (hbase:base≤w.heap.size) (hm:s.size≤maxLen) :
  RB (w.drew.alloc (.cells (bytesRow s (grownCap w s.size 0 e)) e ((bytesRow s (grownCap w s.size 0 e)).size,(bytesRow s (grownCap w s.size 0 e)).size+1))) base e (.slice (some ⟨w.heap.size,0,none⟩) s.size (grownCap w s.size 0 e)) (Lib.strCells s):=by
 have hge:=grownCap_ge w s.size 0 e;have hsl:=Lib.strCells_length s;have hz:s.data.size=s.size:=rfl;refine⟨w.heap.size,_,_,_,by rw[hsl],hbase,heap_alloc_new w.drew _,Or.inl (Nat.le_refl _),by rw[hsl];exact hge,grownCap_le_maxLen w s.size 0 e hm,?_,?_⟩
 ·unfold bytesRow;simp only[Array.size_append,Array.size_map,Array.size_replicate];omega
 ·unfold bytesRow;simp only[Array.toList_append,Array.toList_map];have:List.map (fun b:UInt8=>Value.int IntKind.u8 (b.toNat:Int)) s.data.toList=Lib.strCells s:=rfl;rw[this];exact List.take_left
end
def prv (L:List Int) (i:Int):Int:=if i∈L then (L[(L.idxOf i+L.length - 1) % L.length]?).getD 0 else -1
abbrev ints (L:List Int):List Value:=L.map (Value.int .i64)
theorem row_cell {w:World} {e:TypeId} {g n cap:Nat} {L:List Int} (h:w.ownsRow 0 e 1 (.slice (some ⟨g,0,none⟩) n cap) n (ints L)) {k:Nat} {x:Int} (hx:L[k]?=some x):w.cell? ⟨g,k,none⟩=some (.int .i64 x):=by
 have hl:L.length=n:=by have:=h.1;simpa using this
 have hk:=(List.getElem?_eq_some_iff.1 hx).1;rw[h.cellAt k (by omega)];simp[ints,hx]
def SL (w:World) (e:TypeId) (v:Value) (L:List Int):Prop:=w.ownsRow 0 e 1 v L.length (ints L)
theorem SL.cases {w:World} {e:TypeId} {v:Value} {L:List Int} (h:SL w e v L):(v=.slice none 0 0∧L=[])∨∃ g cap,v=.slice (some ⟨g,0,none⟩) L.length cap∧L.length≤cap∧cap≤maxLen∧g < w.heap.size∧w.ownsRow 0 e 1 (.slice (some ⟨g,0,none⟩) L.length cap) L.length (ints L):=by
 rcases h.2 with ⟨rfl,h0⟩ | ⟨g,cap,cur,rfl,_,hh,hle,hm,_⟩
 ·exact Or.inl ⟨rfl,List.length_eq_zero_iff.1 h0⟩
 ·exact Or.inr ⟨g,cap,rfl,hle,hm,(Array.getElem?_eq_some_iff.1 hh).1,h⟩
end Wd
end Go.Proofs.YtgfnelhbdhbklaaGreat
namespace Go.Proofs.YtgfnelhbdhbklaaGreat
namespace Wd
section
variable {P:Program} {ops:Array Oper} {Q:Exit→Act→World→Prop} {md:Region.Mode} {S:World→Prop} {d:Nat}
def LastQ (P:Program) (ops:Array Oper) (Q:Exit→Act→World→Prop) (d:Nat):Exit→Act→World→Prop
 | .normal,a,w=>wpOp P ops Q d (Q .normal) a w
 | e,a,w=>Q e a w
theorem upon_last {o:Oper} {a:Act} {K:Act→World→Prop} {r:Result Next} (h:o.upon P a K (LastQ P ops Q d) r):o.upon P a K Q r:=by
 cases r with
 | ok n w' =>
  cases n
  case enter f args=>exact Calls.mono h fun e w'' he=>by cases e <;> exact he
  all_goals exact h
 | halt x w'=>cases x <;> exact h
theorem wpOp_last {i:Nat} {K:Act→World→Prop} {a:Act} {w:World} (h:wpOp P ops (LastQ P ops Q d) i K a w):wpOp P ops Q i K a w:=by
 cases ho:ops[i]? with
 | none=>simpa [wpOp,ho] using h
 | some o =>
  simp only[wpOp,ho] at h ⊢
  split <;> rename_i hw
  ·rw[if_pos hw] at h;exact h.imp upon_last (fun h=>⟨h.1,h.2⟩)
  ·rwa [if_neg hw] at h
def onward (md:Region.Mode) (ops:Array Oper):Bool :=
 (List.range ops.size).all fun i=>((ops[i]?).map fun o=>o.after.all fun e=>!Region.binds md e || decide (e.on < i)).getD false
def waitsFor (md:Region.Mode) (ops:Array Oper) (k i:Nat):Bool:=((ops[k]?).map fun o=>o.after.any fun e=>Region.binds md e && e.on == i).getD false
def waitsDeep (md:Region.Mode) (ops:Array Oper):Nat→Nat→Nat→Bool
 | 0,k,i=>waitsFor md ops k i
 | f+1,k,i=>waitsDeep md ops f k i || (List.range ops.size).any fun j=>waitsFor md ops k j && waitsDeep md ops f j i
def waitsAll (md:Region.Mode) (ops:Array Oper) (d:Nat):Bool:=(List.range ops.size).all fun i=>i == d || waitsDeep md ops 2 d i
theorem waitsFor_ready {k i:Nat} {listed:Array Bool} (hk:k∈Region.ready md ops listed) (h:waitsFor md ops k i=true):listed.getD i false=true:=by
 obtain⟨_,o,ho,hall⟩:=mem_ready.1 hk;simp only[waitsFor,ho,Option.map_some,Option.getD_some,Array.any_eq_true',Bool.and_eq_true,beq_iff_eq] at h;obtain⟨e,he,hb,rfl⟩:=h;exact hall e he hb
def Whole (md:Region.Mode) (ops:Array Oper) (listed:Array Bool):Prop:=∀ k i,waitsFor md ops k i=true→listed.getD k false=true→listed.getD i false=true
theorem Whole.deep {listed:Array Bool} (h:Whole md ops listed):∀ (f k i:Nat),waitsDeep md ops f k i=true→listed.getD k false=true→listed.getD i false=true
 | 0,k,i,hw,hk=>h k i hw hk
 | f+1,k,i,hw,hk=>by
  simp only[waitsDeep,Bool.or_eq_true,List.any_eq_true,Bool.and_eq_true] at hw;rcases hw with hw | ⟨j,_,h1,h2⟩
  ·exact h.deep f k i hw hk
  ·exact h.deep f j i h2 (h k j h1 hk)
theorem Whole.deep_ready {k:Nat} {listed:Array Bool} (h:Whole md ops listed) (hk:k∈Region.ready md ops listed):∀ (f i:Nat),waitsDeep md ops f k i=true→listed.getD i false=true
 | 0,i,hw=>waitsFor_ready hk hw
 | f+1,i,hw=>by
  simp only[waitsDeep,Bool.or_eq_true,List.any_eq_true,Bool.and_eq_true] at hw;rcases hw with hw | ⟨j,_,h1,h2⟩
  ·exact h.deep_ready hk f i hw
  ·exact h.deep f j i h2 (waitsFor_ready hk h1)
theorem Whole.step {k:Nat} {listed:Array Bool} (h:Whole md ops listed) (hk:k∈Region.ready md ops listed):Whole md ops (listed.setIfInBounds k true):=by
 intro m i hw hm;by_cases c:m=k
 ·subst c;exact getD_set_true (waitsFor_ready hk hw)
 ·rw[getD_set_ne false (Ne.symm c)] at hm;exact getD_set_true (h m i hw hm)
theorem getD_both {l:Array Bool} {i:Nat} (hi:i < l.size):l.getD i true=l.getD i false:=by simp[hi]
theorem none_left (hf:onward md ops=true) {listed:Array Bool} (hs:listed.size=ops.size) (hr:Region.ready md ops listed=[]):∀ (m i:Nat),i < m→i < ops.size→listed.getD i false=true:=by
 intro m
 induction m with
 | zero=>intro i h;omega
 | succ m ih =>
  intro i _ hi;cases hb:listed.getD i false with
  | true=>rfl
  | false =>
   exfalso;have ho:ops[i]?=some ops[i]:=by simp[hi]
   have hin:i∈Region.ready md ops listed:=by
    refine mem_ready.2 ⟨by rw[getD_both (by omega)];exact hb,ops[i],ho,fun e he hbd=>?_⟩;have h1:=List.all_eq_true.1 hf i (List.mem_range.2 hi);rw[ho] at h1;have h2:=Array.all_eq_true_iff_forall_mem.1 h1 e he;simp only[hbd,Bool.not_true,Bool.false_or,decide_eq_true_eq] at h2;exact ih e.on (by omega) (by omega)
   rw[hr] at hin;cases hin
theorem wpAny_last (hf:onward md ops=true) (hw:waitsAll md ops d=true) (hd:d < ops.size):∀ (fuel:Nat) (listed:Array Bool) (a:Act) (w:World),listed.size=ops.size→Whole md ops listed→listed.getD d true=false →
  wpAny P md ops (LastQ P ops Q d) fuel (listed.setIfInBounds d true) a w→wpAny P md ops Q (fuel+1) listed a w:=by
 intro fuel
 induction fuel with
 | zero =>
  intro listed a w hs hcl hdl H;refine⟨fun h0=>?_,fun i hi=>?_⟩
  ·have:=none_left hf hs h0 (d+1) d (by omega) hd;rw[← getD_both (by omega),hdl] at this;cases this
  ·by_cases c:i=d
   ·subst c;exact wpOp_mono (fun a' w' h=>⟨H.1,h⟩) H.2
   ·have:=ready_mono hi c;rw[H.1] at this;cases this
 | succ fuel ih =>
  intro listed a w hs hcl hdl H;refine⟨fun h0=>?_,fun i hi=>?_⟩
  ·have:=none_left hf hs h0 (d+1) d (by omega) hd;rw[← getD_both (by omega),hdl] at this;cases this
  ·by_cases c:i=d
   ·subst c;have hE:Region.ready md ops (listed.setIfInBounds i true)=[]:=by
     refine List.eq_nil_iff_forall_not_mem.2 (fun j hj=>?_);obtain⟨hj0,oj,hoj,_⟩:=mem_ready.1 hj;have hjs:j < ops.size:=(Array.getElem?_eq_some_iff.1 hoj).1;by_cases cj:j=i
     ·subst cj;simp[hs,hd] at hj0
     ·rw[getD_set_ne true (Ne.symm cj)] at hj0;have h1:=List.all_eq_true.1 hw j (List.mem_range.2 hjs);simp only[Bool.or_eq_true,beq_iff_eq,cj,false_or] at h1;have h2:listed.getD j false=true:=hcl.deep_ready hi 2 j h1;rw[← getD_both (by omega),hj0] at h2;cases h2
    exact wpOp_mono (fun a' w' h=>wpAny_done hE h _) (H.1 hE)
   ·refine wpOp_mono (fun a' w' h=>ih (listed.setIfInBounds i true) a' w' (by simpa using hs) (hcl.step hi) (by rw[getD_set_ne true c];exact hdl) ?_) (wpOp_last (H.2 i (ready_mono hi c)));rw[Array.setIfInBounds_comm _ _ c];exact h
theorem wp_region_last {id fuel:Nat} {a:Act} {w:World} (hm:P.follows .mixedOrders=true) (hc:(onward .any ops && waitsAll .any ops d && decide (d < ops.size))=true) (hfu:fuel+1=ops.size) (hS:S w.drew)
  (h:S w.drew→wpAnyH P .any ops (LastQ P ops Q d) S fuel ((Array.replicate ops.size false).setIfInBounds d true) a w.drew):(Code.region id ops true).wp P Q a w:=by
 simp only[Bool.and_eq_true,decide_eq_true_eq] at hc;refine wp_region_any hm ?_;rw[← hfu];have:=wpAny_last (P:=P) (Q:=Q) hc.1.1 hc.1.2 hc.2 fuel (Array.replicate ops.size false) a w.drew (by simp) (fun k i _ h=>by simp[Array.getElem?_replicate] at h;split at h <;> simp at h) (by simp[hc.2]) (wpAny_of_held _ _ _ _ (h hS));rw[← hfu] at this;exact this
theorem last_step {o:Oper} {fuel:Nat} {listed:Array Bool} {a:Act} {w:World} (ho:ops[d]?=some o) (hr:Region.ready md ops listed=[])
  (h:∀ K':Act→World→Prop,Shut (∀ a w,Q .normal a w→K' a w)→if Region.wanted o (yielded ops a.tmps)=true then Oper.wp P o a w K' Q else K' (a.put o.dst undef) w):wpAnyH P md ops (LastQ P ops Q d) S fuel listed a w :=
 wpAnyH_done hr (wpOp_step ho (fun K' hK=>h K' hK)) fuel
end
end Wd
end Go.Proofs.YtgfnelhbdhbklaaGreat
namespace Go.Proofs.YtgfnelhbdhbklaaGreat
open Go.RowKit
set_option linter.unusedVariables false
namespace Wd
theorem info3:(Tryz.prog.info? 3).map (fun i=>(i.zero,i.size,i.bytes))=some (some (.int .i64 0),1,8):=by kernel_rfl
theorem ints_one (L:List Int):∀ u∈ints L,u.oneCell'=true:=by
 intro u hu;obtain⟨x,_,rfl⟩:=List.mem_map.1 hu;rfl
theorem one_at {w:World} {g:Nat} {i:Int} (h:w.cell? ⟨g,0,none⟩=some (.int .i64 i)):∀ j u,(ints [i])[j]?=some u→w.cell? ((⟨g,0,none⟩:Addr).add j)=some u:=by
 intro j u hu
 match j,hu with
 | 0,hu =>
  simp[ints] at hu;subst hu;rw[Addr.add_lit];exact h
theorem cell_up {w w':World} (g:Below w.heap.size w w') {p:Addr} {v:Value} (h:w.cell? p=some v):w'.cell? p=some v:=(g.cell (World.block_lt_of_cell? w p h)).trans h
theorem slice_form {w:World} {e:TypeId} {base size n:Nat} {v:Value} {xs:List Value} (h:w.ownsRow base e size v n xs):∃ a m c,v=.slice a m c:=by
 rcases h.2 with ⟨rfl,_⟩ | ⟨g,cap,cur,rfl,_⟩ <;> exact⟨_,_,_,rfl⟩
theorem own_base {w:World} {base:Nat} {e:TypeId} {size n:Nat} {v:Value} {xs:List Value} (h:w.ownsRow base e size v n xs):w.ownsRow 0 e size v n xs:=by
 refine⟨h.1,?_⟩;rcases h.2 with h | ⟨g,cap,cur,h1,_,h3⟩
 ·exact Or.inl h
 ·exact Or.inr ⟨g,cap,cur,h1,Nat.zero_le _,h3⟩
theorem SL.keep {w w':World} {e:TypeId} {v:Value} {L:List Int} (h:SL w e v L) (b:Below w.heap.size w w'):SL w' e v L :=
 World.ownsRow.kept h ⟨b.os,b.tape,b.output,b.size,fun k hk _=>b.block k hk⟩ (row:=none) (by cases v.ownBlock <;> simp)
theorem grown_refl (w:World) (b:Option Nat):w.grownBy w b:=⟨rfl,rfl,rfl,Nat.le_refl _,fun _ _ _=>rfl⟩
theorem tmod_split (n D:Int) (hD:1≤D):∃ r,n.tmod D=r∧-D < r∧r < D∧((0≤r∧n % D=r)∨(r < 0∧n % D=r+D)):=by
 have h1:=Int.tmod_lt_of_pos n (show 0 < D by omega);have h2:-D < n.tmod D:=by have:=Int.tmod_lt_of_pos (-n) (show 0 < D by omega);rw[Int.neg_tmod] at this;omega
 refine⟨_,rfl,h2,h1,?_⟩;have key:=Int.tmod_add_mul_tdiv n D;generalize n.tmod D=r at *;generalize n.tdiv D=q at *;by_cases h:0≤r
 ·left;refine⟨h,?_⟩;rw[← key,Int.add_mul_emod_self_left];exact Int.emod_eq_of_lt h h1
 ·right;refine⟨by omega,?_⟩;have e:n=(r+D)+D*(q - 1):=by rw[Int.mul_sub,Int.mul_one];omega
  rw[e,Int.add_mul_emod_self_left];exact Int.emod_eq_of_lt (by omega) (by omega)
def within (n lo hi:Int):Int:=if lo≤n∧n≤hi then n else lo+n % (hi - lo+1)
set_option maxHeartbeats 16000000 in
theorem within_c (n lo hi:Int) (h1:-9223372036854775808≤n) (h2:n≤9223372036854775807) (h3:-1000000≤lo) (h4:lo≤hi) (h5:hi≤1000000) (w:World) :
  Calls Tryz.prog 15 #[.int .i64 n,.int .i64 lo,.int .i64 hi] w fun e w'=>e=.returned (.int .i64 (within n lo hi))∧w'=w:=by
 by_cases c1:lo≤n
 ·by_cases c2:n≤hi
  ·have e:within n lo hi=n:=if_pos ⟨c1,c2⟩;rw[e];go_enter Tryz.func15,Tryz.ntmps15
   go_wp2
   go_ret;exact⟨rfl,rfl⟩
  ·have e:within n lo hi=lo+n % (hi - lo+1):=if_neg (fun h=>c2 h.2);obtain⟨r,hr,r1,r2,⟨r3,r4⟩ | ⟨r3,r4⟩⟩:=tmod_split n (hi - lo+1) (by omega)
   all_goals
    rw[r4] at e;rw[e];clear e r4;go_enter Tryz.func15,Tryz.ntmps15
    go_wp2
    go_ret;exact⟨by first | rfl | (refine congrArg Ending.returned (congrArg (Value.int .i64) ?_);omega),rfl⟩
 ·have e:within n lo hi=lo+n % (hi - lo+1):=if_neg (fun h=>c1 h.1);obtain⟨r,hr,r1,r2,⟨r3,r4⟩ | ⟨r3,r4⟩⟩:=tmod_split n (hi - lo+1) (by omega)
  all_goals
   rw[r4] at e;rw[e];clear e r4;go_enter Tryz.func15,Tryz.ntmps15
   go_wp2
   go_ret;exact⟨by first | rfl | (refine congrArg Ending.returned (congrArg (Value.int .i64) ?_);omega),rfl⟩
theorem within_bd (n lo hi:Int) (h:lo≤hi):lo≤within n lo hi∧within n lo hi≤hi:=by
 unfold within
 split
 ·rename_i h';exact h'
 ·have h1:=Int.emod_nonneg n (show hi - lo+1≠0 by omega);have h2:=Int.emod_lt_of_pos n (show 0 < hi - lo+1 by omega);omega
theorem SL.form {w:World} {e:TypeId} {v:Value} {L:List Int} (h:SL w e v L):∃ a c,v=.slice a L.length c:=by
 rcases h.2 with ⟨rfl,h0⟩ | ⟨g,cap,cur,rfl,_⟩
 ·exact⟨_,_,by rw[h0]⟩
 ·exact⟨_,_,rfl⟩
def Reads (w:World) (u:Value) (M:List Int):Prop:=(u=.slice none 0 0∧M=[])∨∃ ad c,u=.slice (some ad) M.length c∧∀ j x,(ints M)[j]?=some x→w.cell? (ad.add j)=some x
theorem SL.reads {w:World} {e:TypeId} {v:Value} {M:List Int} (h:SL w e v M):Reads w v M:=by
 rcases h.cases with ⟨rfl,rfl⟩ | ⟨g,cap,rfl,_,_,_,hown⟩
 ·exact Or.inl ⟨rfl,rfl⟩
 ·refine Or.inr ⟨_,_,rfl,fun j x hx=>?_⟩;simp only[ints,List.getElem?_map,Option.map_eq_some_iff] at hx;obtain⟨y,hy,rfl⟩:=hx;rw[Addr.add_lit,Nat.zero_add];exact row_cell hown hy
theorem Reads.one {w:World} {g:Nat} {i:Int} (h:w.cell? ⟨g,0,none⟩=some (.int .i64 i)):Reads w (.slice (some ⟨g,0,none⟩) 1 1) [i]:=Or.inr ⟨_,_,rfl,one_at h⟩
end Wd
end Go.Proofs.YtgfnelhbdhbklaaGreat
namespace Go.Proofs.YtgfnelhbdhbklaaGreat
open Go.RowKit
set_option linter.unusedVariables false
set_option maxRecDepth 20000
namespace Wd
structure Cg (F:Nat→Prop) (w w':World):Prop where
 os:w'.os=w.os
 tape:w'.tape=w.tape
 output:w'.output=w.output
 size:w.heap.size≤w'.heap.size
 block:∀ k,k < w.heap.size→¬ F k→w'.heap[k]?=w.heap[k]?
section
variable {F G:Nat→Prop} {w w1 w2:World}
theorem Cg.refl (F:Nat→Prop) (w:World):Cg F w w:=⟨rfl,rfl,rfl,Nat.le_refl _,fun _ _ _=>rfl⟩
theorem Cg.trans (h:Cg F w w1) (g:Cg F w1 w2):Cg F w w2 :=
 ⟨g.os.trans h.os,g.tape.trans h.tape,g.output.trans h.output,Nat.le_trans h.size g.size,fun k hk hF=>(g.block k (Nat.lt_of_lt_of_le hk h.size) hF).trans (h.block k hk hF)⟩
theorem Cg.mono (h:Cg F w w1) (hFG:∀ k,F k→G k):Cg G w w1:=⟨h.os,h.tape,h.output,h.size,fun k hk hn=>h.block k hk (fun hF=>hn (hFG k hF))⟩
theorem Cg.trans' (h:Cg F w w1) (g:Cg G w1 w2) (hG:∀ k,G k→F k∨w.heap.size≤k):Cg F w w2 :=
 ⟨g.os.trans h.os,g.tape.trans h.tape,g.output.trans h.output,Nat.le_trans h.size g.size,fun k hk hF=>(g.block k (Nat.lt_of_lt_of_le hk h.size) (fun hg=>by
  rcases hG k hg with h1 | h1
  ·exact hF h1
  ·omega)).trans (h.block k hk hF)⟩
theorem Cg.set (h:Cg F w w1) (a:Addr) (ha:F a.block) (v:Value):Cg F w (w1.setCell a v) :=
 ⟨h.os,h.tape,h.output,by simpa [World.setCell] using h.size,fun k hk hF=>(Below.heap_setCell _ _ _ _ (fun e=>hF (by rw[e];exact ha))).trans (h.block k hk hF)⟩
theorem Cg.drew (h:Cg F w w1):Cg F w w1.drew:=⟨h.os,h.tape,h.output,h.size,h.block⟩
theorem Cg.alloc (h:Cg F w w1) (o:Obj):Cg F w (w1.alloc o) :=
 ⟨h.os,h.tape,h.output,by have:=h.size;simp;omega,fun k hk hF=>(Below.heap_alloc _ _ _ (Nat.lt_of_lt_of_le hk h.size)).trans (h.block k hk hF)⟩
theorem Cg.below (F:Nat→Prop) (b:Below w.heap.size w w1):Cg F w w1:=⟨b.os,b.tape,b.output,b.size,fun k hk _=>b.block k hk⟩
theorem Cg.grown (h:Cg F w w1) {r:Option Nat} (g:w1.grownBy w2 r) (hr:∀ k,r=some k→F k∨w.heap.size≤k):Cg F w w2 :=
 ⟨g.os.trans h.os,g.tape.trans h.tape,g.output.trans h.output,Nat.le_trans h.size g.size,fun k hk hF=>(g.block k (Nat.lt_of_lt_of_le hk h.size) (fun e=>by
  rcases hr k e.symm with h1 | h1
  ·exact hF h1
  ·omega)).trans (h.block k hk hF)⟩
end
theorem drewK (w:World) (q:Nat):Below w.heap.size w (w.drewN q):=⟨rfl,rfl,rfl,Nat.le_refl _,fun _ _=>rfl⟩
structure Tp (w:World) (p:Nat) (ad:Option Addr) (n:Nat):Prop where
 l:∃ cap,w.cell? ⟨p,0,none⟩=some (.slice ad n cap)
 a:∃ k:Nat,k≤n∧w.cell? ⟨p,1,none⟩=some (.int .i64 k)
 z:w.frozen? ⟨p,1,none⟩=false
 r:∀ k,k < n→∃ (g off:Nat) (x:Int),ad=some ⟨g,off,none⟩∧g≠p∧(-9223372036854775808≤x∧x≤9223372036854775807)∧w.cell? ⟨g,off+k,none⟩=some (.int .i64 x)
 big:n≤4611686018427387904
section
variable {w w1:World} {p n:Nat} {ad:Option Addr}
theorem Tp.lt (h:Tp w p ad n):p < w.heap.size:=World.block_lt_of_cell? w _ h.l.choose_spec
def TF (p n:Nat) (ad:Option Addr):Nat→Prop:=fun k=>k=p∨(0 < n∧∃ a,ad=some a∧k=a.block)
theorem Tp.same (h:Tp w p ad n) (hb:∀ k,k < w.heap.size→TF p n ad k→w1.heap[k]?=w.heap[k]?):Tp w1 p ad n:=by
 have hp:=hb p h.lt (Or.inl rfl);obtain⟨cap,hl⟩:=h.l;obtain⟨k,hk,ha⟩:=h.a;refine⟨⟨cap,(World.cell?_of_block (a:=⟨p,0,none⟩) hp).trans hl⟩,⟨k,hk,(World.cell?_of_block (a:=⟨p,1,none⟩) hp).trans ha⟩,(World.frozen?_of_block (a:=⟨p,1,none⟩) hp).trans h.z,fun j hj=>?_,h.big⟩;obtain⟨g,off,x,e,ne,bd,hc⟩:=h.r j hj;exact⟨g,off,x,e,ne,bd,(World.cell?_of_block (a:=⟨g,off+j,none⟩) (hb g (World.block_lt_of_cell? w _ hc) (Or.inr ⟨by omega,_,e,rfl⟩))).trans hc⟩
theorem Tp.cg (h:Tp w p ad n) {F:Nat→Prop} (c:Cg F w w1) (hF:∀ k,F k→¬ TF p n ad k):Tp w1 p ad n:=h.same (fun k hk ht=>c.block k hk (fun hf=>hF k hf ht))
theorem Tp.tf (h:Tp w p ad n) {k:Nat} (hk:TF p n ad k):k < w.heap.size:=by
 rcases hk with rfl | ⟨hn,a,rfl,rfl⟩
 ·exact h.lt
 ·obtain⟨g,off,x,e,_,_,hc⟩:=h.r 0 hn;cases e;exact World.block_lt_of_cell? w _ hc
theorem Tp.keep (h:Tp w p ad n) (b:Below w.heap.size w w1):Tp w1 p ad n:=h.same (fun k hk _=>b.block k hk)
theorem Tp.move (h:Tp w p ad n) {k:Nat} (hk:k≤n):Tp (w.setCell ⟨p,1,none⟩ (.int .i64 (k:Int))) p ad n:=by
 obtain⟨cap,hl⟩:=h.l;obtain⟨k0,_,ha⟩:=h.a;refine⟨⟨cap,(World.cell?_setCell_other _ _ _ _ (by intro e;cases e)).trans hl⟩,⟨k,hk,World.cell?_setCell_same _ _ _ ha⟩,(World.frozen?_setCell _ _ _ _).trans h.z,fun j hj=>?_,h.big⟩;obtain⟨g,off,x,e,ne,bd,hc⟩:=h.r j hj;exact⟨g,off,x,e,ne,bd,(World.cell?_setCell_far _ _ _ _ (Ne.symm ne)).trans hc⟩
end
set_option maxHeartbeats 16000000 in
theorem within40_c (n lo hi:Int) (h1:-9223372036854775808≤n) (h2:n≤9223372036854775807) (h3:-1099511627776≤lo) (h4:lo≤hi) (h5:hi≤1099511627776) (w:World) :
  Calls Tryz.prog 15 #[.int .i64 n,.int .i64 lo,.int .i64 hi] w fun e w'=>e=.returned (.int .i64 (within n lo hi))∧w'=w:=by
 by_cases c1:lo≤n
 ·by_cases c2:n≤hi
  ·have e:within n lo hi=n:=if_pos ⟨c1,c2⟩;rw[e];go_enter Tryz.func15,Tryz.ntmps15
   go_wp2
   go_ret;exact⟨rfl,rfl⟩
  ·have e:within n lo hi=lo+n % (hi - lo+1):=if_neg (fun h=>c2 h.2);obtain⟨r,hr,r1,r2,⟨r3,r4⟩ | ⟨r3,r4⟩⟩:=tmod_split n (hi - lo+1) (by omega)
   all_goals
    rw[r4] at e;rw[e];clear e r4;go_enter Tryz.func15,Tryz.ntmps15
    go_wp2
    go_ret;exact⟨by first | rfl | (refine congrArg Ending.returned (congrArg (Value.int .i64) ?_);omega),rfl⟩
 ·have e:within n lo hi=lo+n % (hi - lo+1):=if_neg (fun h=>c1 h.1);obtain⟨r,hr,r1,r2,⟨r3,r4⟩ | ⟨r3,r4⟩⟩:=tmod_split n (hi - lo+1) (by omega)
  all_goals
   rw[r4] at e;rw[e];clear e r4;go_enter Tryz.func15,Tryz.ntmps15
   go_wp2
   go_ret;exact⟨by first | rfl | (refine congrArg Ending.returned (congrArg (Value.int .i64) ?_);omega),rfl⟩
set_option maxHeartbeats 16000000 in
theorem next_c {w:World} {p n:Nat} {ad:Option Addr} (m:Int) (m1:1≤m) (m2:m≤1000000) (h:Tp w p ad n) :
  Calls Tryz.prog 22 #[.pointer (some ⟨p,0,none⟩),.int .i64 m] w fun e w'=>∃ x:Int,e=.returned (.int .i64 x)∧(0≤x∧x < m)∧Tp w' p ad n∧Cg (fun k=>k=p) w w':=by
 obtain⟨cap,hl⟩:=h.l;obtain⟨k,hk,ha⟩:=h.a;have hz:=h.z;have dm:decide (m < 1)=false:=by simp;omega
 have hbig:=h.big;by_cases hkn:k < n
 ·have d0:decide (n≤k)=false:=by simp;omega
  obtain⟨g,off,x,rfl,ne,bd,hc⟩:=h.r k hkn;have hw:IntKind.i64.wrap ((k:Int)+1)=(k:Int)+1:=by rw[IntKind.wrap_i64];omega
  have hw2:IntKind.i64.wrap (k:Int)=(k:Int):=by rw[IntKind.wrap_i64];omega
  have hk1:(k:Int) < (n:Int):=by omega
  have hx:=within_bd x 0 1073741824 (by omega);have PW:=HD (within40_c x 0 1073741824 bd.1 bd.2 (by omega) (by omega) (by omega));generalize within x 0 1073741824=y at *;have hy0:0≤y.tmod m:=Int.tmod_nonneg _ hx.1;have hy1:y.tmod m < m:=Int.tmod_lt_of_pos _ (by omega);have hm0:¬ m=0:=by omega
  replace h:=HD h;go_enter Tryz.func22,Tryz.ntmps22
  go_wp2
  go_big_quiet (fail)
  have hC0:=Cg.below (fun j=>j=p) (drewK w nq);have hT0:=h.out.keep (drewK w nq);have hl0:(w.drewN nq).cell? ⟨p,0,none⟩=some (.slice (some ⟨g,off,none⟩) n cap):=hl;have ha0:(w.drewN nq).cell? ⟨p,1,none⟩=some (.int .i64 (k:Int)):=ha;have hz0:(w.drewN nq).frozen? ⟨p,1,none⟩=false:=hz;have hc0:(w.drewN nq).cell? ⟨g,off+k,none⟩=some (.int .i64 x):=hc;clear hl ha hz hc h;generalize w.drewN nq=wq at *
  go_wp2
  have hT:=hT0.move (k:=k+1) (by omega);have hC:=hC0.set ⟨p,1,none⟩ rfl (.int .i64 ((k+1:Nat):Int));have ek:((k+1:Nat):Int)=(k:Int)+1:=by omega
  rw[ek] at hT hC;have c0:(wq.setCell ⟨p,1,none⟩ (.int .i64 ((k:Int)+1))).cell? ⟨p,0,none⟩=some (.slice (some ⟨g,off,none⟩) n cap):=(World.cell?_setCell_other _ _ _ _ (by intro e;cases e)).trans hl0;have c1:(wq.setCell ⟨p,1,none⟩ (.int .i64 ((k:Int)+1))).cell? ⟨p,1,none⟩=some (.int .i64 ((k:Int)+1)):=World.cell?_setCell_same _ _ _ ha0;have c2:(wq.setCell ⟨p,1,none⟩ (.int .i64 ((k:Int)+1))).cell? ⟨g,off+k,none⟩=some (.int .i64 x):=(World.cell?_setCell_far _ _ _ _ (Ne.symm ne)).trans hc0;clear hl0 ha0 hz0 hc0 hT0 hC0;generalize wq.setCell ⟨p,1,none⟩ (.int .i64 ((k:Int)+1))=w2 at *;refine wp_region_still_lit (by kernel_rfl) (by kernel_rfl) ?_
  iterate 11 still_step
  still_call (PW.out _)
  iterate 3 still_step
  refine wpStill_nil ?_
  go_wp2
  go_ret;exact⟨_,rfl,⟨hy0,hy1⟩,hT.keep (Below.refl _ _).drew,hC.drew⟩
 ·have d0:decide (n≤k)=true:=by simp;omega
  replace h:=HD h;go_enter Tryz.func22,Tryz.ntmps22
  go_wp2
  go_big_quiet (fail)
  have hC0:=HD (Cg.below (fun j=>j=p) (drewK w nq));have hT0:=HD (h.out.keep (drewK w nq));generalize w.drewN nq=wq at *
  go_wp2
  go_ret;exact⟨0,rfl,⟨by omega,by omega⟩,hT0.out,hC0.out⟩
def bys (L:List Int):List Value:=L.map (.int .u8)
theorem infoB8:(Tryz.prog.info? 5).map (fun i=>(i.zero,i.size,i.bytes))=some (some (.int .u8 0),1,1):=by kernel_rfl
theorem bys_one (L:List Int):∀ u∈bys L,u.oneCell'=true:=by
 intro u hu;obtain⟨x,_,rfl⟩:=List.mem_map.1 hu;rfl
theorem bys_two {w:World} {g:Nat} {x y:Int} (h0:w.cell? ⟨g,0,none⟩=some (.int .u8 x)) (h1:w.cell? ⟨g,1,none⟩=some (.int .u8 y)):∀ j u,(bys [x,y])[j]?=some u→w.cell? ((⟨g,0,none⟩:Addr).add j)=some u:=by
 intro j u hu
 match j,hu with
 | 0,hu =>
  simp[bys] at hu;subst hu;rw[Addr.add_lit];exact h0
 | 1,hu =>
  simp[bys] at hu;subst hu;rw[Addr.add_lit];exact h1
structure Ks (w0 w:World) (p n:Nat) (ad:Option Addr):Prop where
 tp:Tp w p ad n
 cg:Cg (fun k=>k=p) w0 w
 t0:∀ k,TF p n ad k→k < w0.heap.size
theorem row_cg {w w1:World} {base:Nat} {e:TypeId} {size n:Nat} {v:Value} {xs:List Value} {F:Nat→Prop} (h:w.ownsRow base e size v n xs) (c:Cg F w w1) (hF:∀ k,v.ownBlock=some k→¬ F k):w1.ownsRow base e size v n xs:=by
 obtain⟨h1,h2⟩:=h;refine⟨h1,?_⟩;rcases h2 with hh | ⟨g,cap,cur,e1,e2,e3,e4⟩
 ·exact Or.inl hh
 ·exact Or.inr ⟨g,cap,cur,e1,e2,(c.block g (Array.getElem?_eq_some_iff.1 e3).1 (hF g (by rw[e1];rfl))).trans e3,e4⟩
section
variable {w0 w w1 w2:World} {p n:Nat} {ad:Option Addr} {v v' v0:Value} {C:List Int}
theorem Ks.start (h:Tp w p ad n):Ks w w p n ad:=⟨h,Cg.refl _ _,fun k hk=>h.tf hk⟩
theorem Ks.step (h:Ks w0 w p n ad) (t:Tp w1 p ad n) (c:Cg (fun k=>k=p) w w1):Ks w0 w1 p n ad:=⟨t,h.cg.trans c,h.t0⟩
theorem Ks.other (h:Ks w0 w p n ad) {F:Nat→Prop} (c:Cg F w w1) (hF:∀ k,F k→w0.heap.size≤k):Ks w0 w1 p n ad :=
 ⟨h.tp.cg c (fun k hk ht=>by have:=hF k hk;have:=h.t0 k ht;omega),h.cg.trans' c (fun k hk=>Or.inr (hF k hk)),h.t0⟩
theorem Ks.keep (h:Ks w0 w p n ad) (b:Below w.heap.size w w1):Ks w0 w1 p n ad:=h.other (F:=fun _=>False) (Cg.below _ b) (fun k hk=>hk.elim)
theorem Ks.p0 (h:Ks w0 w p n ad):p < w0.heap.size:=h.t0 p (Or.inl rfl)
structure Pc (w0 w wr:World) (p n:Nat) (ad:Option Addr) (v0 v:Value) (C:List Int):Prop where
 ks:Ks w0 wr p n ad
 cd:wr.ownsRow w0.heap.size 5 1 v C.length (bys C)
 cg:Cg (fun k=>k=p∨v0.ownBlock=some k) w wr
 ob:∀ k,v.ownBlock=some k→v0.ownBlock=some k∨w.heap.size≤k
 b0:∀ k,v0.ownBlock=some k→w0.heap.size≤k
 s0:w0.heap.size≤w.heap.size
theorem Pc.start (ks:Ks w0 w p n ad) (cd:w.ownsRow w0.heap.size 5 1 v C.length (bys C)):Pc w0 w w p n ad v v C :=
 ⟨ks,cd,Cg.refl _ _,fun k hk=>Or.inl hk,fun k hk=>(cd.lt k hk).1,ks.cg.size⟩
theorem Pc.keep (h:Pc w0 w w1 p n ad v0 v C) (b:Below w1.heap.size w1 w2):Pc w0 w w2 p n ad v0 v C :=
 ⟨h.ks.keep b,row_cg (F:=fun _=>False) h.cd (Cg.below _ b) (fun _ _ hf=>hf),h.cg.trans (Cg.below _ b),h.ob,h.b0,h.s0⟩
theorem Pc.next (h:Pc w0 w w1 p n ad v0 v C) (t:Tp w2 p ad n) (c:Cg (fun k=>k=p) w1 w2):Pc w0 w w2 p n ad v0 v C :=
 ⟨h.ks.step t c,row_cg h.cd c (fun k hk e=>by have:=(h.cd.lt k hk).1;have:=h.ks.p0;omega),h.cg.trans (c.mono (fun k hk=>Or.inl hk)),h.ob,h.b0,h.s0⟩
theorem Pc.grow (h:Pc w0 w w1 p n ad v0 v C) {wA:World} {t:TypeId} {c:Array Value} (hA:wA=w1.alloc (.cells c t)) {C':List Int} (hown:w2.ownsRow w0.heap.size 5 1 v' C'.length (bys C')) (hg:wA.grownBy w2 v.ownBlock) (hob:∀ k,v'.ownBlock=some k→v.ownBlock=some k∨k=wA.heap.size):Pc w0 w w2 p n ad v0 v' C':=by
 subst hA;have hs:w1.heap.size≤(w1.alloc (.cells c t)).heap.size:=by simp
 have hc:Cg (fun k=>v.ownBlock=some k) w1 w2:=((Cg.refl _ w1).alloc _).grown hg (fun k e=>Or.inl e);refine⟨h.ks.other hc (fun k hk=>(h.cd.lt k hk).1),hown,h.cg.trans' hc (fun k hk=>?_),fun k hk=>?_,h.b0,h.s0⟩
 ·rcases h.ob k hk with e | e
  ·exact Or.inl (Or.inr e)
  ·exact Or.inr e
 ·rcases hob k hk with e | e
  ·exact h.ob k e
  ·have:=h.cg.size;exact Or.inr (by omega)
end
def wr8 (x:Int):Int:=IntKind.u8.wrap x
set_option maxHeartbeats 16000000 in
theorem op_c2 {w0 w wr:World} {p n:Nat} {ad:Option Addr} {v0 v:Value} {C:List Int} (h:Pc w0 w wr p n ad v0 v C) (hl:C.length≤100000) (o a:Int) :
  Calls Tryz.prog 46 #[v,.int .i64 o,.int .i64 a] wr fun e w'=>∃ v',e=.returned v'∧Pc w0 w w' p n ad v0 v' (C++[wr8 o,wr8 a])∧Cg (fun k=>v.ownBlock=some k) wr w'∧(∀ k,v'.ownBlock=some k→v.ownBlock=some k∨wr.heap.size≤k):=by
 obtain⟨i0,hi0,hz0,hz1,hz2⟩:=info_parts infoB8;have hmx:200000≤maxLen:=by decide
 have hsz:w0.heap.size≤wr.heap.size:=h.ks.cg.size;replace h:=HD h;unfold wr8;generalize ho:IntKind.u8.wrap o=o' at *;generalize ha:IntKind.u8.wrap a=a' at *;have hcd:=HD h.out.cd;go_enter Tryz.func46,Tryz.ntmps46
 go_wp2_with (first | (at_builtin;refine wpList_append_lies _ rfl (.tmp 7) (.tmp 12) 36 rfl w0.heap.size 5 i0 (.int .u8 0) 1 1 Tryz.underlying36 hi0 hz0 hz1 hz2 rfl (by decide) v C.length _ (by simp[Act.eval]) (hcd.out.alloc _) ⟨wr.heap.size,0,none⟩ 2 2 (bys [o',a']) (by simp[Act.eval]) (by simp[bys]) (bys_two ((World.cell?_alloc_new _ _ _ 0).trans rfl) ((World.cell?_alloc_new _ _ _ 1).trans rfl)) (bys_one _) (by omega) (by omega) (by omega) (by simp;omega) _ rfl ?_;intro g cap w1 hown1 hgrow1 hat1 hlt1))
 go_ret;have hlen:(C++[o',a']).length=C.length+2:=by simp
 have he:bys C++bys [o',a']=bys (C++[o',a']):=by simp[bys]
 rw[he] at hown1;refine⟨_,rfl,h.out.grow rfl (by rw[hlen];exact hown1) hgrow1 (fun k hk=>?_),((Cg.refl _ wr).alloc _).grown hgrow1 (fun k e=>Or.inl e),fun k hk=>?_⟩
 ·cases hk;exact hat1
 ·cases hk;rcases hat1 with e | e
  ·exact Or.inl e
  ·exact Or.inr (by rw[e];simp)
theorem op_c {w0 w wr:World} {p n:Nat} {ad:Option Addr} {v0 v:Value} {C:List Int} (h:Pc w0 w wr p n ad v0 v C) (hl:C.length≤100000) (o a:Int) :
  Calls Tryz.prog 46 #[v,.int .i64 o,.int .i64 a] wr fun e w'=>∃ v',e=.returned v'∧Pc w0 w w' p n ad v0 v' (C++[wr8 o,wr8 a]):=by
 refine (op_c2 h hl o a).mono ?_;rintro e w' ⟨v',he,h',_⟩;exact⟨v',he,h'⟩
theorem wpList_app_rb {P:Program} {w:World} {ops:Array Oper} {rest:List Oper} {o:Oper} {a:Act} {Q:Exit→Act→World→Prop} (hgd:o.guard=none) (s x:Operand) (t:TypeId)
  (ho:o.op=.call { callee:=.builtin .append,args:=#[s,x],argTypes:=#[t,t] })
  (base:Nat) (e:TypeId) (i:TypeInfo) (z:Value) (ht:P.underlying t=some (.slice e)) (hi:P.info? e=some i) (hz:i.zero=some z)
  (hsize:i.size=1) (hby:i.bytes=1) (hzs:z.cells.size=1)
  (v:Value) (xs:List Value) (hs:a.eval s=v) (hown:RB w base e v xs)
  (ad:Addr) (m c:Nat) (news:List Value) (hx:a.eval x=.slice (some ad) m c) (hl:news.length=m) (hnews:∀ j u,news[j]?=some u→w.cell? (ad.add j)=some u) (h1:∀ u∈news,u.oneCell'=true)
  (h63:xs.length+m≤maxLen) (hbytes:xs.length+m≤140737488355328) (hbase:base≤w.heap.size)
  (h:∀ v' w',RB w' base e v' (xs++news)→w.grownBy w' v.ownBlock→(v'.ownBlock=v.ownBlock∨v'.ownBlock=some w.heap.size)→wpList P ops Q rest (a.put o.dst v') w'):wpList P ops Q (o :: rest) a w:=by
 refine wpList_plain hgd fun K hK=>?_;obtain⟨v',w',hr,h2,h3,h5⟩:=run_app_rb (P:=P) w base t o.type e i z ht hi hz hsize hby hzs v xs hown ad m c news hl hnews h1 h63 hbytes hbase;unfold Oper.wp execOp;simp only[ho,resolve,invoke,builtin,Sem.run_bind,Sem.run_pure,Result.andThen_ok,List.map_toArray,List.map_cons,List.map_nil,hs,hx,hr];exact hK _ _ (h v' w' h2 h3 h5)
theorem wpList_app_rbs {P:Program} {w:World} {ops:Array Oper} {rest:List Oper} {o:Oper} {a:Act} {Q:Exit→Act→World→Prop} (hgd:o.guard=none) (s x:Operand) (t u:TypeId)
  (ho:o.op=.call { callee:=.builtin .append,args:=#[s,x],argTypes:=#[t,u] })
  (base:Nat) (e:TypeId) (i:TypeInfo) (ht:P.underlying t=some (.slice e)) (hu:P.underlying u=some .string) (hi:P.info? e=some i) (hz:i.zero=some (.int .u8 0))
  (hsize:i.size=1) (hby:i.bytes=1)
  (v:Value) (xs:List Value) (hs:a.eval s=v) (hown:RB w base e v xs) (b:ByteArray) (hx:a.eval x=.string b)
  (h63:xs.length+b.size≤maxLen) (hbytes:xs.length+b.size≤140737488355328) (hbase:base≤w.heap.size)
  (h:∀ v' w',RB w' base e v' (xs++Lib.strCells b)→w.grownBy w' v.ownBlock→(v'.ownBlock=v.ownBlock∨v'.ownBlock=some w.heap.size)→wpList P ops Q rest (a.put o.dst v') w'):wpList P ops Q (o :: rest) a w:=by
 refine wpList_plain hgd fun K hK=>?_;obtain⟨v',w',hr,h2,h3,h5⟩:=run_app_rbs (P:=P) w base t u o.type e i ht hu hi hz hsize hby v xs hown b h63 hbytes hbase;unfold Oper.wp execOp;simp only[ho,resolve,invoke,builtin,Sem.run_bind,Sem.run_pure,Result.andThen_ok,List.map_toArray,List.map_cons,List.map_nil,hs,hx,hr];exact hK _ _ (h v' w' h2 h3 h5)
theorem bys_cat (A B:List Int):bys (A++B)=bys A++bys B:=by simp[bys]
theorem bys_ln (L:List Int):(bys L).length=L.length:=by simp[bys]
theorem bys_four {w:World} {g:Nat} {x y z u:Int} (h0:w.cell? ⟨g,0,none⟩=some (.int .u8 x)) (h1:w.cell? ⟨g,1,none⟩=some (.int .u8 y)) (h2:w.cell? ⟨g,2,none⟩=some (.int .u8 z)) (h3:w.cell? ⟨g,3,none⟩=some (.int .u8 u)):∀ j c,(bys [x,y,z,u])[j]?=some c→w.cell? ((⟨g,0,none⟩:Addr).add j)=some c:=by
 intro j c hc
 match j,hc with
 | 0,hc=>simp[bys] at hc;subst hc;rw[Addr.add_lit];exact h0
 | 1,hc=>simp[bys] at hc;subst hc;rw[Addr.add_lit];exact h1
 | 2,hc=>simp[bys] at hc;subst hc;rw[Addr.add_lit];exact h2
 | 3,hc=>simp[bys] at hc;subst hc;rw[Addr.add_lit];exact h3
structure Wr (base:Nat) (w w':World) (v v':Value) (L:List Int):Prop where
 rb:RB w' base 5 v' (bys L)
 cg:Cg (fun k=>v.ownBlock=some k) w w'
 ob:∀ k,v'.ownBlock=some k→v.ownBlock=some k∨w.heap.size≤k
theorem Wr.refl {base:Nat} {w:World} {v:Value} {L:List Int} (h:RB w base 5 v (bys L)):Wr base w w v v L:=⟨h,Cg.refl _ _,fun k hk=>Or.inl hk⟩
theorem Wr.trans {base:Nat} {w w1 w2:World} {v v1 v2:Value} {L M:List Int} (h:Wr base w w1 v v1 L) (g:Wr base w1 w2 v1 v2 M):Wr base w w2 v v2 M :=
 ⟨g.rb,h.cg.trans' g.cg (fun k hk=>h.ob k hk),fun k hk=>by
  rcases g.ob k hk with e | e
  ·exact h.ob k e
  ·exact Or.inr (Nat.le_trans h.cg.size e)⟩
set_option maxHeartbeats 16000000 in
theorem wput_c {w:World} {base:Nat} {v:Value} {L:List Int} (h:RB w base 5 v (bys L)) (hb:base≤w.heap.size) (hl:L.length≤1000000000) (n:Int) :
  Calls Tryz.prog 26 #[v,.int .i64 n] w fun e w'=>∃ v',e=.returned v'∧Wr base w w' v v' (L++[n % 4294967296 / 16777216,n % 4294967296 / 65536 % 256,n % 4294967296 / 256 % 256,n % 4294967296 % 256]):=by
 obtain⟨i0,hi0,hz0,hz1,hz2⟩:=info_parts infoB8;have hmx:2000000000≤maxLen:=by decide
 have hbl:=bys_ln L;replace h:=HD h;go_enter Tryz.func26,Tryz.ntmps26
 go_wp2_with (first | (at_builtin;refine wpList_app_rb rfl (.tmp 9) (.tmp 21) 36 rfl base 5 i0 (.int .u8 0) Tryz.underlying36 hi0 hz0 hz1 hz2 rfl v (bys L) (by simp[Act.eval]) (h.out.kept (fun k hk=>((Below.refl w.heap.size w).alloc (Nat.le_refl _) _).block k (h.out.lt k hk).2)) ⟨w.heap.size,0,none⟩ 4 4 (bys [_,_,_,_]) (by simp[Act.eval]) (by simp[bys]) (bys_four ((World.cell?_alloc_new _ _ _ 0).trans rfl) ((World.cell?_alloc_new _ _ _ 1).trans rfl) ((World.cell?_alloc_new _ _ _ 2).trans rfl) ((World.cell?_alloc_new _ _ _ 3).trans rfl)) (bys_one _) (by omega) (by omega) (by simp only[World.size_alloc];omega) ?_;intro v1 w1 hown1 hgrow1 hat1))
 go_ret;have e4:[wrap32 n % 4294967296 / 16777216,wrap32 n % 4294967296 / 65536 % 256,wrap32 n % 4294967296 / 256 % 256,wrap32 n % 256]=[n % 4294967296 / 16777216,n % 4294967296 / 65536 % 256,n % 4294967296 / 256 % 256,n % 4294967296 % 256]:=by
  have e1:wrap32 n % 4294967296=n % 4294967296:=by unfold wrap32;omega
  rw[e1]
  congr 4
  omega
 rw[e4,← bys_cat] at hown1;refine⟨_,rfl,hown1,((Cg.refl _ w).alloc _).grown hgrow1 (fun k e=>Or.inl e),fun k hk=>?_⟩;replace hk:v1.ownBlock=some k:=hk;rcases hat1 with e | e
 ·exact Or.inl (by rw[← e];exact hk)
 ·rw[e] at hk;have:=Option.some.inj hk;simp only[World.size_alloc] at this;exact Or.inr (by omega)
def inR (c:Nat) (b:ByteArray):Bool:=b.data.toList.any fun x=>x.toNat == c
def NotIn (c:Nat) (b:ByteArray) (k:Nat):Prop:=∀ j,j < k→∀ x,b.data.toList[j]?=some x→x.toNat≠c
theorem NotIn.start (c:Nat) (b:ByteArray):NotIn c b 0:=fun j hj=>by omega
theorem ba_at {b:ByteArray} {k:Nat} (h:k < b.size):b.data.toList[k]?=some b[k]:=by
 rw[List.getElem?_eq_getElem (by simpa using h)];rfl
theorem NotIn.step {c:Nat} {b:ByteArray} {k:Nat} (h:NotIn c b k) (hk:k < b.size) (e:b[k].toNat≠c):NotIn c b (k+1):=by
 intro j hj x hx;rcases (show j < k∨j=k by omega) with hj | rfl
 ·exact h j hj x hx
 ·rw[ba_at hk] at hx;cases hx;exact e
theorem NotIn.last {c:Nat} {b:ByteArray} {k:Nat} (h:NotIn c b k) (hk:¬ k < b.size):inR c b=false:=by
 unfold inR;rw[List.any_eq_false];intro x hx;obtain⟨j,hj⟩:=List.getElem?_of_mem hx;have hl:=(List.getElem?_eq_some_iff.1 hj).1;have hs:b.data.toList.length=b.size:=Array.length_toList;have:=h j (by omega) x hj;simpa using this
theorem inR_at {c:Nat} {b:ByteArray} {k:Nat} (hk:k < b.size) (e:b[k].toNat=c):inR c b=true:=by
 unfold inR;rw[List.any_eq_true];exact⟨b[k],List.mem_of_getElem? (ba_at hk),by simpa using e⟩
theorem in_c (c:Nat) (b:ByteArray) (hb:b.size < 1000) (w:World) :
  Calls Tryz.prog 85 #[.int .u8 c,.string b] w fun e w'=>e=.returned (.bool (inR c b))∧w'=w:=by
 have hst:=HD (NotIn.start c b);go_enter Tryz.func85,Tryz.ntmps85
 go_wp2
 go_loopw [5] (fun i5 wr=>∃ (k:Nat),k≤b.size∧i5=.int .i64 k∧Hid (NotIn c b k)∧wr=w) (fun i5 _=>b.size - (intOf i5).toNat)
 case atStart=>exact⟨0,by omega,rfl,hst,rfl⟩
 case round =>
  obtain⟨k,hk,rfl,hN,rfl⟩:=hrel;by_cases h:k < b.size
  ·have h':(k:Int) < (b.size:Int):=by omega
   by_cases he:b[k].toNat=c
   ·have e:=HD (inR_at h he);have he':((b[k].toNat:Int) == (c:Int))=true:=by simp[he]
    clear he
    go_wp2
    go_ret;exact⟨congrArg (fun b=>Ending.returned (Value.bool b)) e.out.symm,rfl⟩
   ·have hN':=HD (hN.out.step h he);have he':((b[k].toNat:Int) == (c:Int))=false:=by
     rw[beq_eq_false_iff_ne];intro e;exact he (by omega)
    clear he
    go_wp2
    go_roundw
    case rel=>exact⟨k+1,by omega,by go_num,hN',trivial⟩
    case measure=>simp[intOf];omega
  ·have e:=HD (hN.out.last h);have h':¬ (k:Int) < (b.size:Int):=by omega
   go_wp2
   go_ret;exact⟨congrArg (fun b=>Ending.returned (Value.bool b)) e.out.symm,rfl⟩
def letterR (c:Nat):Bool:=decide (97≤c∧c≤122∨65≤c∧c≤90)
theorem letter_c (c:Nat) (w:World) :
  Calls Tryz.prog 86 #[.int .u8 c] w fun e w'=>e=.returned (.bool (letterR c))∧w'=w:=by
 unfold letterR;by_cases h1:97≤c <;> by_cases h2:c≤122 <;> by_cases h3:65≤c <;> by_cases h4:c≤90 <;> (try omega) <;> (
  have h1':decide ((97:Int)≤(c:Int))=decide (97≤c):=by simp <;> omega
  have h2':decide ((c:Int)≤122)=decide (c≤122):=by simp <;> omega
  have h3':decide ((65:Int)≤(c:Int))=decide (65≤c):=by simp <;> omega
  have h4':decide ((c:Int)≤90)=decide (c≤90):=by simp <;> omega
  simp only[h1,h2,h3,h4] at *;go_enter Tryz.func86,Tryz.ntmps86
  go_wp2
  go_ret;exact⟨rfl,rfl⟩)
theorem text1_c (b:ByteArray) (w:World) :
  Calls Tryz.prog 78 #[.string b] w fun e w'=>e=.returned (.bool (decide (1≤b.size∧b.size≤16)))∧w'=w:=by
 by_cases h1:1≤b.size
 ·have h1':(1:Int)≤(b.size:Int):=by omega
  by_cases h2:b.size≤16
  ·have e:decide (1≤b.size∧b.size≤16)=true:=by simp[h1,h2]
   rw[e];clear e;have h2':(b.size:Int)≤16:=by omega
   go_enter Tryz.func78,Tryz.ntmps78
   go_wp2
   go_ret;exact⟨rfl,rfl⟩
  ·have e:decide (1≤b.size∧b.size≤16)=false:=by simp[h2]
   rw[e];clear e;have h2':¬ (b.size:Int)≤16:=by omega
   go_enter Tryz.func78,Tryz.ntmps78
   go_wp2
   go_ret;exact⟨rfl,rfl⟩
 ·have e:decide (1≤b.size∧b.size≤16)=false:=by simp[h1]
  rw[e];clear e;have h1':¬ (1:Int)≤(b.size:Int):=by omega
  go_enter Tryz.func78,Tryz.ntmps78
  go_wp2
  go_ret;exact⟨rfl,rfl⟩
def argsFrom:List UInt8→Nat→Nat→Nat→Option (Nat × Nat)
 | [],_,s,c=>some (s,c)
 | x :: R,i,s,c =>
  if inR x.toNat ⟨#[43,45,42,47,60,62,61,126,38,124,37]⟩=true then argsFrom R (i+1) (s+1) c
  else if x.toNat=58∧0 < i then argsFrom R (i+1) s (c+1)
  else if letterR x.toNat=true∨0 < i∧48≤x.toNat∧x.toNat≤57 then argsFrom R (i+1) s c
  else none
def argsR (b:ByteArray):Int :=
 if 1≤b.size∧b.size≤16 then
  match argsFrom b.data.toList 0 0 0 with
  | none=>-1
  | some (s,c)=>if s=b.size∧s≤2 then 1 else if 0 < s then -1 else (c:Int)
 else -1
structure AgR (b:ByteArray) (k s c:Nat):Prop where
 eq:argsFrom b.data.toList 0 0 0=argsFrom (b.data.toList.drop k) k s c
 s:s≤k
 c:c≤k
theorem AgR.start (b:ByteArray):AgR b 0 0 0:=⟨rfl,by omega,by omega⟩
theorem ba_drop {b:ByteArray} {k:Nat} (h:k < b.size):b.data.toList.drop k=b[k] :: b.data.toList.drop (k+1):=by
 obtain⟨hk,e⟩:=List.getElem?_eq_some_iff.1 (ba_at h);rw[← e];exact List.drop_eq_getElem_cons hk
section
variable {b:ByteArray} {k s c:Nat}
theorem AgR.sign (h:AgR b k s c) (hk:k < b.size) (e:inR b[k].toNat ⟨#[43,45,42,47,60,62,61,126,38,124,37]⟩=true):AgR b (k+1) (s+1) c :=
 ⟨by rw[h.eq,ba_drop hk,argsFrom,if_pos e],by have:=h.s;omega,by have:=h.c;omega⟩
theorem AgR.colon (h:AgR b k s c) (hk:k < b.size) (e:inR b[k].toNat ⟨#[43,45,42,47,60,62,61,126,38,124,37]⟩=false) (e2:b[k].toNat=58∧0 < k):AgR b (k+1) s (c+1) :=
 ⟨by rw[h.eq,ba_drop hk,argsFrom,if_neg (by rw[e];decide),if_pos e2],by have:=h.s;omega,by have:=h.c;omega⟩
theorem AgR.letter (h:AgR b k s c) (hk:k < b.size) (e:inR b[k].toNat ⟨#[43,45,42,47,60,62,61,126,38,124,37]⟩=false) (e2:¬ (b[k].toNat=58∧0 < k)) (e3:letterR b[k].toNat=true∨0 < k∧48≤b[k].toNat∧b[k].toNat≤57):AgR b (k+1) s c :=
 ⟨by rw[h.eq,ba_drop hk,argsFrom,if_neg (by rw[e];decide),if_neg e2,if_pos e3],by have:=h.s;omega,by have:=h.c;omega⟩
theorem AgR.bad (h:AgR b k s c) (hz:1≤b.size∧b.size≤16) (hk:k < b.size) (e:inR b[k].toNat ⟨#[43,45,42,47,60,62,61,126,38,124,37]⟩=false) (e2:¬ (b[k].toNat=58∧0 < k)) (e3:¬ (letterR b[k].toNat=true∨0 < k∧48≤b[k].toNat∧b[k].toNat≤57)):argsR b=-1:=by
 unfold argsR;rw[if_pos hz,h.eq,ba_drop hk,argsFrom,if_neg (by rw[e];decide),if_neg e2,if_neg e3]
theorem AgR.last (h:AgR b k s c) (hz:1≤b.size∧b.size≤16) (hk:¬ k < b.size):argsR b=if s=b.size∧s≤2 then 1 else if 0 < s then -1 else (c:Int):=by
 have hs:b.data.toList.length=b.size:=Array.length_toList;unfold argsR;rw[if_pos hz,h.eq,List.drop_eq_nil_of_le (by omega)];rfl
end
theorem args_short {b:ByteArray} (hz:¬ (1≤b.size∧b.size≤16)):argsR b=-1:=by unfold argsR;rw[if_neg hz]
theorem argsR_c (b:ByteArray) (w:World) :
  Calls Tryz.prog 51 #[.string b] w fun e w'=>e=.returned (.int .i64 (argsR b))∧w'=w:=by
 have PT:=HD (text1_c b);by_cases hz:1≤b.size∧b.size≤16
 ·have hzh:=HD hz;have hst:=HD (AgR.start b);rw[decide_eq_true hz] at PT;obtain⟨hz1,hz2⟩:=hz;go_enter Tryz.func51,Tryz.ntmps51
  go_wp2_with (first | (go_at_call 78;((with_reducible refine (PT.out _).mono ?_);rintro e1 w2 ⟨rfl,hw2⟩;subst w2)))
  clear PT
  go_loopw [3,4,5] (fun i3 i4 i5 wr=>∃ (s c k:Nat),k≤b.size∧i3=.int .i64 s∧i4=.int .i64 c∧i5=.int .i64 k∧s≤k∧c≤k∧Hid (AgR b k s c)∧wr=w) (fun _ _ i5 _=>b.size - (intOf i5).toNat)
  case atStart=>exact⟨0,0,0,by omega,rfl,rfl,rfl,by omega,by omega,hst,rfl⟩
  case round =>
   obtain⟨s,c,k,hk,rfl,rfl,rfl,hsk,hck,hA,rfl⟩:=hrel;by_cases h:k < b.size
   ·have h':(k:Int) < (b.size:Int):=by omega
    have PI:=HD (in_c b[k].toNat ⟨#[43,45,42,47,60,62,61,126,38,124,37]⟩ (by decide));have PL:=HD (letter_c b[k].toNat);by_cases hin:inR b[k].toNat ⟨#[43,45,42,47,60,62,61,126,38,124,37]⟩=true
    ·have hA':=HD (hA.out.sign h hin);rw[hin] at PI;clear hin
     go_wp2_with (first | (go_at_call 78;((with_reducible refine (PT.out _).mono ?_);rintro e1 w2 ⟨rfl,hw2⟩;subst w2)) | (go_at_call 85;((with_reducible refine (PI.out _).mono ?_);rintro e1 w2 ⟨rfl,hw2⟩;subst w2)) | (go_at_call 86;((with_reducible refine (PL.out _).mono ?_);rintro e1 w2 ⟨rfl,hw2⟩;subst w2)))
     go_roundw
     case rel=>exact⟨s+1,c,k+1,by omega,by go_num,by go_num,by go_num,by omega,by omega,hA',trivial⟩
     case measure=>simp[intOf];omega
    rw[Bool.not_eq_true] at hin;rw[hin] at PI;by_cases hco:b[k].toNat=58∧0 < k
    ·have hA':=HD (hA.out.colon h hin hco);obtain⟨hx,h0⟩:=hco;have hx':((b[k].toNat:Int) == 58)=true:=by simp[hx]
     have h0':decide ((0:Int) < (k:Int))=true:=by simp;omega
     clear hin hx
     go_wp2_with (first | (go_at_call 78;((with_reducible refine (PT.out _).mono ?_);rintro e1 w2 ⟨rfl,hw2⟩;subst w2)) | (go_at_call 85;((with_reducible refine (PI.out _).mono ?_);rintro e1 w2 ⟨rfl,hw2⟩;subst w2)) | (go_at_call 86;((with_reducible refine (PL.out _).mono ?_);rintro e1 w2 ⟨rfl,hw2⟩;subst w2)))
     go_roundw
     case rel=>exact⟨s,c+1,k+1,by omega,by go_num,by go_num,by go_num,by omega,by omega,hA',trivial⟩
     case measure=>simp[intOf];omega
    by_cases hok:letterR b[k].toNat=true∨0 < k∧48≤b[k].toNat∧b[k].toNat≤57
    ·have hA':=HD (hA.out.letter h hin hco hok);clear hin;by_cases hl:letterR b[k].toNat=true
     ·rw[hl] at PL;have hx:b[k].toNat≠58:=fun e=>by rw[e] at hl;exact absurd hl (by decide)
      have hx':((b[k].toNat:Int) == 58)=false:=by rw[beq_eq_false_iff_ne];omega
      clear hl hok hco hx
      go_wp2_with (first | (go_at_call 78;((with_reducible refine (PT.out _).mono ?_);rintro e1 w2 ⟨rfl,hw2⟩;subst w2)) | (go_at_call 85;((with_reducible refine (PI.out _).mono ?_);rintro e1 w2 ⟨rfl,hw2⟩;subst w2)) | (go_at_call 86;((with_reducible refine (PL.out _).mono ?_);rintro e1 w2 ⟨rfl,hw2⟩;subst w2)))
      go_roundw
      case rel=>exact⟨s,c,k+1,by omega,by go_num,by go_num,by go_num,by omega,by omega,hA',trivial⟩
      case measure=>simp[intOf];omega
     ·obtain⟨h0,h48,h57⟩:=hok.resolve_left hl;rw[Bool.not_eq_true] at hl;rw[hl] at PL;have hx':((b[k].toNat:Int) == 58)=false:=by rw[beq_eq_false_iff_ne];omega
      have h0':decide ((0:Int) < (k:Int))=true:=by simp;omega
      have h48':decide ((48:Int)≤(b[k].toNat:Int))=true:=by simp;omega
      have h57':decide ((b[k].toNat:Int)≤57)=true:=by simp;omega
      clear hl hco h48 h57
      go_wp2_with (first | (go_at_call 78;((with_reducible refine (PT.out _).mono ?_);rintro e1 w2 ⟨rfl,hw2⟩;subst w2)) | (go_at_call 85;((with_reducible refine (PI.out _).mono ?_);rintro e1 w2 ⟨rfl,hw2⟩;subst w2)) | (go_at_call 86;((with_reducible refine (PL.out _).mono ?_);rintro e1 w2 ⟨rfl,hw2⟩;subst w2)))
      go_roundw
      case rel=>exact⟨s,c,k+1,by omega,by go_num,by go_num,by go_num,by omega,by omega,hA',trivial⟩
      case measure=>simp[intOf];omega
    ·have e:=HD (hA.out.bad hzh.out h hin hco hok);clear hin;have hl:letterR b[k].toNat=false:=by rw[← Bool.not_eq_true];exact fun hl=>hok (Or.inl hl)
     rw[hl] at PL;clear hl;by_cases h0:0 < k
     ·have hx':((b[k].toNat:Int) == 58)=false:=by rw[beq_eq_false_iff_ne];intro hx;exact hco ⟨by omega,h0⟩
      have h0':decide ((0:Int) < (k:Int))=true:=by simp;omega
      by_cases h48:48≤b[k].toNat
      ·have h57:¬ b[k].toNat≤57:=fun h57=>hok (Or.inr ⟨h0,h48,h57⟩);have h48':decide ((48:Int)≤(b[k].toNat:Int))=true:=by simp;omega
       have h57':decide ((b[k].toNat:Int)≤57)=false:=by simp;omega
       clear hok hco h48 h57
       go_wp2_with (first | (go_at_call 78;((with_reducible refine (PT.out _).mono ?_);rintro e1 w2 ⟨rfl,hw2⟩;subst w2)) | (go_at_call 85;((with_reducible refine (PI.out _).mono ?_);rintro e1 w2 ⟨rfl,hw2⟩;subst w2)) | (go_at_call 86;((with_reducible refine (PL.out _).mono ?_);rintro e1 w2 ⟨rfl,hw2⟩;subst w2)))
       go_ret;exact⟨congrArg (fun b=>Ending.returned (Value.int .i64 b)) e.out.symm,rfl⟩
      ·have h48':decide ((48:Int)≤(b[k].toNat:Int))=false:=by simp;omega
       clear hok hco h48
       go_wp2_with (first | (go_at_call 78;((with_reducible refine (PT.out _).mono ?_);rintro e1 w2 ⟨rfl,hw2⟩;subst w2)) | (go_at_call 85;((with_reducible refine (PI.out _).mono ?_);rintro e1 w2 ⟨rfl,hw2⟩;subst w2)) | (go_at_call 86;((with_reducible refine (PL.out _).mono ?_);rintro e1 w2 ⟨rfl,hw2⟩;subst w2)))
       go_ret;exact⟨congrArg (fun b=>Ending.returned (Value.int .i64 b)) e.out.symm,rfl⟩
     ·have h0':decide ((0:Int) < (k:Int))=false:=by simp;omega
      by_cases hx:b[k].toNat=58
      ·have hx':((b[k].toNat:Int) == 58)=true:=by simp[hx]
       clear hok hco hx
       go_wp2_with (first | (go_at_call 78;((with_reducible refine (PT.out _).mono ?_);rintro e1 w2 ⟨rfl,hw2⟩;subst w2)) | (go_at_call 85;((with_reducible refine (PI.out _).mono ?_);rintro e1 w2 ⟨rfl,hw2⟩;subst w2)) | (go_at_call 86;((with_reducible refine (PL.out _).mono ?_);rintro e1 w2 ⟨rfl,hw2⟩;subst w2)))
       go_ret;exact⟨congrArg (fun b=>Ending.returned (Value.int .i64 b)) e.out.symm,rfl⟩
      ·have hx':((b[k].toNat:Int) == 58)=false:=by rw[beq_eq_false_iff_ne];omega
       clear hok hco hx
       go_wp2_with (first | (go_at_call 78;((with_reducible refine (PT.out _).mono ?_);rintro e1 w2 ⟨rfl,hw2⟩;subst w2)) | (go_at_call 85;((with_reducible refine (PI.out _).mono ?_);rintro e1 w2 ⟨rfl,hw2⟩;subst w2)) | (go_at_call 86;((with_reducible refine (PL.out _).mono ?_);rintro e1 w2 ⟨rfl,hw2⟩;subst w2)))
       go_ret;exact⟨congrArg (fun b=>Ending.returned (Value.int .i64 b)) e.out.symm,rfl⟩
   ·have e:=hA.out.last hzh.out h;have h':¬ (k:Int) < (b.size:Int):=by omega
    by_cases g0:0 < s
    ·have g0':(0:Int) < (s:Int):=by omega
     by_cases g1:s=b.size
     ·have g1':((s:Int) == (b.size:Int))=true:=by simp[g1]
      by_cases g2:s≤2
      ·have g2':(s:Int)≤2:=by omega
       rw[if_pos ⟨g1,g2⟩] at e;replace e:=HD e;clear g1 g2 g0
       go_wp2
       go_ret;exact⟨congrArg (fun b=>Ending.returned (Value.int .i64 b)) e.out.symm,rfl⟩
      ·have g2':decide ((s:Int)≤2)=false:=by simp;omega
       have g3':¬ (s:Int)≤2:=by omega
       rw[if_neg (fun g=>g2 g.2),if_pos g0] at e;replace e:=HD e;clear g1 g2 g0
       go_wp2
       go_ret;exact⟨congrArg (fun b=>Ending.returned (Value.int .i64 b)) e.out.symm,rfl⟩
     ·have g1':((s:Int) == (b.size:Int))=false:=by rw[beq_eq_false_iff_ne];omega
      rw[if_neg (fun g=>g1 g.1),if_pos g0] at e;replace e:=HD e;clear g1 g0
      go_wp2
      go_ret;exact⟨congrArg (fun b=>Ending.returned (Value.int .i64 b)) e.out.symm,rfl⟩
    ·have g0':¬ (0:Int) < (s:Int):=by omega
     have g1':((s:Int) == (b.size:Int))=false:=by rw[beq_eq_false_iff_ne];omega
     rw[if_neg (fun g=>by omega),if_neg g0] at e;replace e:=HD e;clear g0
     go_wp2
     go_ret;exact⟨congrArg (fun b=>Ending.returned (Value.int .i64 b)) e.out.symm,rfl⟩
 ·have e:=HD (args_short hz);rw[decide_eq_false hz] at PT;go_enter Tryz.func51,Tryz.ntmps51
  go_wp2_with (first | (go_at_call 78;((with_reducible refine (PT.out _).mono ?_);rintro e1 w2 ⟨rfl,hw2⟩;subst w2)))
  go_ret;exact⟨congrArg (fun b=>Ending.returned (Value.int .i64 b)) e.out.symm,rfl⟩
def In64 (x:Int):Prop:=-9223372036854775808≤x∧x≤9223372036854775807
theorem in64 (x:Int) (h:-9223372036854775808≤x∧x≤9223372036854775807):In64 x:=h
structure ClassA where
 nm:ByteArray
 super:Int
 fields:Int
 binds:List (Int × Int)
structure PrV (w:World) (v:Value) (L:List (Int × Int)):Prop where
 mk ::
 ex:∃ ad cap,v=.slice ad L.length cap∧L.length≤cap∧cap≤maxLen∧∀ (k:Nat) x,L[k]?=some x→In64 x.1∧In64 x.2∧∃ g off,ad=some ⟨g,off,none⟩∧w.cell? ⟨g,off+k*2,none⟩=some (.int .i64 x.1)∧w.cell? ⟨g,off+k*2+1,none⟩=some (.int .i64 x.2)
structure ClV (w:World) (v:Value) (L:List ClassA):Prop where
 mk ::
 ex:∃ ad cap,v=.slice ad L.length cap∧L.length≤cap∧cap≤maxLen∧∀ (k:Nat) c,L[k]?=some c→In64 c.super∧In64 c.fields∧∃ g off bv,ad=some ⟨g,off,none⟩∧w.cell? ⟨g,off+k*4,none⟩=some (.string c.nm)∧w.cell? ⟨g,off+k*4+1,none⟩=some (.int .i64 c.super)∧w.cell? ⟨g,off+k*4+2,none⟩=some (.int .i64 c.fields)∧w.cell? ⟨g,off+k*4+3,none⟩=some bv∧PrV w bv c.binds
section
variable {w w1:World} {v:Value}
theorem PrV.up {L:List (Int × Int)} (h:PrV w v L) (b:Below w.heap.size w w1):PrV w1 v L:=by
 obtain⟨ad,cap,rfl,h1,h2,h3⟩:=h.ex;refine⟨ad,cap,rfl,h1,h2,fun k x hx=>?_⟩;obtain⟨i1,i2,g,off,e,c0,c1⟩:=h3 k x hx;exact⟨i1,i2,g,off,e,cell_up b c0,cell_up b c1⟩
theorem ClV.up {L:List ClassA} (h:ClV w v L) (b:Below w.heap.size w w1):ClV w1 v L:=by
 obtain⟨ad,cap,rfl,h1,h2,h3⟩:=h.ex;refine⟨ad,cap,rfl,h1,h2,fun k x hx=>?_⟩;obtain⟨i1,i2,g,off,bv,e,c0,c1,c2,c3,p⟩:=h3 k x hx;exact⟨i1,i2,g,off,bv,e,cell_up b c0,cell_up b c1,cell_up b c2,cell_up b c3,p.up b⟩
theorem PrV.take {ad:Option Addr} {n cap:Nat} {L:List (Int × Int)} (h:PrV w (.slice ad n cap) L) (k:Nat) (hk:k≤L.length):PrV w (.slice ad k cap) (L.take k):=by
 obtain⟨ad',cap',e,h1,h2,h3⟩:=h.ex;cases e;have hl:(L.take k).length=k:=by rw[List.length_take];omega
 refine⟨ad,cap,by rw[hl],by omega,h2,fun j x hx=>h3 j x ?_⟩;rw[List.getElem?_take] at hx
 split at hx
 ·exact hx
 ·cases hx
theorem ClV.take {ad:Option Addr} {n cap:Nat} {L:List ClassA} (h:ClV w (.slice ad n cap) L) (k:Nat) (hk:k≤L.length):ClV w (.slice ad k cap) (L.take k):=by
 obtain⟨ad',cap',e,h1,h2,h3⟩:=h.ex;cases e;have hl:(L.take k).length=k:=by rw[List.length_take];omega
 refine⟨ad,cap,by rw[hl],by omega,h2,fun j x hx=>h3 j x ?_⟩;rw[List.getElem?_take] at hx
 split at hx
 ·exact hx
 ·cases hx
theorem ClV.form {L:List ClassA} (h:ClV w v L):∃ ad cap,v=.slice ad L.length cap∧L.length≤cap∧cap≤maxLen:=by
 obtain⟨ad,cap,e,h1,h2,h3⟩:=h.ex;exact⟨ad,cap,e,h1,h2⟩
theorem PrV.form {L:List (Int × Int)} (h:PrV w v L):∃ ad cap,v=.slice ad L.length cap∧L.length≤cap∧cap≤maxLen:=by
 obtain⟨ad,cap,e,h1,h2,h3⟩:=h.ex;exact⟨ad,cap,e,h1,h2⟩
theorem ClV.at {ad:Option Addr} {n cap:Nat} {L:List ClassA} (h:ClV w (.slice ad n cap) L) {k:Nat} {c:ClassA} (hk:L[k]?=some c):In64 c.super∧In64 c.fields∧∃ g off bv,ad=some ⟨g,off,none⟩∧w.cell? ⟨g,off+k*4,none⟩=some (.string c.nm)∧w.cell? ⟨g,off+k*4+1,none⟩=some (.int .i64 c.super)∧w.cell? ⟨g,off+k*4+2,none⟩=some (.int .i64 c.fields)∧w.cell? ⟨g,off+k*4+3,none⟩=some bv∧PrV w bv c.binds:=by
 obtain⟨ad',cap',e,h1,h2,h3⟩:=h.ex;cases e;exact h3 k c hk
theorem PrV.at {ad:Option Addr} {n cap:Nat} {L:List (Int × Int)} (h:PrV w (.slice ad n cap) L) {k:Nat} {x:Int × Int} (hk:L[k]?=some x):In64 x.1∧In64 x.2∧∃ g off,ad=some ⟨g,off,none⟩∧w.cell? ⟨g,off+k*2,none⟩=some (.int .i64 x.1)∧w.cell? ⟨g,off+k*2+1,none⟩=some (.int .i64 x.2):=by
 obtain⟨ad',cap',e,h1,h2,h3⟩:=h.ex;cases e;exact h3 k x hk
end
def cl4 (c:ClassA) (bv:Value):List Value:=[.string c.nm,.int .i64 c.super,.int .i64 c.fields,bv]
def cl4s:List (ClassA × Value)→List Value
 | []=>[]
 | x :: X=>cl4 x.1 x.2++cl4s X
def pr2:List (Int × Int)→List Value
 | []=>[]
 | x :: X=>.int .i64 x.1 :: .int .i64 x.2 :: pr2 X
theorem pr2_app:∀ A B,pr2 (A++B)=pr2 A++pr2 B
 | [],_=>rfl
 | t :: A,B=>by simp[pr2,pr2_app A B]
theorem pr2_len:∀ A,(pr2 A).length=A.length*2
 | []=>rfl
 | t :: A=>by simp only[pr2,List.length_cons,pr2_len A];omega
theorem pr2_get:∀ (T:List (Int × Int)) (k:Nat) t,T[k]?=some t→(pr2 T)[k*2]?=some (.int .i64 t.1)∧(pr2 T)[k*2+1]?=some (.int .i64 t.2)
 | [],k,t,h=>by simp at h
 | s :: T,0,t,h=>by simp at h;subst h;simp[pr2]
 | s :: T,k+1,t,h=>by
  have:=pr2_get T k t (by simpa using h);rw[show (k+1)*2=k*2+2 by omega];simpa [pr2] using this
theorem pr2_one:∀ (T:List (Int × Int)),∀ u∈pr2 T,u.oneCell'=true
 | [],u,h=>by cases h
 | t :: T,u,h=>by
  simp only[pr2,List.mem_cons] at h;rcases h with rfl | rfl | h
  ·rfl
  ·rfl
  ·exact pr2_one T u h
theorem cl4s_app:∀ A B,cl4s (A++B)=cl4s A++cl4s B
 | [],_=>rfl
 | t :: A,B=>by simp[cl4s,cl4s_app A B]
theorem cl4s_len:∀ A,(cl4s A).length=A.length*4
 | []=>rfl
 | t :: A=>by simp only[cl4s,cl4,List.length_append,List.length_cons,List.length_nil,cl4s_len A];omega
theorem cl4s_get:∀ (T:List (ClassA × Value)) (k:Nat) t,T[k]?=some t→(cl4s T)[k*4]?=some (.string t.1.nm)∧(cl4s T)[k*4+1]?=some (.int .i64 t.1.super)∧(cl4s T)[k*4+2]?=some (.int .i64 t.1.fields)∧(cl4s T)[k*4+3]?=some t.2
 | [],k,t,h=>by simp at h
 | s :: T,0,t,h=>by simp at h;subst h;simp[cl4s,cl4]
 | s :: T,k+1,t,h=>by
  have:=cl4s_get T k t (by simpa using h);rw[show (k+1)*4=k*4+4 by omega];simpa [cl4s,cl4] using this
theorem sl_one {v:Value} (h:∃ a m c,v=.slice a m c):v.oneCell'=true:=by obtain⟨a,m,c,rfl⟩:=h;rfl
theorem cl4s_one:∀ (T:List (ClassA × Value)),(∀ x∈T,∃ a m c,x.2=.slice a m c)→∀ u∈cl4s T,u.oneCell'=true
 | [],_,u,h=>by cases h
 | t :: T,hT,u,h=>by
  simp only[cl4s,cl4,List.mem_append,List.mem_cons,List.not_mem_nil,or_false] at h;rcases h with (rfl | rfl | rfl | rfl) | h
  ·rfl
  ·rfl
  ·rfl
  ·exact sl_one (hT t (by simp))
  ·exact cl4s_one T (fun x hx=>hT x (by simp[hx])) u h
theorem PrV.own {w:World} {base:Nat} {e:TypeId} {v:Value} {T:List (Int × Int)} (h:w.ownsRow base e 2 v T.length (pr2 T)) (hb:∀ x∈T,In64 x.1∧In64 x.2):PrV w v T:=by
 rcases h.2 with ⟨rfl,h0⟩ | ⟨g,cap,cur,rfl,h1,h2,h3,h4,_⟩
 ·have:T=[]:=List.length_eq_zero_iff.1 h0;subst this;exact⟨none,0,rfl,by simp,by decide,fun k x hx=>by simp at hx⟩
 ·refine⟨_,cap,rfl,h3,h4,fun k x hx=>?_⟩;have hk:=(List.getElem?_eq_some_iff.1 hx).1;obtain⟨c0,c1⟩:=pr2_get T k x hx;obtain⟨b0,b1⟩:=hb x (List.mem_of_getElem? hx);refine⟨b0,b1,g,0,rfl,?_,?_⟩
  ·rw[Nat.zero_add];exact (h.cellAt (k*2) (by omega)).trans c0
  ·rw[Nat.zero_add];exact (h.cellAt (k*2+1) (by omega)).trans c1
theorem ClV.own {w:World} {base:Nat} {e:TypeId} {v:Value} {T:List (ClassA × Value)} (h:w.ownsRow base e 4 v T.length (cl4s T)) (hb:∀ x∈T,In64 x.1.super∧In64 x.1.fields∧PrV w x.2 x.1.binds):ClV w v (T.map (·.1)):=by
 rcases h.2 with ⟨rfl,h0⟩ | ⟨g,cap,cur,rfl,h1,h2,h3,h4,_⟩
 ·have:T=[]:=List.length_eq_zero_iff.1 h0;subst this;exact⟨none,0,rfl,by simp,by decide,fun k x hx=>by simp at hx⟩
 ·refine⟨some ⟨g,0,none⟩,cap,by simp,by simpa using h3,h4,fun k c hc=>?_⟩;obtain⟨x,hx,rfl⟩:∃ x,T[k]?=some x∧x.1=c:=by simpa using hc
  have hk:=(List.getElem?_eq_some_iff.1 hx).1;obtain⟨c0,c1,c2,c3⟩:=cl4s_get T k x hx;obtain⟨b0,b1,b2⟩:=hb x (List.mem_of_getElem? hx);refine⟨b0,b1,g,0,x.2,rfl,?_,?_,?_,?_,b2⟩
  ·rw[Nat.zero_add];exact (h.cellAt (k*4) (by omega)).trans c0
  ·rw[Nat.zero_add];exact (h.cellAt (k*4+1) (by omega)).trans c1
  ·rw[Nat.zero_add];exact (h.cellAt (k*4+2) (by omega)).trans c2
  ·rw[Nat.zero_add];exact (h.cellAt (k*4+3) (by omega)).trans c3
theorem ClV.cells {w:World} {ad:Option Addr} {n cap:Nat} {L:List ClassA} (h:ClV w (.slice ad n cap) L):∃ T:List (ClassA × Value),T.map (·.1)=L∧(∀ x∈T,In64 x.1.super∧In64 x.1.fields∧PrV w x.2 x.1.binds)∧∀ k u,(cl4s T)[k]?=some u→∃ g off,ad=some ⟨g,off,none⟩∧w.cell? ⟨g,off+k,none⟩=some u:=by
 have key:∀ (m:Nat),m≤L.length→∃ T:List (ClassA × Value),T.map (·.1)=L.take m∧(∀ x∈T,In64 x.1.super∧In64 x.1.fields∧PrV w x.2 x.1.binds)∧∀ k u,(cl4s T)[k]?=some u→∃ g off,ad=some ⟨g,off,none⟩∧w.cell? ⟨g,off+k,none⟩=some u:=by
  intro m
  induction m with
  | zero=>exact fun _=>⟨[],by simp,by simp,fun k u hk=>by simp[cl4s] at hk⟩
  | succ m ih =>
   intro hm;obtain⟨T,e,hT,hc⟩:=ih (by omega);obtain⟨c,hcm⟩:∃ c,L[m]?=some c:=⟨L[m]'(by omega),by simp⟩
   obtain⟨i0,i1,g,off,bv,ea,c0,c1,c2,c3,hp⟩:=h.at hcm;have hl:T.length=m:=by have:=congrArg List.length e;simp at this;omega
   refine⟨T++[(c,bv)],by simp[e,List.take_add_one,hcm],fun x hx=>?_,fun k u hk=>?_⟩
   ·rcases List.mem_append.1 hx with hx | hx
    ·exact hT x hx
    ·rw[List.mem_singleton.1 hx];exact⟨i0,i1,hp⟩
   ·rw[cl4s_app] at hk;by_cases hlt:k < (cl4s T).length
    ·rw[List.getElem?_append_left hlt] at hk;exact hc k u hk
    ·rw[List.getElem?_append_right (by omega)] at hk;rw[cl4s_len,hl] at hk hlt;refine⟨g,off,ea,?_⟩;simp only[cl4s,cl4,List.append_nil] at hk;obtain⟨d,hd⟩:∃ d,k=m*4+d:=⟨k - m*4,by omega⟩
     subst hd;rw[show m*4+d - m*4=d by omega] at hk
     match d,hk with
     | 0,hk=>simp at hk;subst hk;exact c0
     | 1,hk=>simp at hk;subst hk;exact c1
     | 2,hk=>simp at hk;subst hk;exact c2
     | 3,hk=>simp at hk;subst hk;exact c3
 obtain⟨T,e,r⟩:=key L.length (Nat.le_refl _);exact⟨T,by rw[e,List.take_length],r⟩
abbrev I64 (x:Int):Prop:=-9223372036854775808≤x∧x≤9223372036854775807
structure Ch (F:Nat→Prop) (w w':World):Prop where
 os:w'.os=w.os
 tape:w'.tape=w.tape
 output:w'.output=w.output
 size:w.heap.size≤w'.heap.size
 block:∀ k,k < w.heap.size→¬ F k→w'.heap[k]?=w.heap[k]?
def Newer (F F':Nat→Prop) (s:Nat):Prop:=∀ k,F' k→F k∨s≤k
theorem Ch.refl (F:Nat→Prop) (w:World):Ch F w w:=⟨rfl,rfl,rfl,Nat.le_refl _,fun _ _ _=>rfl⟩
theorem Ch.set {F:Nat→Prop} {w w1:World} (h:Ch F w w1) (a:Addr) (ha:F a.block) (v:Value):Ch F w (w1.setCell a v) :=
 ⟨h.os,h.tape,h.output,by simpa [World.setCell] using h.size,fun k hk hF=>(Below.heap_setCell _ _ _ _ (fun e=>hF (by rw[e];exact ha))).trans (h.block k hk hF)⟩
theorem Ch.drew {F:Nat→Prop} {w w1:World} (h:Ch F w w1):Ch F w w1.drew:=⟨h.os,h.tape,h.output,h.size,h.block⟩
theorem below_ch {w wr w1:World} {F:Nat→Prop} (h:Below w.heap.size w wr) (c:Ch F wr w1) (hF:∀ k,F k→w.heap.size≤k):Below w.heap.size w w1 :=
 ⟨c.os.trans h.os,c.tape.trans h.tape,c.output.trans h.output,Nat.le_trans h.size c.size,fun k hk=>(c.block k (Nat.lt_of_lt_of_le hk h.size) (fun hf=>by have:=hF k hf;omega)).trans (h.block k hk)⟩
abbrev Dst:=List (Int × Int)
def D0:Dst:=List.replicate 16 (-1,0)
def plc (sel:Int) (k:Nat):Nat:=(sel.toNat % 16*7+k) % 16
def selA (D:Dst) (i:Nat):Int:=(D.getD i (-1,0)).1
def metA (D:Dst) (i:Nat):Int:=(D.getD i (-1,0)).2
def findF (D:Dst) (sel:Int):Nat→Nat→Int × Int
 | 0,_=>(-1,4)
 | f+1,k=>if selA D (plc sel k)=sel then (metA D (plc sel k),(k:Int)+1) else if selA D (plc sel k) < 0 then (-1,(k:Int)+1) else findF D sel f (k+1)
def findD (D:Dst) (sel:Int):Int × Int:=if sel < 0 then (-1,0) else findF D sel 4 0
def putF (D:Dst) (sel:Int):Nat→Nat→Option Nat
 | 0,_=>none
 | f+1,k=>if selA D (plc sel k)=sel∨selA D (plc sel k) < 0 then some (plc sel k) else putF D sel f (k+1)
def putP (D:Dst) (sel:Int):Option Nat:=if sel < 0 then none else putF D sel 4 0
def putB (D:Dst) (sel:Int):Bool:=(putP D sel).isSome
def putD (D:Dst) (sel met:Int):Dst:=match putP D sel with | some i=>D.set i (sel,met) | none=>D
def ofD:List (Int × Int)→Dst→Option Dst
 | [],D=>some D
 | b :: B,D=>if putB D b.1=true then ofD B (putD D b.1 b.2) else none
theorem plc_lt (sel:Int) (k:Nat):plc sel k < 16:=Nat.mod_lt _ (by omega)
theorem sel_set {D:Dst} (hl:D.length=16) {i:Nat} (hi:i < 16) (x y:Int) (k:Nat):selA (D.set i (x,y)) k=if k=i then x else selA D k:=by
 unfold selA;simp only[List.getD_eq_getElem?_getD,List.getElem?_set];by_cases h:k=i
 ·subst h;rw[if_pos rfl,if_pos (by omega),if_pos rfl];rfl
 ·rw[if_neg (fun e=>h e.symm),if_neg h]
theorem met_set {D:Dst} (hl:D.length=16) {i:Nat} (hi:i < 16) (x y:Int) (k:Nat):metA (D.set i (x,y)) k=if k=i then y else metA D k:=by
 unfold metA;simp only[List.getD_eq_getElem?_getD,List.getElem?_set];by_cases h:k=i
 ·subst h;rw[if_pos rfl,if_pos (by omega),if_pos rfl];rfl
 ·rw[if_neg (fun e=>h e.symm),if_neg h]
structure RefD (w:World) (b:Nat) (D:Dst):Prop where
 len:D.length=16
 bs:∀ k,k < 16→I64 (selA D k)
 bm:∀ k,k < 16→I64 (metA D k)
 cs:∀ k,k < 16→w.cell? ⟨b,k,none⟩=some (.int .i64 (selA D k))
 cm:∀ k,k < 16→w.cell? ⟨b,16+k,none⟩=some (.int .i64 (metA D k))
 z:∀ k,w.frozen? ⟨b,k,none⟩=false
theorem RefD.lt {w:World} {b:Nat} {D:Dst} (h:RefD w b D):b < w.heap.size:=World.block_lt_of_cell? w _ (h.cs 0 (by decide))
theorem RefD.same {w w':World} {b:Nat} {D:Dst} (h:RefD w b D) (hb:w'.heap[b]?=w.heap[b]?):RefD w' b D :=
 ⟨h.len,h.bs,h.bm,fun k hk=>(World.cell?_of_block (a:=⟨b,k,none⟩) hb).trans (h.cs k hk),fun k hk=>(World.cell?_of_block (a:=⟨b,16+k,none⟩) hb).trans (h.cm k hk),fun k=>(World.frozen?_of_block (a:=⟨b,k,none⟩) hb).trans (h.z k)⟩
theorem RefD.keep {w w':World} {b:Nat} {D:Dst} (h:RefD w b D) (g:Below w.heap.size w w'):RefD w' b D:=h.same (g.block b h.lt)
theorem ad_ne {b i j:Nat} (h:i≠j):(⟨b,i,none⟩:Addr)≠⟨b,j,none⟩:=fun e=>h (by cases e;rfl)
theorem RefD.set1 {w:World} {b:Nat} {D:Dst} (h:RefD w b D) {i:Nat} (hi:i < 16) {x:Int} (hx:I64 x):RefD (w.setCell ⟨b,i,none⟩ (.int .i64 x)) b (D.set i (x,metA D i)):=by
 refine⟨by simp[h.len],fun k hk=>?_,fun k hk=>?_,fun k hk=>?_,fun k hk=>?_,fun k=>by rw[World.frozen?_setCell];exact h.z k⟩
 ·rw[sel_set h.len hi];split
  ·exact hx
  ·exact h.bs k hk
 ·rw[met_set h.len hi];split
  ·rename_i e;subst e;exact h.bm k hk
  ·exact h.bm k hk
 ·rw[sel_set h.len hi];split
  ·rename_i e;subst e;exact World.cell?_setCell_same _ _ _ (h.cs k hk)
  ·rename_i e;rw[World.cell?_setCell_other _ _ _ _ (ad_ne (fun q=>e q.symm))];exact h.cs k hk
 ·rw[World.cell?_setCell_other _ _ _ _ (ad_ne (by omega)),met_set h.len hi]
  split
  ·rename_i e;subst e;exact h.cm k hk
  ·exact h.cm k hk
theorem RefD.set2 {w:World} {b:Nat} {D:Dst} (h:RefD w b D) {i:Nat} (hi:i < 16) {y:Int} (hy:I64 y):RefD (w.setCell ⟨b,16+i,none⟩ (.int .i64 y)) b (D.set i (selA D i,y)):=by
 refine⟨by simp[h.len],fun k hk=>?_,fun k hk=>?_,fun k hk=>?_,fun k hk=>?_,fun k=>by rw[World.frozen?_setCell];exact h.z k⟩
 ·rw[sel_set h.len hi];split
  ·rename_i e;subst e;exact h.bs k hk
  ·exact h.bs k hk
 ·rw[met_set h.len hi];split
  ·exact hy
  ·exact h.bm k hk
 ·rw[World.cell?_setCell_other _ _ _ _ (ad_ne (by omega)),sel_set h.len hi]
  split
  ·rename_i e;subst e;exact h.cs k hk
  ·exact h.cs k hk
 ·rw[met_set h.len hi];split
  ·rename_i e;subst e;exact World.cell?_setCell_same _ _ _ (h.cm k hk)
  ·rename_i e;rw[World.cell?_setCell_other _ _ _ _ (ad_ne (by omega))];exact h.cm k hk
theorem RefD.both {w:World} {b:Nat} {D:Dst} (h:RefD w b D) {i:Nat} (hi:i < 16) {x y:Int} (hx:I64 x) (hy:I64 y):RefD ((w.setCell ⟨b,i,none⟩ (.int .i64 x)).setCell ⟨b,16+i,none⟩ (.int .i64 y)) b (D.set i (x,y)):=by
 have h1:=(h.set1 hi hx).set2 hi hy;rw[sel_set h.len hi,if_pos rfl,List.set_set] at h1;exact h1
theorem plc_int {sel:Int} (h:0≤sel) (k:Nat):∃ r:Nat,r < 16∧Int.tmod sel 16=(r:Int)∧Int.tmod ((r:Int)*7+(k:Int)) 16=((plc sel k:Nat):Int):=by
 obtain⟨n,rfl⟩:∃ n:Nat,sel=n:=⟨sel.toNat,by omega⟩
 refine⟨n % 16,Nat.mod_lt _ (by omega),by exact (Int.ofNat_tmod n 16).symm,?_⟩;have e:(((n % 16:Nat):Int)*7+(k:Int))=(((n % 16)*7+k:Nat):Int):=by push_cast;rfl
 rw[e];show Int.tmod _ ((16:Nat):Int)=_;rw[← Int.ofNat_tmod];rfl
theorem find_neg {D:Dst} {sel:Int} (h:sel < 0):findD D sel=(-1,0):=if_pos h
theorem find_pos {D:Dst} {sel:Int} (h:0≤sel):findD D sel=findF D sel 4 0:=if_neg (by omega)
theorem put_neg {D:Dst} {sel:Int} (h:sel < 0):putP D sel=none:=if_pos h
theorem put_pos {D:Dst} {sel:Int} (h:0≤sel):putP D sel=putF D sel 4 0:=if_neg (by omega)
theorem putF_has {D:Dst} {sel:Int} {k:Nat} (hk:k < 4) (h:selA D (plc sel k)=sel∨selA D (plc sel k) < 0):putF D sel (4 - k) k=some (plc sel k):=by
 rw[show 4 - k=(3 - k)+1 by omega,putF,if_pos h]
theorem putF_next {D:Dst} {sel:Int} {k:Nat} (hk:k < 4) (h:¬ (selA D (plc sel k)=sel∨selA D (plc sel k) < 0)):putF D sel (4 - k) k=putF D sel (4 - (k+1)) (k+1):=by
 rw[show 4 - k=(4 - (k+1))+1 by omega,putF,if_neg h]
theorem put_y {D:Dst} {sel met:Int} {i:Nat} (h:putP D sel=some i):putB D sel=true∧putD D sel met=D.set i (sel,met):=by
 unfold putB putD;rw[h];exact⟨rfl,rfl⟩
theorem put_n {D:Dst} {sel met:Int} (h:putP D sel=none):putB D sel=false∧putD D sel met=D:=by
 unfold putB putD;rw[h];exact⟨rfl,rfl⟩
theorem two_ch (w:World) (b i:Nat) (x y:Value):Ch (fun k=>k=b) w ((w.setCell ⟨b,i,none⟩ x).setCell ⟨b,16+i,none⟩ y).drew:=by
 have h1:Ch (fun k=>k=b) w (w.setCell ⟨b,i,none⟩ x):=(Ch.refl (fun k=>k=b) w).set ⟨b,i,none⟩ (show b=b from rfl) x;have h2:Ch (fun k=>k=b) w ((w.setCell ⟨b,i,none⟩ x).setCell ⟨b,16+i,none⟩ y):=h1.set ⟨b,16+i,none⟩ (show b=b from rfl) y;exact h2.drew
set_option maxHeartbeats 8000000 in
theorem put_c {w:World} {b:Nat} {D:Dst} (h:RefD w b D) (sel met:Int) (hs:I64 sel) (hm:I64 met) :
  Calls Tryz.prog 82 #[.pointer (some ⟨b,0,none⟩),.int .i64 sel,.int .i64 met] w fun e w'=>e=.returned (.bool (putB D sel))∧RefD w' b (putD D sel met)∧Ch (fun k=>k=b) w w':=by
 replace h:=HD h;have hm':=HD hm;have hs':=HD hs;obtain⟨s0,s1⟩:=hs;have hst:Hid (0≤sel→putP D sel=putF D sel (4 - 0) 0):=HD (fun h=>put_pos h);go_enter Tryz.func82,Tryz.ntmps82
 go_wp2
 go_loopw [7] (fun i7 wr=>∃ k:Nat,k≤4∧i7=.int .i64 k∧Hid (0≤sel→putP D sel=putF D sel (4 - k) k)∧(sel < 0→k=0)∧wr=w) (fun i7 _=>4 - (intOf i7).toNat)
 case atStart=>exact⟨0,by omega,rfl,hst,fun _=>rfl,rfl⟩
 case round =>
  clear hst;obtain⟨k,hk,rfl,hF,hz,rfl⟩:=hrel;by_cases hn:sel < 0
  ·have hlt':decide ((k:Int) < 4)=true:=by have:=hz hn;simp;omega
   have d1:decide (sel ≥ 0)=false:=by simp;omega
   have e:=put_n (met:=met) (put_neg (D:=D) hn);replace e:=HD e
   go_wp2
   go_ret;exact⟨by rw[e.out.1];rfl,by rw[e.out.2];exact h.out,Ch.refl _ _⟩
  ·have d1:decide (sel ≥ 0)=true:=by simp;omega
   by_cases hlt:k < 4
   ·have hlt':decide ((k:Int) < 4)=true:=by simp;omega
    obtain⟨r,hr,e1,e2⟩:=plc_int (sel:=sel) (by omega) k;have hi:=plc_lt sel k;have hF':=HD (hF.out (by omega));have y1:=putF_has (D:=D) (sel:=sel) hlt;have y3:=putF_next (D:=D) (sel:=sel) hlt;replace y1:=HD y1;replace y3:=HD y3;generalize plc sel k=i at *;have i0:(0:Int)≤(i:Int):=by omega
    have i1:(i:Int) < 16:=by omega
    have c1:=h.out.cs i hi;have c2:=h.out.cm i hi;have z1:=h.out.z i;have z2:=h.out.z (16+i);have w1:IntKind.i64.wrap ((r:Int)*7)=(r:Int)*7:=by rw[IntKind.wrap_i64];omega
    have w2:IntKind.i64.wrap ((r:Int)*7+(k:Int))=(r:Int)*7+(k:Int):=by rw[IntKind.wrap_i64];omega
    obtain⟨x,hx⟩:∃ x,x=selA D i:=⟨_,rfl⟩
    rw[← hx] at c1 y1 y3;by_cases hc:x=sel∨x < 0
    ·have e:=put_y (met:=met) (hF'.out.trans (y1.out hc));replace e:=HD e;have hB:=HD (h.out.both hi hs'.out hm'.out);by_cases he:x=sel
     ·have he':(x == sel)=true:=by simpa using he
      clear he hc hx
      go_wp2
      go_region
      all_goals go_wp2
      all_goals go_ret
      all_goals exact⟨by rw[e.out.1];rfl,by rw[e.out.2];exact hB.out.same rfl,two_ch wr b i (.int .i64 sel) (.int .i64 met)⟩
     ·have he':(x == sel)=false:=by simpa using he
      have hx':decide (x < 0)=true:=by simp;omega
      clear he hc hx
      go_wp2
      go_region
      all_goals go_wp2
      all_goals go_ret
      all_goals exact⟨by rw[e.out.1];rfl,by rw[e.out.2];exact hB.out.same rfl,two_ch wr b i (.int .i64 sel) (.int .i64 met)⟩
    ·have he':(x == sel)=false:=by simp;omega
     have hx':decide (x < 0)=false:=by simp;omega
     have e:=HD (fun _:0≤sel=>hF'.out.trans (y3.out hc));clear hc hx
     go_wp2
     go_roundw
     case rel=>exact⟨k+1,by omega,by go_num,e,fun h=>absurd h hn,trivial⟩
     case measure=>simp[intOf];omega
   ·have hlt':decide ((k:Int) < 4)=false:=by simp;omega
    have e:=hF.out (by omega);rw[show 4 - k=0 by omega,putF] at e;have e:=HD (put_n (met:=met) e)
    go_wp2
    go_ret;exact⟨by rw[e.out.1];rfl,by rw[e.out.2];exact h.out,Ch.refl _ _⟩
theorem ba_beq (a b:ByteArray):(a == b)=decide (a=b):=by
 obtain⟨⟨x⟩⟩:=a;obtain⟨⟨y⟩⟩:=b;show ((⟨x⟩:Array UInt8) == ⟨y⟩)=_;simp only[ByteArray.mk.injEq,Array.mk.injEq];by_cases h:x=y
 ·simp[h]
 ·simp[h]
theorem ba_ne {a b:ByteArray} (h:¬ a=b):(a == b)=false:=by rw[ba_beq];simp[h]
theorem ba_eq {a b:ByteArray} (h:a=b):(a == b)=true:=by rw[ba_beq];simp[h]
theorem bl_ne {a b:ByteArray} (h:¬ a=b):(a.toList == b.toList)=false:=(beq_toListBytes a b).symm.trans (ba_ne h)
theorem bl_eq {a b:ByteArray} (h:a=b):(a.toList == b.toList)=true:=(beq_toListBytes a b).symm.trans (ba_eq h)
def chainR (L:List ClassA):Int→Nat→List Int
 | _,0=>[]
 | i,f+1=>if 0≤i then (match L[i.toNat]? with | some c=>i :: chainR L c.super f | none=>[]) else []
def chain (L:List ClassA) (i:Int):List Int:=chainR L i 8
theorem chainR_on {L:List ClassA} {k f:Nat} {c:ClassA} (h:L[k]?=some c):chainR L (k:Int) (f+1)=(k:Int) :: chainR L c.super f:=by
 have h0:(0:Int)≤(k:Int):=by omega
 rw[chainR,if_pos h0,Int.toNat_natCast,h]
theorem chainR_neg {L:List ClassA} {i:Int} (f:Nat) (h:i < 0):chainR L i f=[]:=by
 cases f with
 | zero=>rfl
 | succ f=>rw[chainR,if_neg (by omega)]
theorem chainR_over {L:List ClassA} {i:Int} (f:Nat) (h:(L.length:Int)≤i):chainR L i f=[]:=by
 cases f with
 | zero=>rfl
 | succ f=>rw[chainR,if_pos (by omega),List.getElem?_eq_none (by omega)]
theorem chainR_len (L:List ClassA):∀ (f:Nat) (i:Int),(chainR L i f).length≤f
 | 0,_=>Nat.le_refl _
 | f+1,i=>by
  unfold chainR
  split
  ·split
   ·rename_i c _;have:=chainR_len L f c.super;simp;omega
   ·simp
  ·simp
theorem chain_len (L:List ClassA) (i:Int):(chain L i).length≤8:=chainR_len L 8 i
def textOk (b:ByteArray):Bool:=decide (1≤b.size) && decide (b.size≤16)
def deep (L:List ClassA):Nat→Int→Nat
 | 0,_=>0
 | f+1,i=>if 0≤i then (match L[i.toNat]? with | some c=>deep L f c.super+1 | none=>0) else 0
def superF (L:List ClassA) (s:Int):Int:=match L[s.toNat]? with | some c=>c.fields | none=>0
def classOk (L:List ClassA) (i:Nat) (c:ClassA):Bool :=
 decide (-1≤c.super) && decide (c.super < i) && decide (0≤c.fields) && decide (c.fields≤62) && decide (deep L (i+1) c.super+1≤8) && (decide (c.super < 0) || decide (superF L c.super≤c.fields))
def bindOk (names methods:Int) (b:Int × Int):Bool:=decide (0≤b.1) && decide (b.1 < names) && decide (0≤b.2) && decide (b.2 < methods)
def bindsOk (B:List (Int × Int)) (names methods:Int):Bool:=B.all (bindOk names methods) && decide ((B.map (·.1)).Nodup) && decide (B.length≤16)
def shapeFrom (L:List ClassA) (names methods:Int):Nat→List ClassA→Int
 | _,[]=>0
 | i,c :: R=>if textOk c.nm=false then 13 else if (L.take i).any (fun x=>decide (x.nm=c.nm))=true then 13 else if classOk L i c=false then 14 else if bindsOk c.binds names methods=false then 15 else shapeFrom L names methods (i+1) R
def headOk (L:List ClassA):Bool :=
 match L with
 | a :: b :: _=>decide (a.super=-1) && decide (b.super=-1) && decide (a.fields=4) && decide (b.fields=0)
 | _=>false
def shapeR (L:List ClassA) (names methods:Int):Int :=
 if L.length < 2∨12 < L.length then 3 else if headOk L=false then 14 else shapeFrom L names methods 0 L
structure ChR (w wr:World) (L:List ClassA) (i0 j:Int) (v:Value) (m:Nat) (C:List Int):Prop where
 own:wr.ownsRow w.heap.size 3 1 v m (ints C)
 len:m=C.length
 le:m≤8
 eq:chain L i0=C++chainR L j (8 - m)
 bel:Below w.heap.size w wr
 ij:In64 j
theorem ChR.last {w wr:World} {L:List ClassA} {i0 j:Int} {v:Value} {m:Nat} {C:List Int} (h:ChR w wr L i0 j v m C) (e:chainR L j (8 - m)=[]):SL wr 3 v (chain L i0):=by
 rw[h.eq,e,List.append_nil];have:=h.own;rw[h.len] at this;exact own_base this
theorem ChR.more {w wr w1 w2:World} {L:List ClassA} {i0:Int} {k:Nat} {v v':Value} {m:Nat} {C:List Int} {c:ClassA} (h:ChR w wr L i0 (k:Int) v m C) (hc:L[k]?=some c) (hl:m < 8) (hA:w1=wr.alloc (.cells #[.int .i64 (k:Int)] 3)) (ho:w2.ownsRow w.heap.size 3 1 v' (m+1) (ints C++ints [(k:Int)])) (hg:w1.grownBy w2 v.ownBlock) (hi:In64 c.super):ChR w w2 L i0 c.super v' (m+1) (C++[(k:Int)]):=by
 subst hA;refine⟨by simpa using ho,by simp[h.len],by omega,?_,(h.bel.alloc h.bel.size _).grown hg (by have:=h.bel.size;simp;omega) (fun k hk=>(h.own.lt k hk).1),hi⟩;rw[h.eq,show 8 - m=(7 - m)+1 by omega,chainR_on hc];simp[show 8 - (m+1)=7 - m by omega]
theorem text_c (b:ByteArray) (w:World) :
  Calls Tryz.prog 78 #[.string b] w fun e w'=>e=.returned (.bool (textOk b))∧w'=w:=by
 by_cases h1:1≤b.size
 ·by_cases h2:b.size≤16
  ·have e:textOk b=true:=by simp[textOk,h1,h2]
   rw[e];clear e;have h1':(1:Int)≤(b.size:Int):=by omega
   have h2':(b.size:Int)≤16:=by omega
   go_enter Tryz.func78,Tryz.ntmps78
   go_wp2
   go_ret;exact⟨rfl,rfl⟩
  ·have e:textOk b=false:=by simp[textOk,h2]
   rw[e];clear e;have h1':(1:Int)≤(b.size:Int):=by omega
   have h2':¬ (b.size:Int)≤16:=by omega
   go_enter Tryz.func78,Tryz.ntmps78
   go_wp2
   go_ret;exact⟨rfl,rfl⟩
 ·have e:textOk b=false:=by simp[textOk,h1]
  rw[e];clear e;have h1':¬ (1:Int)≤(b.size:Int):=by omega
  go_enter Tryz.func78,Tryz.ntmps78
  go_wp2
  go_ret;exact⟨rfl,rfl⟩
structure BdR (B:List (Int × Int)) (names methods:Int) (k:Nat):Prop where
 all:∀ x∈B.take k,bindOk names methods x=true
 nd:((B.take k).map (·.1)).Nodup
theorem BdR.start (B:List (Int × Int)) (names methods:Int):BdR B names methods 0:=⟨by simp,by simp⟩
theorem BdR.step {B:List (Int × Int)} {names methods:Int} {k:Nat} {b:Int × Int} (h:BdR B names methods k) (hb:B[k]?=some b) (ho:bindOk names methods b=true) (hd:∀ x∈B.take k,x.1≠b.1):BdR B names methods (k+1):=by
 refine⟨fun x hx=>?_,?_⟩
 ·rw[List.take_add_one,hb] at hx;rcases List.mem_append.1 hx with hx | hx
  ·exact h.all x hx
  ·have e:x=b:=by simpa using hx
   rw[e];exact ho
 ·rw[List.take_add_one,hb];simp only[Option.toList,List.map_append,List.map_cons,List.map_nil];rw[List.nodup_append];refine⟨h.nd,by simp,?_⟩;intro a ha c hc e;obtain⟨x,hx,rfl⟩:=List.mem_map.1 ha;exact hd x hx (e.trans (by simpa using hc))
theorem BdR.last {B:List (Int × Int)} {names methods:Int} (h:BdR B names methods B.length):bindsOk B names methods=decide (B.length≤16):=by
 have a:=h.all;have d:=h.nd;rw[List.take_length] at a d;unfold bindsOk;rw[List.all_eq_true.2 a,decide_eq_true d];rfl
theorem bind_bad {B:List (Int × Int)} {names methods:Int} {k:Nat} {b:Int × Int} (hb:B[k]?=some b) (ho:bindOk names methods b=false):bindsOk B names methods=false:=by
 have:B.all (bindOk names methods)=false:=by
  rw[Bool.eq_false_iff];intro h;rw[List.all_eq_true.1 h b (List.mem_of_getElem? hb)] at ho;cases ho
 unfold bindsOk;rw[this];rfl
theorem bind_twice {B:List (Int × Int)} {names methods:Int} {k j:Nat} {b x:Int × Int} (hb:B[k]?=some b) (hx:B[j]?=some x) (hj:j < k) (e:x.1=b.1):bindsOk B names methods=false:=by
 have:decide ((B.map (·.1)).Nodup)=false:=by
  rw[decide_eq_false_iff_not];intro h;obtain⟨hk,hbk⟩:=List.getElem?_eq_some_iff.1 hb;obtain⟨hj',hxj⟩:=List.getElem?_eq_some_iff.1 hx;have:=List.pairwise_iff_getElem.1 h j k (by simpa using hj') (by simpa using hk) hj;refine this ?_;simp[hbk,hxj,e]
 unfold bindsOk;rw[this];simp
theorem bindOk_of {names methods:Int} {b:Int × Int} (h0:0≤b.1) (h1:b.1 < names) (h2:0≤b.2) (h3:b.2 < methods):bindOk names methods b=true:=by simp[bindOk,h0,h1,h2,h3]
theorem bindOk_not {names methods:Int} {b:Int × Int} (h:b.1 < 0∨names≤b.1∨b.2 < 0∨methods≤b.2):bindOk names methods b=false:=by
 unfold bindOk;rcases h with h | h | h | h
 ·rw[decide_eq_false (by omega)];rfl
 ·rw[decide_eq_false (p:=b.1 < names) (by omega)];simp
 ·rw[decide_eq_false (p:=0≤b.2) (by omega)];simp
 ·rw[decide_eq_false (p:=b.2 < methods) (by omega)];simp
set_option maxHeartbeats 16000000 in
theorem binds_c {w:World} {v:Value} {B:List (Int × Int)} (h:PrV w v B) (names methods:Int) (hn:In64 names) (hm:In64 methods) :
  Calls Tryz.prog 80 #[v,.int .i64 names,.int .i64 methods] w fun e w'=>e=.returned (.bool (bindsOk B names methods))∧Below w.heap.size w w':=by
 obtain⟨ad,cap,rfl,hcap,hmx⟩:=h.form;obtain⟨n,hn⟩:∃ n,n=B.length:=⟨_,rfl⟩
 rw[← hn] at h hcap ⊢;replace h:=HD h;have hn':=HD hn
 have hnm:n≤9223372036854775807:=by have:maxLen≤9223372036854775807:=by decide
                                    omega
 have hst:Hid (BdR B names methods 0):=HD (BdR.start B names methods);clear hmx hn;go_enter Tryz.func80,Tryz.ntmps80
 go_wp2
 go_loopw [13] (fun i13 wr=>∃ (k:Nat),k≤n∧i13=.int .i64 k∧Hid (BdR B names methods k)∧Hid (Below w.heap.size w wr)) (fun i13 _=>n - (intOf i13).toNat)
 case atStart=>exact⟨0,by omega,rfl,hst,HD (Below.refl _ _)⟩
 case round =>
  obtain⟨k,hk,rfl,hR,hB⟩:=hrel;by_cases hlt:k < n
  ·have hlt':decide ((k:Int) < (n:Int))=true:=by simp;omega
   have p0:(0:Int)≤(k:Int):=by omega
   have p1:(k:Int) < (n:Int):=by omega
   have p2:(k:Int)≤(cap:Int):=by omega
   obtain⟨b,hb⟩:∃ b,B[k]?=some b:=⟨B[k]'(by have:=hn'.out;omega),by simp⟩
   obtain⟨⟨s0,s1⟩,⟨m0,m1⟩,g,off,rfl,c0,c1⟩:=(h.out.up hB.out).at hb;have hb':=HD hb;clear hb;obtain⟨bs,bm⟩:=b;by_cases q0:bs < 0
   ·have e:=HD (bind_bad hb'.out (bindOk_not (Or.inl q0):bindOk names methods (bs,bm)=false))
    go_wp2
    go_ret;exact⟨congrArg (fun b=>Ending.returned (Value.bool b)) e.out.symm,by have:=hB.out.size;first | exact hB.out.alloc this _ | exact (hB.out.alloc this _).alloc (by simp;omega) _⟩
   by_cases q1:names≤bs
   ·have e:=HD (bind_bad hb'.out (bindOk_not (Or.inr (Or.inl q1)):bindOk names methods (bs,bm)=false))
    go_wp2
    go_ret;exact⟨congrArg (fun b=>Ending.returned (Value.bool b)) e.out.symm,by have:=hB.out.size;first | exact hB.out.alloc this _ | exact (hB.out.alloc this _).alloc (by simp;omega) _⟩
   by_cases q2:bm < 0
   ·have e:=HD (bind_bad hb'.out (bindOk_not (Or.inr (Or.inr (Or.inl q2))):bindOk names methods (bs,bm)=false))
    go_wp2
    go_ret;exact⟨congrArg (fun b=>Ending.returned (Value.bool b)) e.out.symm,by have:=hB.out.size;first | exact hB.out.alloc this _ | exact (hB.out.alloc this _).alloc (by simp;omega) _⟩
   by_cases q3:methods≤bm
   ·have e:=HD (bind_bad hb'.out (bindOk_not (Or.inr (Or.inr (Or.inr q3))):bindOk names methods (bs,bm)=false))
    go_wp2
    go_ret;exact⟨congrArg (fun b=>Ending.returned (Value.bool b)) e.out.symm,by have:=hB.out.size;first | exact hB.out.alloc this _ | exact (hB.out.alloc this _).alloc (by simp;omega) _⟩
   have hok:=HD (bindOk_of (b:=(bs,bm)) (by omega) (by omega) (by omega) (by omega):bindOk names methods (bs,bm)=true);have hs0:=hB.out.size;have h':=HD (h.out.up (hB.out.trans ((Below.refl _ wr).alloc hs0 (.cells #[.int .i64 bs,.int .i64 bm] 66))));have hB':=HD (hB.out.alloc hs0 (.cells #[.int .i64 bs,.int .i64 bm] 66));have cb:Hid ((wr.alloc (.cells #[.int .i64 bs,.int .i64 bm] 66)).cell? ⟨wr.heap.size,0,none⟩=some (.int .i64 bs)):=HD (by simp)
   go_upto_region 6 with fail
   generalize wr.alloc (.cells #[.int .i64 bs,.int .i64 bm] 66)=w1 at *;generalize wr.heap.size=B8 at *;have hdl:Hid (∀ x∈B.take 0,x.1≠bs):=HD (by simp);clear h hB hs0 c0 c1 hst
   go_wp2
   go_loopw [42] (fun i42 wi=>∃ (j:Nat),j≤k∧i42=.int .i64 j∧Hid (∀ x∈B.take j,x.1≠bs)∧Hid (Below w1.heap.size w1 wi)) (fun i42 _=>k - (intOf i42).toNat)
   case atStart=>exact⟨0,by omega,rfl,hdl,HD (Below.refl _ _)⟩
   case round =>
    obtain⟨j,hj,rfl,hD,hBi⟩:=hrel;by_cases hjt:j < k
    ·have hjt':decide ((j:Int) < (k:Int))=true:=by simp;omega
     have r0:(0:Int)≤(j:Int):=by omega
     have r1:(j:Int) < (k:Int):=by omega
     obtain⟨⟨xs,xm⟩,hx⟩:∃ x,B[j]?=some x:=⟨B[j]'(by have:=hn'.out;omega),by simp⟩
     obtain⟨⟨x0,x1⟩,⟨y0,y1⟩,g',off',eg,d0,d1⟩:=(h'.out.up hBi.out).at hx;cases eg;have hx':=HD hx;have d8:=cell_up hBi.out cb.out;have hlt8:=World.block_lt_of_cell? _ _ d8;have d8':(wr.alloc (.cells #[.int .i64 xs,.int .i64 xm] 66)).cell? ⟨B8,0,none⟩=some (.int .i64 bs):=(World.cell?_alloc_old _ _ _ (Nat.ne_of_lt hlt8)).trans d8;clear hx;simp only at x0 x1 y0 y1 d0 d1;by_cases he:xs=bs
     ·have e:=HD (bind_twice (names:=names) (methods:=methods) hb'.out hx'.out hjt he);have he':(xs == bs)=true:=by simpa using he
      go_wp2
      go_ret;exact⟨congrArg (fun b=>Ending.returned (Value.bool b)) e.out.symm,(hB'.out.trans (hBi.out.mono (by have:=hB'.out.size;omega))).alloc (by have:=hB'.out.size;have:=hBi.out.size;omega) _⟩
     ·have he':(xs == bs)=false:=by simpa using he
      have hD':Hid (∀ x∈B.take (j+1),x.1≠bs):=HD (fun x hx=>by
       rw[List.take_add_one,hx'.out] at hx;rcases List.mem_append.1 hx with hx | hx
       ·exact hD.out x hx
       ·have e:x=(xs,xm):=by simpa using hx
        rw[e];exact he)
      go_wp2
      go_roundw
      case rel=>exact⟨j+1,by omega,by go_num,hD',HD (hBi.out.alloc hBi.out.size _)⟩
      case measure=>simp[intOf];omega
    ·have hR':=HD (hR.out.step hb'.out hok.out (by have:=hD.out;rw[show j=k by omega] at this;exact this));have hB2:=HD (hB'.out.trans (hBi.out.mono (by have:=hB'.out.size;omega)))
     go_wp2
     go_roundw
     case rel=>exact⟨k+1,by omega,by go_num,hR',hB2⟩
     case measure=>simp[intOf];omega
  ·have hR':BdR B names methods B.length:=by have:=hR.out;rw[show k=B.length by have:=hn'.out;omega] at this;exact this
   have e:=HD hR'.last;have hl:decide (B.length≤16)=decide ((n:Int)≤16):=by have:=hn'.out;rw[decide_eq_decide];omega
   rw[hl] at e;clear hR' hl
   go_wp2
   go_ret;exact⟨congrArg (fun b=>Ending.returned (Value.bool b)) e.out.symm,hB.out⟩
def Down (L:List ClassA) (i:Nat):Prop:=∀ (k:Nat) c,k < i→L[k]?=some c→-1≤c.super∧c.super < k
theorem deep_le (L:List ClassA):∀ (f:Nat) (i:Int),deep L f i≤f
 | 0,_=>Nat.le_refl _
 | f+1,i=>by
  unfold deep
  split
  ·split
   ·rename_i c _;have:=deep_le L f c.super;omega
   ·omega
  ·omega
theorem deep_on {L:List ClassA} {k f:Nat} {c:ClassA} (h:L[k]?=some c):deep L (f+1) (k:Int)=deep L f c.super+1:=by
 have h0:(0:Int)≤(k:Int):=by omega
 rw[deep,if_pos h0,Int.toNat_natCast,h]
theorem deep_neg {L:List ClassA} {i:Int} (f:Nat) (h:i < 0):deep L f i=0:=by
 cases f with
 | zero=>rfl
 | succ f=>rw[deep,if_neg (by omega)]
theorem classOk_bad {L:List ClassA} {i:Nat} {c:ClassA} (h:c.super < -1∨(i:Int)≤c.super∨c.fields < 0∨62 < c.fields):classOk L i c=false:=by
 unfold classOk;rcases h with h | h | h | h
 ·rw[decide_eq_false (by omega)];rfl
 ·rw[decide_eq_false (p:=c.super < i) (by omega)];simp
 ·rw[decide_eq_false (p:=0≤c.fields) (by omega)];simp
 ·rw[decide_eq_false (p:=c.fields≤62) (by omega)];simp
theorem classOk_eq {L:List ClassA} {i:Nat} {c:ClassA} (h1:-1≤c.super) (h2:c.super < i) (h3:0≤c.fields) (h4:c.fields≤62):classOk L i c=(decide (deep L (i+1) c.super+1≤8) && (decide (c.super < 0) || decide (superF L c.super≤c.fields))):=by
 unfold classOk;rw[decide_eq_true h1,decide_eq_true h2,decide_eq_true h3,decide_eq_true h4];rfl
structure DpR (L:List ClassA) (i:Nat) (s:Int) (d:Nat) (j:Int):Prop where
 ex:∃ f,d+deep L f j=1+deep L (i+1) s∧j < f
 ji:j < i
theorem DpR.step {L:List ClassA} {i k d:Nat} {s:Int} {x:ClassA} (h:DpR L i s d (k:Int)) (hx:L[k]?=some x) (hs:x.super < k):DpR L i s (d+1) x.super:=by
 obtain⟨⟨f,e,hf⟩,hi⟩:=h;obtain⟨f',rfl⟩:∃ f',f=f'+1:=⟨f - 1,by omega⟩
 rw[deep_on hx] at e;exact⟨⟨f',by omega,by omega⟩,by omega⟩
theorem DpR.last {L:List ClassA} {i d:Nat} {s j:Int} (h:DpR L i s d j) (hj:j < 0):deep L (i+1) s+1=d:=by
 obtain⟨⟨f,e,hf⟩,hi⟩:=h;rw[deep_neg f hj] at e;omega
theorem DpR.le {L:List ClassA} {i d:Nat} {s j:Int} (h:DpR L i s d j):d≤i+2:=by
 obtain⟨⟨f,e,hf⟩,hi⟩:=h;have:=deep_le L (i+1) s;omega
set_option maxHeartbeats 16000000 in
theorem class_c {w:World} {v:Value} {L:List ClassA} (h:ClV w v L) {i:Nat} {c:ClassA} (hi:L[i]?=some c) (hD:Down L i) (h100:L.length≤100) :
  Calls Tryz.prog 79 #[v,.int .i64 i] w fun e w'=>e=.returned (.bool (classOk L i c))∧Below w.heap.size w w':=by
 obtain⟨ad,cap,rfl,hcap,hmx⟩:=h.form;obtain⟨n,hn⟩:∃ n,n=L.length:=⟨_,rfl⟩
 rw[← hn] at h hcap h100 ⊢;have hin:i < n:=by rw[hn];exact (List.getElem?_eq_some_iff.1 hi).1
 obtain⟨⟨s0,s1⟩,⟨f0,f1⟩,g,off,bv,rfl,c0,c1,c2,c3,hbv⟩:=h.at hi;obtain⟨ba,bc,rfl,_⟩:=hbv.form;generalize c.binds.length=bm at *;have hi':=HD hi;have hD':=HD hD;have hn':=HD hn;have i0:(0:Int)≤(i:Int):=by omega
 have i1:(i:Int) < (n:Int):=by omega
 have hb1:Below w.heap.size w (w.alloc (.cells #[.string c.nm,.int .i64 c.super,.int .i64 c.fields,.slice ba bm bc] 60)):=(Below.refl _ _).alloc (Nat.le_refl _) _;have h':=HD (h.up hb1);replace hb1:=HD hb1;replace h:=HD h;obtain⟨nm,s,fl,bds⟩:=c;simp only at s0 s1 f0 f1 c0 c1 c2 c3;clear hbv hmx hi hD hn;by_cases q0:s < -1
 ·have e:=HD (classOk_bad (L:=L) (i:=i) (c:=⟨nm,s,fl,bds⟩) (Or.inl q0));go_enter Tryz.func79,Tryz.ntmps79
  go_wp2
  go_ret;exact⟨congrArg (fun b=>Ending.returned (Value.bool b)) e.out.symm,hb1.out⟩
 by_cases q1:(i:Int)≤s
 ·have e:=HD (classOk_bad (L:=L) (i:=i) (c:=⟨nm,s,fl,bds⟩) (Or.inr (Or.inl q1)));go_enter Tryz.func79,Tryz.ntmps79
  go_wp2
  go_ret;exact⟨congrArg (fun b=>Ending.returned (Value.bool b)) e.out.symm,hb1.out⟩
 by_cases q2:fl < 0
 ·have e:=HD (classOk_bad (L:=L) (i:=i) (c:=⟨nm,s,fl,bds⟩) (Or.inr (Or.inr (Or.inl q2))));go_enter Tryz.func79,Tryz.ntmps79
  go_wp2
  go_ret;exact⟨congrArg (fun b=>Ending.returned (Value.bool b)) e.out.symm,hb1.out⟩
 by_cases q3:62 < fl
 ·have e:=HD (classOk_bad (L:=L) (i:=i) (c:=⟨nm,s,fl,bds⟩) (Or.inr (Or.inr (Or.inr q3))));go_enter Tryz.func79,Tryz.ntmps79
  go_wp2
  go_ret;exact⟨congrArg (fun b=>Ending.returned (Value.bool b)) e.out.symm,hb1.out⟩
 have e:=HD (classOk_eq (L:=L) (i:=i) (c:=⟨nm,s,fl,bds⟩) (by simp only;omega) (by simp only;omega) (by simp only;omega) (by simp only;omega));have hst:Hid (DpR L i s 1 s):=HD ⟨⟨i+1,by omega,by omega⟩,by omega⟩;go_enter Tryz.func79,Tryz.ntmps79
 go_wp2
 have k1:(w.alloc (.cells #[.string nm,.int .i64 s,.int .i64 fl,.slice ba bm bc] 60)).cell? ⟨w.heap.size,1,none⟩=some (.int .i64 s):=by simp
 have k2:(w.alloc (.cells #[.string nm,.int .i64 s,.int .i64 fl,.slice ba bm bc] 60)).cell? ⟨w.heap.size,2,none⟩=some (.int .i64 fl):=by simp
 clear c0 c1 c2 c3;generalize w.alloc (.cells #[.string nm,.int .i64 s,.int .i64 fl,.slice ba bm bc] 60)=w1 at *
 go_loopw [6,7] (fun i6 i7 wr=>∃ (d:Nat) (j:Int),i6=.int .i64 d∧i7=.int .i64 j∧-1≤j∧Hid (DpR L i s d j)∧wr=w1) (fun _ i7 _=>(intOf i7+1).toNat)
 case atStart=>exact⟨1,s,rfl,rfl,by omega,hst,rfl⟩
 case round =>
  obtain⟨d,j,rfl,rfl,hj,hR,rfl⟩:=hrel;have hd:(d:Int)≤102:=by have:=hR.out.le;omega
  have hji:=hR.out.ji;by_cases hj0:0≤j
  ·obtain⟨k,rfl⟩:∃ k:Nat,j=k:=⟨j.toNat,by omega⟩
   obtain⟨⟨xn,xs,xf,xb⟩,hx⟩:∃ x,L[k]?=some x:=⟨L[k]'(by have:=hn'.out;omega),by simp⟩
   obtain⟨⟨x0,x1⟩,_,g',off',bv',eg,d0,d1,d2,d3,_⟩:=h'.out.at hx;cases eg;obtain⟨y0,y1⟩:=hD'.out k _ (by omega) hx;simp only at x0 x1 d1 y0 y1;have hR':=HD (hR.out.step hx (by simpa using y1));have l1:(k:Int) < (n:Int):=by omega
   clear d0 d2 d3 hx
   go_wp2
   go_roundw
   case rel=>exact⟨d+1,xs,by go_num,rfl,y0,hR',trivial⟩
   case measure=>simp[intOf];omega
  ·have ed:=hR.out.last (by omega);rw[ed] at e;clear ed;have hb1s:=HD hb1.out.size;by_cases d8:d≤8
   ·have d8i:(d:Int)≤8:=by omega
    have d8':decide ((d:Int)≤8)=true:=by simp;omega
    by_cases sn:s < 0
    ·have e2:=HD (e.out.trans (by simp[d8,sn]:_=true));have sn':decide (s < 0)=true:=by simpa using sn
     go_wp2
     go_big_quiet (fail)
     go_wp2
     go_ret;exact⟨congrArg (fun b=>Ending.returned (Value.bool b)) e2.out.symm,hb1.out.trans ((drewK _ _).mono hb1.out.size)⟩
    ·obtain⟨k,rfl⟩:∃ k:Nat,s=k:=⟨s.toNat,by omega⟩
     obtain⟨⟨xn,xs,xf,xb⟩,hx⟩:∃ x,L[k]?=some x:=⟨L[k]'(by have:=hn'.out;omega),by simp⟩
     obtain⟨_,⟨x0,x1⟩,g',off',bv',eg,d0,d1,d2,d3,_⟩:=h'.out.at hx;cases eg;simp only at x0 x1 d2;have sn':decide ((k:Int) < 0)=false:=by simp
     have l0:(0:Int)≤(k:Int):=by omega
     have l1:(k:Int) < (n:Int):=by omega
     have hsf:superF L (k:Int)=xf:=by unfold superF;rw[Int.toNat_natCast,hx]
     rw[hsf] at e;clear d0 d1 d3 hx hsf;by_cases fx:xf≤fl
     ·have e2:=HD (e.out.trans (by simp[d8,fx]:_=true));have fx':decide (xf≤fl)=true:=by simpa using fx
      have fx2:decide (fl ≥ xf)=true:=by simpa using fx
      go_wp2
      go_big_quiet (fail)
      go_wp2
      go_ret;exact⟨congrArg (fun b=>Ending.returned (Value.bool b)) e2.out.symm,hb1.out.trans ((drewK _ _).mono hb1.out.size)⟩
     ·have e2:=HD (e.out.trans (by simp[d8,fx]:_=false));have fx':decide (xf≤fl)=false:=by simpa using fx
      have fx2:decide (fl ≥ xf)=false:=by simpa using fx
      go_wp2
      go_big_quiet (fail)
      go_wp2
      go_ret;exact⟨congrArg (fun b=>Ending.returned (Value.bool b)) e2.out.symm,hb1.out.trans ((drewK _ _).mono hb1.out.size)⟩
   ·have e2:=HD (e.out.trans (by simp[d8]:_=false));have d8i:¬ (d:Int)≤8:=by omega
    have d8':decide ((d:Int)≤8)=false:=by simp;omega
    go_wp2
    go_big_quiet (fail)
    go_wp2
    go_ret;exact⟨congrArg (fun b=>Ending.returned (Value.bool b)) e2.out.symm,hb1.out.trans ((drewK _ _).mono hb1.out.size)⟩
end Wd
end Go.Proofs.YtgfnelhbdhbklaaGreat
