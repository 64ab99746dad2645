/- Texts joined: UCW. -/
import Derived.Test.YtgfnelhbdhbklaaGreatJT12
namespace Go.Proofs.YtgfnelhbdhbklaaGreat
open Go.RowKit
set_option linter.unusedVariables false
set_option maxRecDepth 20000
namespace Wd
theorem pick_n {α:Type} {P:Nat→α→Prop}:∀ n:Nat,(∀ k,k < n→∃ x,P k x)→∃ L:List α,L.length=n∧∀ (k:Nat) x,L[k]?=some x→P k x
 | 0,_=>⟨[],rfl,fun k x h=>by simp at h⟩
 | n+1,h=>by
  obtain⟨L,hl,hp⟩:=pick_n n (fun k hk=>h k (by omega));obtain⟨x,hx⟩:=h n (by omega);refine⟨L++[x],by simp[hl],fun k y hy=>?_⟩;by_cases hk:k < n
  ·rw[List.getElem?_append_left (by omega)] at hy;exact hp k y hy
  ·have hkl:=(List.getElem?_eq_some_iff.1 hy).1;rw[List.length_append,List.length_singleton] at hkl;obtain rfl:k=n:=by omega
   rw[List.getElem?_append_right (by omega),hl,Nat.sub_self] at hy;obtain rfl:x=y:=by simpa using hy
   exact hx
def Alk (v v':Value):Prop:=v'=v∨(∃ x y,v=.int .i64 x∧v'=.int .i64 y∧In64 y)∨(∃ x y,v=.int .u8 x∧v'=.int .u8 y∧0≤y∧y≤255)∨∃ s t,v=.string s∧v'=.string t
theorem Alk.trans {a b c:Value} (h:Alk a b) (k:Alk b c):Alk a c:=by
 rcases h with rfl | ⟨x,y,rfl,rfl,h⟩ | ⟨x,y,rfl,rfl,h⟩ | ⟨s,t,rfl,rfl⟩
 ·exact k
 ·rcases k with rfl | ⟨x',y',e,rfl,h'⟩ | ⟨x',y',e,rfl,h'⟩ | ⟨s,t,e,rfl⟩
  ·exact Or.inr (Or.inl ⟨x,y,rfl,rfl,h⟩)
  ·exact Or.inr (Or.inl ⟨x,y',rfl,rfl,h'⟩)
  ·cases e
  ·cases e
 ·rcases k with rfl | ⟨x',y',e,rfl,h'⟩ | ⟨x',y',e,rfl,h'⟩ | ⟨s,t,e,rfl⟩
  ·exact Or.inr (Or.inr (Or.inl ⟨x,y,rfl,rfl,h⟩))
  ·cases e
  ·exact Or.inr (Or.inr (Or.inl ⟨x,y',rfl,rfl,h'⟩))
  ·cases e
 ·rcases k with rfl | ⟨x',y',e,rfl,h'⟩ | ⟨x',y',e,rfl,h'⟩ | ⟨s',t',e,rfl⟩
  ·exact Or.inr (Or.inr (Or.inr ⟨s,t,rfl,rfl⟩))
  ·cases e
  ·cases e
  ·exact Or.inr (Or.inr (Or.inr ⟨s,t',rfl,rfl⟩))
structure SK (w w':World):Prop where
 cell:∀ b v,w.cell? b=some v→∃ v',w'.cell? b=some v'∧Alk v v'
 fz:∀ b,w'.frozen? b=w.frozen? b
section
variable {w w1 w2:World}
theorem SK.refl (w:World):SK w w:=⟨fun b v h=>⟨v,h,Or.inl rfl⟩,fun _=>rfl⟩
theorem SK.trans (h:SK w w1) (k:SK w1 w2):SK w w2 :=
 ⟨fun b v hb=>by
  obtain⟨v1,c1,a1⟩:=h.cell b v hb;obtain⟨v2,c2,a2⟩:=k.cell b v1 c1;exact⟨v2,c2,a1.trans a2⟩,fun b=>(k.fz b).trans (h.fz b)⟩
theorem SK.set {a:Addr} {u x:Value} (ha:w.cell? a=some u) (hx:Alk u x):SK w (w.setCell a x) :=
 ⟨fun b v hb=>by
  by_cases e:a=b
  ·subst e;rw[ha] at hb;cases hb;exact⟨x,World.cell?_setCell_same _ _ _ ha,hx⟩
  ·exact⟨v,(World.cell?_setCell_other _ _ _ _ e).trans hb,Or.inl rfl⟩,fun b=>World.frozen?_setCell _ _ _ _⟩
theorem SK.drew (h:SK w w1):SK w w1.drew:=⟨h.cell,h.fz⟩
theorem SK.keep (h:SK w w1) (b:Below w1.heap.size w1 w2) (hf:∀ p,w2.frozen? p=w1.frozen? p):SK w w2 :=
 ⟨fun p v hp=>by
  obtain⟨v',c,a⟩:=h.cell p v hp;exact⟨v',cell_up b c,a⟩,fun p=>(hf p).trans (h.fz p)⟩
theorem SK.int (h:SK w w1) {b:Addr} {x:Int} (hb:w.cell? b=some (.int .i64 x)) (hx:In64 x):∃ y,In64 y∧w1.cell? b=some (.int .i64 y):=by
 obtain⟨v',c,a⟩:=h.cell _ _ hb;rcases a with rfl | ⟨_,y,_,rfl,hy⟩ | ⟨_,_,e,_⟩ | ⟨_,_,e,_⟩
 ·exact⟨x,hx,c⟩
 ·exact⟨y,hy,c⟩
 ·cases e
 ·cases e
theorem SK.byte (h:SK w w1) {b:Addr} {x:Int} (hb:w.cell? b=some (.int .u8 x)) (hx:0≤x∧x≤255):∃ y,(0≤y∧y≤255)∧w1.cell? b=some (.int .u8 y):=by
 obtain⟨v',c,a⟩:=h.cell _ _ hb;rcases a with rfl | ⟨_,_,e,_⟩ | ⟨_,y,_,rfl,hy⟩ | ⟨_,_,e,_⟩
 ·exact⟨x,hx,c⟩
 ·cases e
 ·exact⟨y,hy,c⟩
 ·cases e
theorem SK.sl (h:SK w w1) {b:Addr} {ad:Option Addr} {n c:Nat} (hb:w.cell? b=some (.slice ad n c)):w1.cell? b=some (.slice ad n c):=by
 obtain⟨v',c',a⟩:=h.cell _ _ hb;rcases a with rfl | ⟨_,_,e,_⟩ | ⟨_,_,e,_⟩ | ⟨_,_,e,_⟩
 ·exact c'
 ·cases e
 ·cases e
 ·cases e
end
end Wd
end Go.Proofs.YtgfnelhbdhbklaaGreat
