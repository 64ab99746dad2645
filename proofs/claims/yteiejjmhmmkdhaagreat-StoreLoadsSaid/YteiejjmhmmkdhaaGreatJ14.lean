/- Texts joined: YD, YE, YF, YG, YH, YJ, YK. -/
import Derived.Test.YteiejjmhmmkdhaaGreatJ12
import Derived.Test.YteiejjmhmmkdhaaGreatJ13
import Derived.BigRegion
/- The document's own Ideal: Swap. -/
namespace Go.Proofs.YteiejjmhmmkdhaaGreat
open Go.RowKit
set_option linter.unusedVariables false
set_option maxRecDepth 20000
namespace Wd
def swF {α:Type} (f:Nat→α) (k m:Nat):Nat→α:=fun q=>if q=m then f k else if q=k then f m else f q
theorem swF_at {α:Type} {L:List α} {k m:Nat} {x y:α} (hx:L[k]?=some x) (hy:L[m]?=some y) {q:Nat} {z:α} (hz:((L.set k y).set m x)[q]?=some z):(q=m∧z=x)∨(q≠m∧q=k∧z=y)∨(q≠m∧q≠k∧L[q]?=some z):=by
 have hk:=(List.getElem?_eq_some_iff.1 hx).1
 have hm:=(List.getElem?_eq_some_iff.1 hy).1
 rw [List.getElem?_set] at hz
 split at hz
 ·rename_i e;subst e
  simp only [List.length_set] at hz
  rw [if_pos hm] at hz
  cases hz
  exact Or.inl ⟨rfl,rfl⟩
 ·rename_i h1
  rw [List.getElem?_set] at hz
  split at hz
  ·rename_i e;subst e
   cases hz
   exact Or.inr (Or.inl ⟨fun e=>h1 e.symm,rfl,rfl⟩)
  ·rename_i h2
   exact Or.inr (Or.inr ⟨fun e=>h1 e.symm,fun e=>h2 e.symm,hz⟩)
section
variable {w w' w1 w2 wr:World} {b:Nat} {v:Value} {xs:List Value} {us:Nat→Value} {L:List Ob8}
theorem RD.swap {g cap:Nat} (h:RD w b (.slice (some ⟨g,0,none⟩) L.length cap) xs us L) {k m:Nat} {x y:Ob8} (hx:L[k]?=some x) (hy:L[m]?=some y) :
  RD ((((w.setCell ⟨g,k*2,none⟩ (.int .i64 y.1)).setCell ⟨g,k*2+1,none⟩ (us m)).setCell ⟨g,m*2,none⟩ (.int .i64 x.1)).setCell ⟨g,m*2+1,none⟩ (us k)) b (.slice (some ⟨g,0,none⟩) L.length cap) ((((xs.set (k*2) (.int .i64 y.1)).set (k*2+1) (us m)).set (m*2) (.int .i64 x.1)).set (m*2+1) (us k)) (swF us k m) ((L.set k y).set m x)
  ∧ Cg (unR b (.slice (some ⟨g,0,none⟩) L.length cap) us L.length) w ((((w.setCell ⟨g,k*2,none⟩ (.int .i64 y.1)).setCell ⟨g,k*2+1,none⟩ (us m)).setCell ⟨g,m*2,none⟩ (.int .i64 x.1)).setCell ⟨g,m*2+1,none⟩ (us k))
  ∧ ∀ q,unR b (.slice (some ⟨g,0,none⟩) L.length cap) (swF us k m) ((L.set k y).set m x).length q→unR b (.slice (some ⟨g,0,none⟩) L.length cap) us L.length q:=by
 have hk:=(List.getElem?_eq_some_iff.1 hx).1
 have hm:=(List.getElem?_eq_some_iff.1 hy).1
 have hlx:xs.length=L.length*2:=h.row.1
 have hv:(Value.slice (some ⟨g,0,none⟩) L.length cap).ownBlock=some g:=rfl
 have hgb:g≠b:=fun e=>h.vb (by rw [hv,e])
 have hc:Cg (fun q=>q=g) w ((((w.setCell ⟨g,k*2,none⟩ (.int .i64 y.1)).setCell ⟨g,k*2+1,none⟩ (us m)).setCell ⟨g,m*2,none⟩ (.int .i64 x.1)).setCell ⟨g,m*2+1,none⟩ (us k)):=((((Cg.refl (fun q=>q=g) w).set ⟨g,k*2,none⟩ rfl _).set ⟨g,k*2+1,none⟩ rfl _).set ⟨g,m*2,none⟩ rfl _).set ⟨g,m*2+1,none⟩ rfl _
 have oth:∀ q,q < w.heap.size→q≠g→_:=fun q hq hne=>hc.block q hq hne
 have hp:b < w.heap.size:=World.block_lt_of_cell? w _ h.c0
 have hswl:((L.set k y).set m x).length=L.length:=by simp
 have hus:∀ j,j < L.length→∃ i,i < L.length∧swF us k m j=us i∧(j=m→i=k)∧(j≠m→j=k→i=m)∧(j≠m→j≠k→i=j):=fun j hj=>by
  unfold swF
  by_cases e1:j=m
  ·exact⟨k,hk,by rw [if_pos e1],fun _=>rfl,fun e=>absurd e1 e,fun e=>absurd e1 e⟩
  ·by_cases e2:j=k
   ·exact⟨m,hm,by rw [if_neg e1,if_pos e2],fun e=>absurd e e1,fun _ _=>rfl,fun _ e=>absurd e2 e⟩
   ·exact⟨j,hj,by rw [if_neg e1,if_neg e2],fun e=>absurd e e1,fun _ e=>absurd e e2,fun _ _=>rfl⟩
 refine⟨⟨(World.cell?_of_block (a:=⟨b,0,none⟩) (oth b hp (fun e=>hgb e.symm))).trans h.c0,(World.frozen?_of_block (a:=⟨b,0,none⟩) (oth b hp (fun e=>hgb e.symm))).trans h.z,?_,?_,?_,?_,h.vb⟩,hc.mono (fun q hq=>Or.inr (Or.inl (by rw [hq];rfl))),?_⟩
 ·rw [hswl]
  exact ((((h.row.stored _ _).1.stored _ _).1.stored _ _).1.stored _ _).1
 ·intro q z hz
  have own':∀ i zz,L[i]?=some zz→_:=fun i zz hi=>own_same (h.at' i zz hi).2.2.1 (fun p hp2=>oth p (own_lt (h.at' i zz hi).2.2.1 p hp2) (fun e=>(h.ap i p (List.getElem?_eq_some_iff.1 hi).1 hp2).2 (by rw [hv,e]))) hc.size
  rcases swF_at hx hy hz with ⟨rfl,rfl⟩ | ⟨n1,rfl,rfl⟩ | ⟨n1,n2,hz2⟩
  ·obtain⟨_,_,_,h4⟩:=h.at' k z hx
   refine⟨?_,?_,?_,h4⟩
   ·rw [List.getElem?_set_ne (by omega),List.getElem?_set_self (by simp;omega)]
   ·rw [List.getElem?_set_self (by simp;omega)];unfold swF;rw [if_pos rfl]
   ·unfold swF;rw [if_pos rfl];exact own' k z hx
  ·obtain⟨_,_,_,h4⟩:=h.at' m z hy
   refine⟨?_,?_,?_,h4⟩
   ·rw [List.getElem?_set_ne (by omega),List.getElem?_set_ne (by omega),List.getElem?_set_ne (by omega),List.getElem?_set_self (by omega)]
   ·rw [List.getElem?_set_ne (by omega),List.getElem?_set_ne (by omega),List.getElem?_set_self (by simp;omega)];unfold swF;rw [if_neg n1,if_pos rfl]
   ·unfold swF;rw [if_neg n1,if_pos rfl];exact own' m z hy
  ·obtain⟨g1,g2,g3,h4⟩:=h.at' q z hz2
   refine⟨?_,?_,?_,h4⟩
   ·rw [List.getElem?_set_ne (by omega),List.getElem?_set_ne (by omega),List.getElem?_set_ne (by omega),List.getElem?_set_ne (by omega)];exact g1
   ·rw [List.getElem?_set_ne (by omega),List.getElem?_set_ne (by omega),List.getElem?_set_ne (by omega),List.getElem?_set_ne (by omega)];unfold swF;rw [if_neg n1,if_neg n2];exact g2
   ·unfold swF;rw [if_neg n1,if_neg n2];exact own' q z hz2
 ·intro i j q hi hj ei ej
  rw [hswl] at hi hj
  obtain⟨i',hi',e1,a1,a2,a3⟩:=hus i hi
  obtain⟨j',hj',e2,c1,c2,c3⟩:=hus j hj
  rw [e1] at ei
  rw [e2] at ej
  have:=h.inj i' j' q hi' hj' ei ej
  subst this
  by_cases p1:i=m <;> by_cases p2:j=m <;> by_cases p3:i=k <;> by_cases p4:j=k <;> simp_all <;> omega
 ·intro i q hi ei
  rw [hswl] at hi
  obtain⟨i',hi',e1,_⟩:=hus i hi
  rw [e1] at ei
  exact h.ap i' q hi' ei
 ·rintro q (rfl | hq | ⟨j,hj,hq⟩)
  ·exact Or.inl rfl
  ·exact Or.inr (Or.inl hq)
  ·rw [hswl] at hj
   obtain⟨j',hj',e1,_⟩:=hus j hj
   rw [e1] at hq
   exact Or.inr (Or.inr ⟨j',hj',hq⟩)
theorem RD.froz {g cap:Nat} (h:RD w b (.slice (some ⟨g,0,none⟩) L.length cap) xs us L) (j:Nat):w.frozen? ⟨g,j,none⟩=false:=own_froz h.row j
theorem cell_set_ex {a p:Addr} {u o:Value} (h:w.cell? a=some o):∃ o,(w.setCell p u).cell? a=some o:=by
 by_cases e:a=p
 ·subst e;exact⟨u,World.cell?_setCell_same _ _ _ h⟩
 ·exact⟨o,by rw [World.cell?_setCell_other _ _ _ _ (fun e2=>e e2.symm)];exact h⟩
theorem cell_two {a p p2:Addr} {u u2 o:Value} (h:w.cell? a=some o):∃ o,((w.setCell p u).setCell p2 u2).cell? a=some o:=by
 obtain⟨o1,h1⟩:=cell_set_ex (p:=p) (u:=u) h
 exact cell_set_ex h1
set_option maxHeartbeats 32000000 in
theorem rswap_c (h:RD w b v xs us L) (i j:Int) (hi:b64 i) (hj:b64 j) (hl:L.length≤100000):Calls Tryz.prog 16 #[pV b,.int .i64 i,.int .i64 j] w fun e w'=>e=.returned (.bool (swB8 L i j))∧∃ xs' us',RD w' b v xs' us' (swL L i j)∧Cg (unR b v us L.length) w w'∧∀ q,unR b v us' (swL L i j).length q→unR b v us L.length q:=by
 have P1:=Lib.hid (rhas_c h i hi hl)
 have P2:=Lib.hid (rhas_c h j hj hl)
 have fin0:=Lib.hid (⟨xs,us,h,Cg.refl _ _,fun q hq=>hq⟩:∃ xs' us',RD w b v xs' us' L∧Cg (unR b v us L.length) w w∧∀ q,unR b v us' L.length q→unR b v us L.length q)
 cases hh:hasL L i with
 | false =>
  have e1:swB8 L i j=false:=by unfold swB8;rw [hh];rfl
  have e2:swL L i j=L:=by unfold swL;rw [e1];rfl
  rw [e1,e2]
  rw [hh] at P1
  clear h hh e1 e2 P2
  go_enter Tryz.func16,Tryz.ntmps16
  go_wp2_with (first | (go_at_call 39;(with_reducible refine (P1.out).mono ?_);rintro e w2 ⟨rfl,hw2⟩;subst w2))
  go_ret
  exact⟨rfl,fin0.out⟩
 | true =>
  rw [hh] at P1
  cases hh2:hasL L j with
  | false =>
   have e1:swB8 L i j=false:=by unfold swB8;rw [hh,hh2];rfl
   have e2:swL L i j=L:=by unfold swL;rw [e1];rfl
   rw [e1,e2]
   rw [hh2] at P2
   clear h hh hh2 e1 e2
   go_enter Tryz.func16,Tryz.ntmps16
   go_upto_region 1 with fail
   go_wp2_with (first | (go_at_call 39;(first | (with_reducible refine (P1.out).mono ?_;rintro e w2 ⟨rfl,hw2⟩;subst w2;clear P1) | (with_reducible refine (P2.out).mono ?_;rintro e w2 ⟨rfl,hw2⟩;subst w2))))
   go_ret
   exact⟨rfl,fin0.out⟩
  | true =>
   rw [hh2] at P2
   obtain⟨k,x,rfl,hk,hx,ho⟩:=hasL_y hh
   obtain⟨m,y,rfl,hm,hy,ho2⟩:=hasL_y hh2
   have e1:swB8 L (4+(k:Int)) (4+(m:Int))=true:=by unfold swB8;rw [hh,hh2];rfl
   have e2:swL L (4+(k:Int)) (4+(m:Int))=(L.set k y).set m x:=by unfold swL;rw [e1,if_pos rfl,ho,ho2,show (4+(k:Int) - 4).toNat=k by omega,show (4+(m:Int) - 4).toNat=m by omega]
   rw [e1,e2]
   have c0:=h.c0
   obtain⟨g,cap,rfl,ca,cb,ua,uc,eu⟩:=h.cells hx
   obtain⟨g',cap',eg,ca2,cb2,ua2,uc2,eu2⟩:=h.cells hy
   cases eg
   have zz:=Lib.hid (fun j=>h.froz j)
   have fin:=Lib.hid ((h.keep ((Below.refl _ _).drew)).swap hx hy)
   rw [eu] at cb
   rw [eu2] at cb2
   rw [eu,eu2] at fin
   have fin2:Hid (∀ W1,(w.drew.setCell ⟨g,k*2,none⟩ (.int .i64 y.1)).setCell ⟨g,k*2+1,none⟩ (.slice ua2 y.2.length uc2)=W1→∃ xs' us',RD ((W1.setCell ⟨g,m*2,none⟩ (.int .i64 x.1)).setCell ⟨g,m*2+1,none⟩ (.slice ua x.2.length uc)) b (.slice (some ⟨g,0,none⟩) L.length cap) xs' us' ((L.set k y).set m x)∧Cg (unR b (.slice (some ⟨g,0,none⟩) L.length cap) us L.length) w ((W1.setCell ⟨g,m*2,none⟩ (.int .i64 x.1)).setCell ⟨g,m*2+1,none⟩ (.slice ua x.2.length uc))∧∀ q,unR b (.slice (some ⟨g,0,none⟩) L.length cap) us' ((L.set k y).set m x).length q→unR b (.slice (some ⟨g,0,none⟩) L.length cap) us L.length q):=Lib.hid (fun W1 e=>by
    subst e
    obtain⟨f1,f2,f3⟩:=fin.out
    exact⟨_,_,f1,((Cg.refl _ w).drew).trans f2,f3⟩)
   have hw:IntKind.i64.wrap (4+(k:Int) - 4)=(k:Int):=by rw [IntKind.wrap_i64];omega
   have hw2:IntKind.i64.wrap (4+(m:Int) - 4)=(m:Int):=by rw [IntKind.wrap_i64];omega
   have hkl:(k:Int) < (L.length:Int):=by omega
   have hml:(m:Int) < (L.length:Int):=by omega
   clear h hh hh2 ho ho2 e1 e2 fin fin0 hx hy eu eu2
   go_enter Tryz.func16,Tryz.ntmps16
   go_upto_region 3 with (first | (go_at_call 39;(first | (with_reducible refine (P1.out).mono ?_;rintro e w2 ⟨rfl,hw2⟩;subst w2;clear P1) | (with_reducible refine (P2.out).mono ?_;rintro e w2 ⟨rfl,hw2⟩;subst w2))))
   have zk0:=zz.out (k*2)
   have zk1:=zz.out (k*2+1)
   obtain⟨o1,ho1⟩:∃ o,((w.setCell ⟨g,k*2,none⟩ (.int .i64 y.1)).setCell ⟨g,k*2+1,none⟩ (.slice ua2 y.2.length uc2)).cell? ⟨g,m*2,none⟩=some o:=cell_two ca2
   obtain⟨o2,ho2⟩:∃ o,((w.setCell ⟨g,k*2,none⟩ (.int .i64 y.1)).setCell ⟨g,k*2+1,none⟩ (.slice ua2 y.2.length uc2)).cell? ⟨g,m*2+1,none⟩=some o:=cell_two cb2
   have zm0:=zz.out (m*2)
   have zm1:=zz.out (m*2+1)
   have hfn:=Lib.hid (fin2.out ((((w.setCell ⟨g,k*2,none⟩ (.int .i64 y.1)).setCell ⟨g,k*2+1,none⟩ (.slice ua2 y.2.length uc2))).drew) rfl)
   go_region
   all_goals (go_wp2;go_ret;exact⟨rfl,hfn.out⟩)
end
end Wd
end Go.Proofs.YteiejjmhmmkdhaaGreat

/- The landed Ideal: Swap. -/
namespace Go.Proofs.YteiejjmhmmkdhaaGreat
open Go.RowKit
set_option linter.unusedVariables false
set_option maxRecDepth 20000
namespace Wd
section
variable {w w':World} {p:Nat} {v:Value} {xs:List Value} {B:Nat→Nat} {L:List Ob8}
theorem swF_eq (B:Nat→Nat) (k m j n:Nat) (hk:k < n) (hm:m < n) (hj:j < n):∃ i,i < n∧swF B k m j=B i∧(j=m→i=k)∧(j≠m→j=k→i=m)∧(j≠m→j≠k→i=j):=by
 unfold swF
 by_cases e1:j=m
 ·exact⟨k,hk,by rw [if_pos e1],fun _=>rfl,fun e=>absurd e1 e,fun e=>absurd e1 e⟩
 ·by_cases e2:j=k
  ·exact⟨m,hm,by rw [if_neg e1,if_pos e2],fun e=>absurd e e1,fun _ _=>rfl,fun _ e=>absurd e2 e⟩
  ·exact⟨j,hj,by rw [if_neg e1,if_neg e2],fun e=>absurd e e1,fun _ e=>absurd e e2,fun _ _=>rfl⟩
theorem ID.swap {g cap:Nat} (h:ID w p (.slice (some ⟨g,0,none⟩) L.length cap) xs B L) {k m:Nat} {x y:Ob8} (hx:L[k]?=some x) (hy:L[m]?=some y) :
  ID ((w.setCell ⟨g,k,none⟩ (rwV (B m) y)).setCell ⟨g,m,none⟩ (rwV (B k) x)) p (.slice (some ⟨g,0,none⟩) L.length cap) ((xs.set k (rwV (B m) y)).set m (rwV (B k) x)) (swF B k m) ((L.set k y).set m x)
  ∧ Cg (unD p (.slice (some ⟨g,0,none⟩) L.length cap) B L.length) w ((w.setCell ⟨g,k,none⟩ (rwV (B m) y)).setCell ⟨g,m,none⟩ (rwV (B k) x))
  ∧ ∀ q,unD p (.slice (some ⟨g,0,none⟩) L.length cap) (swF B k m) ((L.set k y).set m x).length q→unD p (.slice (some ⟨g,0,none⟩) L.length cap) B L.length q:=by
 have hk:=(List.getElem?_eq_some_iff.1 hx).1
 have hm:=(List.getElem?_eq_some_iff.1 hy).1
 have hlx:xs.length=L.length:=by have:=h.row.1;omega
 have hv:(Value.slice (some ⟨g,0,none⟩) L.length cap).ownBlock=some g:=rfl
 have hgb:g≠p:=fun e=>h.vp (by rw [hv,e])
 have hc:Cg (fun q=>q=g) w ((w.setCell ⟨g,k,none⟩ (rwV (B m) y)).setCell ⟨g,m,none⟩ (rwV (B k) x)):=((Cg.refl (fun q=>q=g) w).set ⟨g,k,none⟩ rfl _).set ⟨g,m,none⟩ rfl _
 have oth:∀ q,q < w.heap.size→q≠g→_:=fun q hq hne=>hc.block q hq hne
 have hp:p < w.heap.size:=World.block_lt_of_cell? w _ h.c0
 have hswl:((L.set k y).set m x).length=L.length:=by simp
 have row':∀ i zz,L[i]?=some zz→_:=fun i zz hi=>(h.at' i zz hi).2.same (oth (B i) (h.at' i zz hi).2.lt (fun e=>(h.ap i (List.getElem?_eq_some_iff.1 hi).1).2 (by rw [hv,e])))
 refine⟨⟨(World.cell?_of_block (a:=⟨p,0,none⟩) (oth p hp (fun e=>hgb e.symm))).trans h.c0,(World.frozen?_of_block (a:=⟨p,0,none⟩) (oth p hp (fun e=>hgb e.symm))).trans h.z,?_,?_,?_,?_,h.vp⟩,hc.mono (fun q hq=>Or.inr (Or.inl (by rw [hq];rfl))),?_⟩
 ·rw [hswl]
  exact ((h.row.stored _ _).1.stored _ _).1
 ·intro q z hz
  rcases swF_at hx hy hz with ⟨rfl,rfl⟩ | ⟨n1,rfl,rfl⟩ | ⟨n1,n2,hz2⟩
  ·unfold swF;rw [if_pos rfl]
   exact⟨List.getElem?_set_self (by simp;omega),row' k z hx⟩
  ·unfold swF;rw [if_neg n1,if_pos rfl]
   exact⟨by rw [List.getElem?_set_ne (fun e=>n1 e.symm),List.getElem?_set_self (by omega)],row' m z hy⟩
  ·unfold swF;rw [if_neg n1,if_neg n2]
   exact⟨by rw [List.getElem?_set_ne (fun e=>n1 e.symm),List.getElem?_set_ne (fun e=>n2 e.symm)];exact (h.at' q z hz2).1,row' q z hz2⟩
 ·intro i j hi hj e
  rw [hswl] at hi hj
  obtain⟨i',hi',e1,a1,a2,a3⟩:=swF_eq B k m i L.length hk hm hi
  obtain⟨j',hj',e2,c1,c2,c3⟩:=swF_eq B k m j L.length hk hm hj
  rw [e1,e2] at e
  have:=h.inj i' j' hi' hj' e
  subst this
  by_cases p1:i=m <;> by_cases p2:j=m <;> by_cases p3:i=k <;> by_cases p4:j=k <;> simp_all <;> omega
 ·intro i hi
  rw [hswl] at hi
  obtain⟨i',hi',e1,_⟩:=swF_eq B k m i L.length hk hm hi
  rw [e1]
  exact h.ap i' hi'
 ·rintro q (rfl | hq | ⟨j,hj,hq⟩)
  ·exact Or.inl rfl
  ·exact Or.inr (Or.inl hq)
  ·rw [hswl] at hj
   obtain⟨j',hj',e1,_⟩:=swF_eq B k m j L.length hk hm hj
   exact Or.inr (Or.inr ⟨j',hj',by rw [hq,e1]⟩)
set_option maxHeartbeats 32000000 in
theorem iswap_c (h:ID w p v xs B L) (i j:Int) (hi:b64 i) (hj:b64 j) (hl:L.length≤100000):Calls Tryz.prog 15 #[pV p,.int .i64 i,.int .i64 j] w fun e w'=>e=.returned (.bool (swB8 L i j))∧∃ xs' B',ID w' p v xs' B' (swL L i j)∧Cg (unD p v B L.length) w w'∧∀ q,unD p v B' (swL L i j).length q→unD p v B L.length q:=by
 have P1:=Lib.hid (ihas_c h i hi hl)
 have P2:=Lib.hid (ihas_c h j hj hl)
 have fin0:=Lib.hid (⟨xs,B,h,Cg.refl _ _,fun q hq=>hq⟩:∃ xs' B',ID w p v xs' B' L∧Cg (unD p v B L.length) w w∧∀ q,unD p v B' L.length q→unD p v B L.length q)
 cases hh:hasL L i with
 | false =>
  have e1:swB8 L i j=false:=by unfold swB8;rw [hh];rfl
  have e2:swL L i j=L:=by unfold swL;rw [e1];rfl
  rw [e1,e2]
  rw [hh] at P1
  clear h hh e1 e2 P2
  go_enter Tryz.func15,Tryz.ntmps15
  go_wp2_with (first | (go_at_call 38;(with_reducible refine (P1.out).mono ?_);rintro e w2 ⟨rfl,hw2⟩;subst w2))
  go_ret
  exact⟨rfl,fin0.out⟩
 | true =>
  rw [hh] at P1
  cases hh2:hasL L j with
  | false =>
   have e1:swB8 L i j=false:=by unfold swB8;rw [hh,hh2];rfl
   have e2:swL L i j=L:=by unfold swL;rw [e1];rfl
   rw [e1,e2]
   rw [hh2] at P2
   clear h hh hh2 e1 e2
   go_enter Tryz.func15,Tryz.ntmps15
   go_upto_region 1 with fail
   go_wp2_with (first | (go_at_call 38;(first | (with_reducible refine (P1.out).mono ?_;rintro e w2 ⟨rfl,hw2⟩;subst w2;clear P1) | (with_reducible refine (P2.out).mono ?_;rintro e w2 ⟨rfl,hw2⟩;subst w2))))
   go_ret
   exact⟨rfl,fin0.out⟩
  | true =>
   rw [hh2] at P2
   obtain⟨k,x,rfl,hk,hx,ho⟩:=hasL_y hh
   obtain⟨m,y,rfl,hm,hy,ho2⟩:=hasL_y hh2
   have e1:swB8 L (4+(k:Int)) (4+(m:Int))=true:=by unfold swB8;rw [hh,hh2];rfl
   have e2:swL L (4+(k:Int)) (4+(m:Int))=(L.set k y).set m x:=by unfold swL;rw [e1,if_pos rfl,ho,ho2,show (4+(k:Int) - 4).toNat=k by omega,show (4+(m:Int) - 4).toNat=m by omega]
   rw [e1,e2]
   have c0:=h.c0
   have hr:=h.row
   have hxs:=(h.at' k x hx).1
   have hys:=(h.at' m y hy).1
   obtain⟨g,cap,rfl⟩:∃ g cap,v=.slice (some ⟨g,0,none⟩) L.length cap:=by
    rcases hr.2 with ⟨_,e2⟩ | ⟨g,cap,cur,e,_⟩
    ·omega
    ·exact⟨g,cap,e⟩
   have ca:=own_cell hr hxs
   have ca2:=own_cell hr hys
   have zk0:=own_froz hr k
   have zm0:=own_froz hr m
   have fin:=Lib.hid ((h.keep ((Below.refl _ _).drew)).swap hx hy)
   have fin2:Hid (∃ xs' B',ID ((w.drew.setCell ⟨g,k,none⟩ (rwV (B m) y)).setCell ⟨g,m,none⟩ (rwV (B k) x)) p (.slice (some ⟨g,0,none⟩) L.length cap) xs' B' ((L.set k y).set m x)∧Cg (unD p (.slice (some ⟨g,0,none⟩) L.length cap) B L.length) w ((w.drew.setCell ⟨g,k,none⟩ (rwV (B m) y)).setCell ⟨g,m,none⟩ (rwV (B k) x))∧∀ q,unD p (.slice (some ⟨g,0,none⟩) L.length cap) B' ((L.set k y).set m x).length q→unD p (.slice (some ⟨g,0,none⟩) L.length cap) B L.length q):=Lib.hid (by
    obtain⟨f1,f2,f3⟩:=fin.out
    exact⟨_,_,f1,((Cg.refl _ w).drew).trans f2,f3⟩)
   have hw:IntKind.i64.wrap (4+(k:Int) - 4)=(k:Int):=by rw [IntKind.wrap_i64];omega
   have hw2:IntKind.i64.wrap (4+(m:Int) - 4)=(m:Int):=by rw [IntKind.wrap_i64];omega
   have hkl:(k:Int) < (L.length:Int):=by omega
   have hml:(m:Int) < (L.length:Int):=by omega
   have hex:∃ o,(w.setCell ⟨g,k,none⟩ (rwV (B m) y)).cell? ⟨g,m,none⟩=some o:=cell_set_ex ca2
   obtain⟨o1,ho1⟩:=hex
   clear h hh hh2 ho ho2 e1 e2 fin fin0 hx hy hr hxs hys
   unfold rwV at *
   go_enter Tryz.func15,Tryz.ntmps15
   go_upto_region 4 with (first | (go_at_call 38;(first | (with_reducible refine (P1.out).mono ?_;rintro e w2 ⟨rfl,hw2⟩;subst w2;clear P1) | (with_reducible refine (P2.out).mono ?_;rintro e w2 ⟨rfl,hw2⟩;subst w2))))
   go_region
   all_goals (go_wp2;go_ret;exact⟨rfl,fin2.out⟩)
end
end Wd
end Go.Proofs.YteiejjmhmmkdhaaGreat

/- Two Ideals side by side, the landed one and the document's own; they are the same. -/
namespace Go.Proofs.YteiejjmhmmkdhaaGreat
open Go.RowKit
set_option linter.unusedVariables false
set_option maxRecDepth 20000
namespace Wd
def RB8 (b:Nat) (w:World) (L:List Ob8) (D:Nat→Prop):Prop:=∃ v xs us,RD w b v xs us L∧D=unR b v us L.length
theorem RB8.lt {b:Nat} {w:World} {L:List Ob8} {D:Nat→Prop} (h:RB8 b w L D):∀ k,D k→k < w.heap.size:=by
 obtain⟨v,xs,us,h,rfl⟩:=h
 exact h.lt
theorem RB8.same {b:Nat} {w w':World} {L:List Ob8} {D:Nat→Prop} (h:RB8 b w L D) (hs:w.heap.size≤w'.heap.size) (e:∀ k,D k→w'.heap[k]?=w.heap[k]?):RB8 b w' L D:=by
 obtain⟨v,xs,us,h,rfl⟩:=h
 exact⟨v,xs,us,h.same hs e,rfl⟩
structure PQ8 (w0 w:World) (p b:Nat) (L M:List Ob8):Prop where
 ex:∃ F D,IA p w L F∧RB8 b w M D∧(∀ k,F k→¬ D k)∧Below w0.heap.size w0 w∧(∀ k,F k→w0.heap.size≤k)∧∀ k,D k→w0.heap.size≤k
section
variable {w0 w w':World} {p b:Nat} {L L' M M':List Ob8}
theorem PQ8.bel (h:PQ8 w0 w p b L M):Below w0.heap.size w0 w:=by
 obtain⟨F,D,_,_,_,h,_⟩:=h.ex
 exact h
theorem PQ8.up (h:PQ8 w0 w p b L M) (g:Below w.heap.size w w'):PQ8 w0 w' p b L M:=by
 obtain⟨F,D,h1,h2,h3,h4,h5,h6⟩:=h.ex
 exact⟨F,D,h1.same g.size (fun k hk=>g.block k (h1.lt k hk)),h2.same g.size (fun k hk=>g.block k (h2.lt k hk)),h3,h4.trans (g.mono h4.size),h5,h6⟩
theorem PQ8.i (h:PQ8 w0 w p b L M) {f:FuncId} {args:Array Value} {v:Value} (H:∀ F,IA p w L F→Calls Tryz.prog f args w fun e w'=>e=.returned v∧∃ F',IA p w' L' F'∧Cg F w w'∧∀ k,F' k→F k∨w.heap.size≤k):Calls Tryz.prog f args w fun e w'=>e=.returned v∧PQ8 w0 w' p b L' M:=by
 obtain⟨F,D,h1,h2,h3,h4,h5,h6⟩:=h.ex
 refine (H F h1).mono ?_
 rintro e w' ⟨rfl,F',g1,g2,g3⟩
 refine⟨rfl,F',D,g1,h2.same g2.size (fun k hk=>g2.block k (h2.lt k hk) (fun e=>h3 k e hk)),fun k hk hD=>?_,h4.trans (g2.toB h4.size h5),fun k hk=>(g3 k hk).elim (h5 k) (fun e=>Nat.le_trans h4.size e),h6⟩
 rcases g3 k hk with e | e
 ·exact h3 k e hD
 ·have:=h2.lt k hD;omega
theorem PQ8.r (h:PQ8 w0 w p b L M) {f:FuncId} {args:Array Value} {v:Value} (H:∀ D,RB8 b w M D→Calls Tryz.prog f args w fun e w'=>e=.returned v∧∃ D',RB8 b w' M' D'∧Cg D w w'∧∀ k,D' k→D k∨w.heap.size≤k):Calls Tryz.prog f args w fun e w'=>e=.returned v∧PQ8 w0 w' p b L M':=by
 obtain⟨F,D,h1,h2,h3,h4,h5,h6⟩:=h.ex
 refine (H D h2).mono ?_
 rintro e w' ⟨rfl,D',g1,g2,g3⟩
 refine⟨rfl,F,D',h1.same g2.size (fun k hk=>g2.block k (h1.lt k hk) (fun e=>h3 k hk e)),g1,fun k hk hD=>?_,h4.trans (g2.toB h4.size h6),h5,fun k hk=>(g3 k hk).elim (h6 k) (fun e=>Nat.le_trans h4.size e)⟩
 rcases g3 k hD with e | e
 ·exact h3 k hk e
 ·have:=h1.lt k hk;omega
theorem PQ8.ia (h:PQ8 w0 w p b L M):∃ v xs B,ID w p v xs B L:=by
 obtain⟨F,D,⟨v,xs,B,h,_⟩,_⟩:=h.ex
 exact⟨v,xs,B,h⟩
theorem PQ8.ra (h:PQ8 w0 w p b L M):∃ v xs us,RD w b v xs us M:=by
 obtain⟨F,D,_,⟨v,xs,us,h,_⟩,_⟩:=h.ex
 exact⟨v,xs,us,h⟩
theorem swL_len (L:List Ob8) (i j:Int):(swL L i j).length=L.length:=by unfold swL;split <;> simp
theorem pq_rcell (h:PQ8 w0 w p b L M):∃ ad cap,w.cell? ⟨b,0,none⟩=some (.slice ad M.length cap):=by
 obtain⟨v,xs,us,hR⟩:=h.ra
 obtain⟨ad,cap,rfl,_⟩:=own_form hR.row
 exact⟨ad,cap,hR.c0⟩
theorem pq_len (h:PQ8 w0 w p b L M):Calls Tryz.prog 36 #[pV p] w fun e w'=>e=.returned (.int .i64 (L.length:Int))∧w'=w:=by
 obtain⟨v,xs,B,hI⟩:=h.ia
 exact ilen_c hI
theorem pq_icls (h:PQ8 w0 w p b L M) (id:Int) (hl:L.length≤10000) (hi:b64 id):Calls Tryz.prog 34 #[pV p,.int .i64 id] w fun e w'=>e=.returned (.int .i64 (clsL L id))∧Below w.heap.size w w':=by
 obtain⟨v,xs,B,hI⟩:=h.ia
 exact icls_c hI id hi (by omega)
theorem pq_ifld (h:PQ8 w0 w p b L M) (id:Int) (hl:L.length≤10000) (hi:b64 id):Calls Tryz.prog 35 #[pV p,.int .i64 id] w fun e w'=>e=.returned (.int .i64 (fldL L id))∧Below w.heap.size w w':=by
 obtain⟨v,xs,B,hI⟩:=h.ia
 exact ifld_c hI id hi (by omega)
theorem pq_iget (h:PQ8 w0 w p b L M) (id i:Int) (hl:L.length≤10000) (hi:b64 id) (hj:b64 i):Calls Tryz.prog 33 #[pV p,.int .i64 id,.int .i64 i] w fun e w'=>e=.returned (.tuple #[.int .u32 (gvL L id i),.bool (inO L id i)])∧Below w.heap.size w w':=by
 obtain⟨v,xs,B,hI⟩:=h.ia
 exact iget_c hI id i hi hj (by omega)
theorem pq_rcls (h:PQ8 w0 w p b L M) (id:Int) (hl:M.length≤10000) (hi:b64 id):Calls Tryz.prog 42 #[pV b,.int .i64 id] w fun e w'=>e=.returned (.int .i64 (clsL M id))∧w'=w:=by
 obtain⟨v,xs,us,hR⟩:=h.ra
 exact rcls_c hR id hi (by omega)
theorem pq_rfld (h:PQ8 w0 w p b L M) (id:Int) (hl:M.length≤10000) (hi:b64 id):Calls Tryz.prog 43 #[pV b,.int .i64 id] w fun e w'=>e=.returned (.int .i64 (fldL M id))∧w'=w:=by
 obtain⟨v,xs,us,hR⟩:=h.ra
 exact rfld_c hR id hi (by omega)
theorem pq_rget (h:PQ8 w0 w p b L M) (id i:Int) (hl:M.length≤10000) (hi:b64 id) (hj:b64 i):Calls Tryz.prog 28 #[pV b,.int .i64 id,.int .i64 i] w fun e w'=>e=.returned (.tuple #[.int .u32 (gvL M id i),.bool (inO M id i)])∧w'=w:=by
 obtain⟨v,xs,us,hR⟩:=h.ra
 exact rget_c hR id i hi hj (by omega)
theorem pq_fldbd (h:PQ8 w0 w p b L M) (id:Int):-1≤fldL M id∧fldL M id≤62:=by
 obtain⟨v,xs,us,hR⟩:=h.ra
 unfold fldL
 cases hh:hasL M id with
 | false=>simp
 | true =>
  obtain⟨k,x,rfl,hk,hx,ho⟩:=hasL_y hh
  have:=(hR.at' k x hx).2.2.2.1.2.2
  rw [if_pos rfl,ho];omega
set_option maxHeartbeats 32000000 in
theorem same_y (h:PQ8 w0 w p b L L) (hl:L.length≤1000):Calls Tryz.prog 19 #[pV p,pV b] w fun e w'=>e=.returned (.bool true)∧Below w.heap.size w w':=by
 have hR:=Lib.hid h
 have PL:=Lib.hid (fun (W:World) (g:Below w.heap.size w W)=>pq_len (h.up g))
 obtain⟨ad,cap,c0⟩:=pq_rcell h
 have hc:=Lib.hid (fun (W:World) (g:Below w.heap.size w W)=>cell_up g c0)
 have hz:((L.length:Int) != (L.length:Int))=false:=by simp
 have hw4:IntKind.i64.wrap (4+(L.length:Int))=4+(L.length:Int):=by rw [IntKind.wrap_i64];omega
 clear h
 go_enter Tryz.func19,Tryz.ntmps19
 go_upto_region 1 with fail
 refine wp_region_held_drew (S:=(fun wr'=>wr'.cell? ⟨b,0,none⟩=some (.slice ad L.length cap))) (by kernel_rfl) ?_ (fun hHeld=>?_)
 ·(try dsimp only);exact c0
 try simp only [Act.put,nA]
 refine tk (i:=0) (oi:=⟨some 11,.move (.tmp 0),42,"law.go:41",#[],none⟩) (hy:=by intro w hSw;(try dsimp only at hSw);go_simp <;> with_reducible rfl) ?_
 try simp only [Act.put,nA]
 refine tk (i:=2) (oi:=⟨some 13,.move (.tmp 1),44,"law.go:41",#[],none⟩) (hy:=by intro w hSw;(try dsimp only at hSw);go_simp <;> with_reducible rfl) ?_
 try simp only [Act.put,nA]
 refine tk (i:=3) (oi:=⟨some 14,.nilCheck (.tmp 13),0,"law.go:41",#[⟨2,.data⟩],none⟩) (hy:=by intro w hSw;(try dsimp only at hSw);go_simp <;> with_reducible rfl) ?_
 try simp only [Act.put,nA]
 refine tk (i:=4) (oi:=⟨some 15,.fieldAddr 47 (.tmp 14) 0,0,"law.go:41",#[⟨3,.data⟩],none⟩) (hy:=by intro w hSw;(try dsimp only at hSw);go_simp <;> with_reducible rfl) ?_
 try simp only [Act.put,nA]
 refine tk (i:=5) (oi:=⟨some 16,.load 45 (.tmp 15),45,"law.go:41",#[⟨4,.data⟩],none⟩) (hy:=by intro w hSw;(try dsimp only at hSw);go_simp <;> with_reducible rfl) ?_
 try simp only [Act.put,nA]
 refine tk (i:=6) (oi:=⟨some 17,.call { callee:=.builtin .len,args:=#[.tmp 16],argTypes:=#[45] },3,"law.go:41",#[⟨5,.data⟩],none⟩) (hy:=by intro w hSw;(try dsimp only at hSw);go_simp <;> with_reducible rfl) ?_
 try simp only [Act.put,nA]
 refine wpAnyH_ready (rs:=[1]) (by kernel_rfl) (by simp) ?_
 refine AllReadyH.cons (o:=⟨some 12,.call { callee:=.value (.func 36),args:=#[.tmp 11],argTypes:=#[42] },3,"law.go:41",#[⟨0,.data⟩],none⟩) rfl (fun K9 hK=>?_) AllReadyH.nil
 go_simp
 refine (PL.out _ ((Below.refl _ _).drew)).mono ?_
 rintro e w2 ⟨rfl,hw2⟩
 subst w2
 go_wp2_with fail
 refine hK.out _ _ ?_ ?_
 ·(try dsimp only);exact c0
 clear hK K9 hHeld;intro hHeld
 try simp only [Act.put,nA]
 refine tk (i:=7) (oi:=⟨some 18,.binOp .neq 3 (.tmp 12) (.tmp 17) 3,4,"law.go:41",#[⟨1,.data⟩,⟨6,.data⟩],none⟩) (hy:=by intro w hSw;(try dsimp only at hSw);go_simp <;> with_reducible rfl) ?_
 try simp only [Act.put,nA]
 refine wpAnyH_done (by kernel_rfl) ?_ _
 have hR1:=Lib.hid (hR.out.up ((Below.refl _ _).drew))
 have c1:w.drew.cell? ⟨b,0,none⟩=some (.slice ad L.length cap):=c0
 have hB1:=Lib.hid ((Below.refl w.heap.size w).drew)
 generalize w.drew=w1 at *
 clear PL
 go_wp2
 clear c0 c1
 go_loopw [5] (fun x wr=>∃ a:Nat,a≤L.length+2∧x=.int .i64 (3+(a:Int))∧Hid (PQ8 w0 wr p b L L∧Below w.heap.size w wr)) (fun x _=>L.length+5 - (intOf x).toNat)
 case atStart=>exact⟨0,by omega,by simp,Lib.hid ⟨hR1.out,hB1.out⟩⟩
 case round =>
  clear hR1 hB1
  obtain⟨a,ha,rfl,hS⟩:=hrel
  have cb:=hc.out _ hS.out.2
  by_cases hlt:a≤L.length+1
  ·as_aux_lemma =>
   have d1:decide (3+(a:Int)≤4+(L.length:Int))=true:=by simp;omega
   have w1':IntKind.i64.wrap (3+(a:Int)+1)=3+((a+1:Nat):Int):=by rw [IntKind.wrap_i64];omega
   have i64a:b64 (3+(a:Int)):=⟨by omega,by omega⟩
   have P1:=Lib.hid (pq_icls hS.out.1 (3+(a:Int)) (by omega) i64a)
   have P2:=Lib.hid (fun (W:World) (g:Below wr.heap.size wr W)=>pq_rcls (hS.out.1.up g) (3+(a:Int)) (by omega) i64a)
   have P3:=Lib.hid (fun (W:World) (g:Below wr.heap.size wr W)=>pq_ifld (hS.out.1.up g) (3+(a:Int)) (by omega) i64a)
   have P4:=Lib.hid (fun (W:World) (g:Below wr.heap.size wr W)=>pq_rfld (hS.out.1.up g) (3+(a:Int)) (by omega) i64a)
   have hfb:=pq_fldbd hS.out.1 (3+(a:Int))
   have hgi:=Lib.hid (fun (W:World) (g:Below wr.heap.size wr W) (c:Nat) (hcc:c≤70)=>pq_iget (hS.out.1.up g) (3+(a:Int)) (-1+(c:Int)) (by omega) i64a ⟨by omega,by omega⟩)
   have hgr:=Lib.hid (fun (W:World) (g:Below wr.heap.size wr W) (c:Nat) (hcc:c≤70)=>pq_rget (hS.out.1.up g) (3+(a:Int)) (-1+(c:Int)) (by omega) i64a ⟨by omega,by omega⟩)
   have d2:(clsL L (3+(a:Int)) != clsL L (3+(a:Int)))=false:=by simp
   have d3:(fldL L (3+(a:Int)) != fldL L (3+(a:Int)))=false:=by simp
   have hup:=Lib.hid (fun (W:World) (g:Below wr.heap.size wr W)=>(⟨hS.out.1.up g,hS.out.2.trans (g.mono hS.out.2.size)⟩:PQ8 w0 W p b L L∧Below w.heap.size w W))
   have ha1:a+1≤L.length+2:=by omega
   have hml:L.length+5 - (3+(a+1)) < L.length+5 - (3+a):=by omega
   clear hS hc hR
   generalize clsL L (3+(a:Int))=cl at *
   generalize hfv:fldL L (3+(a:Int))=fv at *
   generalize hgv:(fun i:Int=>gvL L (3+(a:Int)) i)=GV at *
   go_upto_region 8 with (first | (go_at_call 34;(refine (P1.out).mono ?_);rintro e w3 ⟨rfl,hb3⟩;replace hb3:=Lib.hid hb3) | (go_at_call 42;(refine (P2.out _ hb3.out).mono ?_);rintro e w4 ⟨rfl,hw4⟩;subst w4) | (go_at_call 35;(refine (P3.out _ hb3.out).mono ?_);rintro e w5 ⟨rfl,hb5⟩;have hb6:=Lib.hid (hb3.out.trans (hb5.mono hb3.out.size));clear hb5) | (go_at_call 43;(refine (P4.out _ hb6.out).mono ?_);rintro e w7 ⟨rfl,hw7⟩;subst w7))
   clear P1 P2 P3 d2 d3
   obtain⟨W0,hW0⟩:∃ W0,W0=wr:=⟨wr,rfl⟩
   subst hW0
   go_wp2
   go_loopw [6] (fun y wr2=>∃ c:Nat,(c:Int)≤fv+2∧y=.int .i64 (-1+(c:Int))∧Hid (Below W0.heap.size W0 wr2)) (fun y _=>100 - (intOf y+1).toNat)
   case atStart=>exact⟨0,by omega,by simp,hb6⟩
   case round =>
    clear hb6 hb3
    obtain⟨c,hcl,rfl,hB⟩:=hrel
    have P4':=Lib.hid (P4.out _ hB.out)
    by_cases hlc:(c:Int)≤fv+1
    ·as_aux_lemma =>
     have d5:decide (-1+(c:Int)≤fv)=true:=by simp;omega
     have w2':IntKind.i64.wrap (-1+(c:Int)+1)=-1+((c+1:Nat):Int):=by rw [IntKind.wrap_i64];omega
     have G1:=Lib.hid (hgi.out _ hB.out c (by omega))
     have G2:=Lib.hid (fun (W:World) (g:Below W0.heap.size W0 W)=>hgr.out W g c (by omega))
     have e1:(gvL L (3+(a:Int)) (-1+(c:Int)) != gvL L (3+(a:Int)) (-1+(c:Int)))=false:=by simp
     have e2:(inO L (3+(a:Int)) (-1+(c:Int)) != inO L (3+(a:Int)) (-1+(c:Int)))=false:=by simp
     have hc1:((c+1:Nat):Int)≤fv+2:=by omega
     clear P4 hgi hgr hgv
     generalize gvL L (3+(a:Int)) (-1+(c:Int))=gg at *
     generalize inO L (3+(a:Int)) (-1+(c:Int))=ii at *
     go_wp2_with (first | (go_at_call 43;(refine (P4'.out).mono ?_);rintro e w8 ⟨rfl,hw8⟩;subst w8) | (go_at_call 33;(refine (G1.out).mono ?_);rintro e w9 ⟨rfl,hb9⟩;have hB2:=Lib.hid (hB.out.trans (hb9.mono hB.out.size));clear hb9) | (go_at_call 28;(refine (G2.out _ hB2.out).mono ?_);rintro e w10 ⟨rfl,hw10⟩;subst w10))
     go_roundw
     case rel=>exact⟨c+1,hc1,by go_num,hB2⟩
     case measure=>simp [intOf];omega
    ·as_aux_lemma =>
     have d5:decide (-1+(c:Int)≤fv)=false:=by simp;omega
     go_wp2_with (first | (go_at_call 43;(refine (P4'.out).mono ?_);rintro e w8 ⟨rfl,hw8⟩;subst w8))
     go_roundw
     case rel=>exact⟨a+1,ha1,by go_num,Lib.hid (hup.out _ hB.out)⟩
     case measure=>simp [intOf];omega
  ·as_aux_lemma =>
   have d1:decide (3+(a:Int)≤4+(L.length:Int))=false:=by simp;omega
   go_wp2
   go_ret
   exact⟨rfl,hS.out.2⟩
end
end Wd
end Go.Proofs.YteiejjmhmmkdhaaGreat

/- Two Ideals side by side, a block held apart; the walk of any calls. -/
namespace Go.Proofs.YteiejjmhmmkdhaaGreat
open Go.RowKit
set_option linter.unusedVariables false
set_option maxRecDepth 20000
namespace Wd
structure PQ9 (w0 w:World) (p b:Nat) (L M:List Ob8) (q:Nat) (o:Obj):Prop where
 ex:∃ F D,IA p w L F∧RB8 b w M D∧(∀ k,F k→¬ D k)∧Below w0.heap.size w0 w∧(∀ k,F k→w0.heap.size≤k)∧(∀ k,D k→w0.heap.size≤k)∧¬ F q∧¬ D q∧q < w.heap.size∧w.heap[q]?=some o
section
variable {w0 w w':World} {p b q:Nat} {L L' M M':List Ob8} {o:Obj}
theorem PQ9.drop (h:PQ9 w0 w p b L M q o):PQ8 w0 w p b L M:=by
 obtain⟨F,D,h1,h2,h3,h4,h5,h6,_⟩:=h.ex
 exact⟨F,D,h1,h2,h3,h4,h5,h6⟩
theorem PQ9.hp (h:PQ9 w0 w p b L M q o):w.heap[q]?=some o:=by
 obtain⟨F,D,h1,h2,h3,h4,h5,h6,h7,h8,h9,h10⟩:=h.ex
 exact h10
theorem PQ9.up (h:PQ9 w0 w p b L M q o) (g:Below w.heap.size w w'):PQ9 w0 w' p b L M q o:=by
 obtain⟨F,D,h1,h2,h3,h4,h5,h6,h7,h8,h9,h10⟩:=h.ex
 exact⟨F,D,h1.same g.size (fun k hk=>g.block k (h1.lt k hk)),h2.same g.size (fun k hk=>g.block k (h2.lt k hk)),h3,h4.trans (g.mono h4.size),h5,h6,h7,h8,Nat.lt_of_lt_of_le h9 g.size,(g.block q h9).trans h10⟩
theorem PQ8.hold (h:PQ8 w0 w p b L M) (o:Array Value) (T:TypeId):PQ9 w0 (w.alloc (.cells o T)) p b L M w.heap.size (.cells o T):=by
 have g:Below w.heap.size w (w.alloc (.cells o T)):=(Below.refl _ _).alloc (Nat.le_refl _) _
 obtain⟨F,D,h1,h2,h3,h4,h5,h6⟩:=h.ex
 exact⟨F,D,h1.same g.size (fun k hk=>g.block k (h1.lt k hk)),h2.same g.size (fun k hk=>g.block k (h2.lt k hk)),h3,h4.trans (g.mono h4.size),h5,h6,fun e=>by have:=h1.lt _ e;omega,fun e=>by have:=h2.lt _ e;omega,by simp,heap_alloc_new w (.cells o T)⟩
theorem PQ9.i (h:PQ9 w0 w p b L M q o) {f:FuncId} {args:Array Value} {v:Value} (H:∀ F,IA p w L F→Calls Tryz.prog f args w fun e w'=>e=.returned v∧∃ F',IA p w' L' F'∧Cg F w w'∧∀ k,F' k→F k∨w.heap.size≤k):Calls Tryz.prog f args w fun e w'=>e=.returned v∧PQ9 w0 w' p b L' M q o:=by
 obtain⟨F,D,h1,h2,h3,h4,h5,h6,h7,h8,h9,h10⟩:=h.ex
 refine (H F h1).mono ?_
 rintro e w' ⟨rfl,F',g1,g2,g3⟩
 refine⟨rfl,F',D,g1,h2.same g2.size (fun k hk=>g2.block k (h2.lt k hk) (fun e=>h3 k e hk)),fun k hk hD=>?_,h4.trans (g2.toB h4.size h5),fun k hk=>(g3 k hk).elim (h5 k) (fun e=>Nat.le_trans h4.size e),h6,fun e=>?_,h8,Nat.lt_of_lt_of_le h9 g2.size,(g2.block q h9 h7).trans h10⟩
 ·rcases g3 k hk with e | e
  ·exact h3 k e hD
  ·have:=h2.lt k hD;omega
 ·rcases g3 q e with e | e
  ·exact h7 e
  ·omega
theorem PQ9.r (h:PQ9 w0 w p b L M q o) {f:FuncId} {args:Array Value} {v:Value} (H:∀ D,RB8 b w M D→Calls Tryz.prog f args w fun e w'=>e=.returned v∧∃ D',RB8 b w' M' D'∧Cg D w w'∧∀ k,D' k→D k∨w.heap.size≤k):Calls Tryz.prog f args w fun e w'=>e=.returned v∧PQ9 w0 w' p b L M' q o:=by
 obtain⟨F,D,h1,h2,h3,h4,h5,h6,h7,h8,h9,h10⟩:=h.ex
 refine (H D h2).mono ?_
 rintro e w' ⟨rfl,D',g1,g2,g3⟩
 refine⟨rfl,F,D',h1.same g2.size (fun k hk=>g2.block k (h1.lt k hk) (fun e=>h3 k hk e)),g1,fun k hk hD=>?_,h4.trans (g2.toB h4.size h6),h5,fun k hk=>(g3 k hk).elim (h6 k) (fun e=>Nat.le_trans h4.size e),h7,fun e=>?_,Nat.lt_of_lt_of_le h9 g2.size,(g2.block q h9 h8).trans h10⟩
 ·rcases g3 k hD with e | e
  ·exact h3 k hk e
  ·have:=h1.lt k hk;omega
 ·rcases g3 q e with e | e
  ·exact h8 e
  ·omega
theorem pq9_ialloc (h:PQ9 w0 w p b L M q o) (c n:Int) (hl:L.length≤10000) (hc:b64 c) (hn:b64 n):Calls Tryz.prog 17 #[pV p,.int .i64 c,.int .i64 n] w fun e w'=>e=.returned (.int .i64 (alI L c n))∧PQ9 w0 w' p b (alL L c n) M q o :=
 h.i (fun F hF=>ia_alloc c n hF hl hc hn)
theorem pq9_iput (h:PQ9 w0 w p b L M q o) (id i x:Int) (hl:L.length≤10000) (hi:b64 id) (hj:b64 i) (hx:b32 x):Calls Tryz.prog 13 #[pV p,.int .i64 id,.int .i64 i,.int .u32 x] w fun e w'=>e=.returned (.bool (puB L id i x))∧PQ9 w0 w' p b (puL L id i x) M q o :=
 h.i (fun F hF=>(ia_put id i x hF hl hi hj hx).mono (by rintro e w' ⟨rfl,h1,h2⟩;exact⟨rfl,F,h1,h2,fun k hk=>Or.inl hk⟩))
theorem pq9_iswap (h:PQ9 w0 w p b L M q o) (i j:Int) (hl:L.length≤10000) (hi:b64 i) (hj:b64 j):Calls Tryz.prog 15 #[pV p,.int .i64 i,.int .i64 j] w fun e w'=>e=.returned (.bool (swB8 L i j))∧PQ9 w0 w' p b (swL L i j) M q o :=
 h.i (fun F hF=>by
  obtain⟨v,xs,B,hI,rfl⟩:=hF
  refine (iswap_c hI i j hi hj (by omega)).mono ?_
  rintro e w' ⟨rfl,xs',B',h1,h2,h3⟩
  exact⟨rfl,_,⟨v,xs',B',h1,rfl⟩,h2,fun k hk=>Or.inl (h3 k hk)⟩)
theorem pq9_ralloc (h:PQ9 w0 w p b L M q o) (c n:Int) (hl:M.length≤10000) (hc:b64 c) (hn:b64 n):Calls Tryz.prog 18 #[pV b,.int .i64 c,.int .i64 n] w fun e w'=>e=.returned (.int .i64 (alI M c n))∧PQ9 w0 w' p b L (alL M c n) q o :=
 h.r (fun D hD=>by
  obtain⟨v,xs,us,hR,rfl⟩:=hD
  refine (ralloc_c hR c n hc hn hl).mono ?_
  rintro e w' ⟨rfl,v',xs',us',h1,h2,h3⟩
  exact⟨rfl,_,⟨v',xs',us',h1,rfl⟩,h2,h3⟩)
theorem pq9_rput (h:PQ9 w0 w p b L M q o) (id i x:Int) (hl:M.length≤10000) (hi:b64 id) (hj:b64 i) (hx:b32 x):Calls Tryz.prog 14 #[pV b,.int .i64 id,.int .i64 i,.int .u32 x] w fun e w'=>e=.returned (.bool (puB M id i x))∧PQ9 w0 w' p b L (puL M id i x) q o :=
 h.r (fun D hD=>by
  obtain⟨v,xs,us,hR,rfl⟩:=hD
  refine (rput_c hR id i x hi hj hx (by omega)).mono ?_
  rintro e w' ⟨rfl,h1,h2⟩
  exact⟨rfl,_,⟨v,xs,us,h1,rfl⟩,h2,fun k hk=>Or.inl (by rw [puL_len] at hk;exact hk)⟩)
theorem pq9_rswap (h:PQ9 w0 w p b L M q o) (i j:Int) (hl:M.length≤10000) (hi:b64 i) (hj:b64 j):Calls Tryz.prog 16 #[pV b,.int .i64 i,.int .i64 j] w fun e w'=>e=.returned (.bool (swB8 M i j))∧PQ9 w0 w' p b L (swL M i j) q o :=
 h.r (fun D hD=>by
  obtain⟨v,xs,us,hR,rfl⟩:=hD
  refine (rswap_c hR i j hi hj (by omega)).mono ?_
  rintro e w' ⟨rfl,xs',us',h1,h2,h3⟩
  exact⟨rfl,_,⟨v,xs',us',h1,rfl⟩,h2,fun k hk=>Or.inl (h3 k hk)⟩)
end
end Wd
end Go.Proofs.YteiejjmhmmkdhaaGreat

/- The walk: any calls, on the landed Ideal and on the document's own. -/
namespace Go.Proofs.YteiejjmhmmkdhaaGreat
open Go.RowKit
set_option linter.unusedVariables false
set_option maxRecDepth 20000
namespace Wd
theorem builtR8:Tryz.prog.built 47 []=some #[.slice none 0 0]:=by kernel_rfl
theorem PQ8.begin {w0 w:World} {p:Nat} (h:IS w0 w p []):PQ8 w0 (w.alloc (.cells #[.slice none 0 0] 47)) p w.heap.size [] []:=by
 obtain⟨F,h1,h2,h3⟩:=h
 have g:Below w.heap.size w (w.alloc (.cells #[.slice none 0 0] 47)):=(Below.refl _ _).alloc (Nat.le_refl _) _
 refine⟨F,_,h1.same g.size (fun k hk=>g.block k (h1.lt k hk)),⟨.slice none 0 0,[],fun _=>.slice none 0 0,⟨World.cell?_alloc_new _ _ _ 0,World.frozen?_alloc_new _ _ _ _,⟨by simp,Or.inl ⟨rfl,rfl⟩⟩,fun k x hx=>by simp at hx,fun j k q hj=>by simp at hj,fun k q hk=>by simp at hk,by simp [Value.ownBlock]⟩,rfl⟩,fun k hk hD=>?_,h2.trans (g.mono h2.size),h3,fun k hD=>?_⟩
 ·rcases hD with rfl | hk2 | ⟨j,hj,_⟩
  ·have:=h1.lt _ hk;omega
  ·cases hk2
  ·simp at hj
 ·rcases hD with rfl | hk2 | ⟨j,hj,_⟩
  ·exact h2.size
  ·cases hk2
  ·simp at hj
set_option maxHeartbeats 64000000 in
theorem play_y {w:World} {ad:Option Addr} {n cap:Nat} (HA:AskV8 w ad n) (hn:n*32≤140737488351232) :
  Calls Tryz.prog 6 #[.slice ad n cap] w fun e w'=>e=.returned (.bool true)∧Below w.heap.size w w':=by
 have hb:=builtR8
 replace HA:=Lib.hid HA
 go_enter Tryz.func6,Tryz.ntmps6
 go_upto_region 2 with (go_at_call 12;refine (is_new (Below.refl _ _)).mono ?_;rintro e w1 ⟨p,rfl,h1,_⟩;have hS0:=Lib.hid (PQ8.begin h1);clear h1)
 generalize w1.alloc (.cells #[.slice none 0 0] 47)=w2 at *
 generalize w1.heap.size=b at *
 clear hb
 go_wp2
 go_loopw [5] (fun x5 wr=>∃ (i:Nat) (L:List Ob8),i≤n∧i≤80∧L.length≤i∧x5=.int .i64 i∧Hid (PQ8 w wr p b L L)) (fun x5 _=>80 - (intOf x5).toNat)
 case atStart=>exact⟨0,[],by omega,by omega,by simp,rfl,hS0⟩
 case round =>
  clear hS0
  obtain⟨i,L,hi,hi8,hL,rfl,hS⟩:=hrel
  by_cases hlt:i < n
  ·have d1:decide ((i:Int) < (n:Int))=true:=by simp;omega
   by_cases hl8:i < 80
   ·have d2:decide ((i:Int) < 80)=true:=by simp;omega
    have p0:(0:Int)≤(i:Int):=by omega
    have p1:(i:Int) < (n:Int):=by omega
    obtain⟨g,off,x,y,z,u,rfl,bx',by',bz',bu',c0,c1,c2,c3⟩:=HA.out i hlt
    replace c0:=cell_up hS.out.bel c0
    replace c1:=cell_up hS.out.bel c1
    replace c2:=cell_up hS.out.bel c2
    replace c3:=cell_up hS.out.bel c3
    have hQ:=Lib.hid (hS.out.hold #[.int .i64 x,.int .i64 y,.int .i64 z,.int .i64 u] 24)
    have hi1:i+1≤n:=by omega
    have hi81:i+1≤80:=by omega
    have hlL:=Lib.hid hL
    have hl10:Hid (L.length≤10000):=Lib.hid (by omega)
    have w3:IntKind.i64.wrap ((i:Int)+1)=((i+1:Nat):Int):=by rw [IntKind.wrap_i64];omega
    clear hlt hl8 hn HA hS hL
    go_upto_region 6 with fail
    generalize hW3:wr.alloc (.cells #[.int .i64 x,.int .i64 y,.int .i64 z,.int .i64 u] 24)=W3 at *
    generalize wr.heap.size=q6 at *
    clear hW3 c0 c1 c2 c3
    have hqc:Hid (∀ W:World,W.heap[q6]?=some (.cells #[.int .i64 x,.int .i64 y,.int .i64 z,.int .i64 u] 24)→W.cell? ⟨q6,1,none⟩=some (.int .i64 y)∧W.cell? ⟨q6,2,none⟩=some (.int .i64 z)∧W.cell? ⟨q6,3,none⟩=some (.int .i64 u)):=Lib.hid (fun W e=>⟨by rw [Lib.cell_of_heap e];rfl,by rw [Lib.cell_of_heap e];rfl,by rw [Lib.cell_of_heap e];rfl⟩)
    have a0:W3.cell? ⟨q6,0,none⟩=some (.int .i64 x):=by rw [Lib.cell_of_heap hQ.out.hp];rfl
    obtain⟨a1,a2,a3⟩:=hqc.out _ hQ.out.hp
    by_cases k3:x=3∨x=4
    ·as_aux_lemma =>
     have hk:(x == 3)=true∨((x == 3)=false∧(x == 4)=true):=by
      rcases k3 with rfl | rfl
      ·exact Or.inl rfl
      ·exact Or.inr ⟨rfl,rfl⟩
     have dq:(puB L y z (u % 4294967296) != puB L y z (u % 4294967296))=false:=by simp
     rcases hk with hk | ⟨hk,hk2⟩
     ·as_aux_lemma =>
      go_upto_region 13 with fail
      refine wp_region_held_drew (S:=(fun wr'=>wr'.cell? ⟨q6,1,none⟩=some (.int .i64 y)∧wr'.cell? ⟨q6,2,none⟩=some (.int .i64 z)∧wr'.cell? ⟨q6,3,none⟩=some (.int .i64 u))) (by kernel_rfl) ?_ (fun hHeld=>?_)
      ·(try dsimp only);exact⟨a1,a2,a3⟩
      try simp only [Act.put,nA]
      refine tk (i:=0) (oi:=⟨some 44,.move (.tmp 3),42,"law.go:68",#[],none⟩) (hy:=by intro w hSw;(try dsimp only at hSw);obtain⟨q0,q1,q2⟩:=hSw;go_simp <;> with_reducible rfl) ?_
      try simp only [Act.put,nA]
      refine tk (i:=1) (oi:=⟨some 45,.fieldAddr 24 (.tmp 6) 1,0,"law.go:68",#[],none⟩) (hy:=by intro w hSw;(try dsimp only at hSw);obtain⟨q0,q1,q2⟩:=hSw;go_simp <;> with_reducible rfl) ?_
      try simp only [Act.put,nA]
      refine tk (i:=2) (oi:=⟨some 46,.load 3 (.tmp 45),3,"law.go:68",#[⟨1,.data⟩],none⟩) (hy:=by intro w hSw;(try dsimp only at hSw);obtain⟨q0,q1,q2⟩:=hSw;go_simp <;> with_reducible rfl) ?_
      try simp only [Act.put,nA]
      refine tk (i:=3) (oi:=⟨some 47,.fieldAddr 24 (.tmp 6) 2,0,"law.go:68",#[],none⟩) (hy:=by intro w hSw;(try dsimp only at hSw);obtain⟨q0,q1,q2⟩:=hSw;go_simp <;> with_reducible rfl) ?_
      try simp only [Act.put,nA]
      refine tk (i:=4) (oi:=⟨some 48,.load 3 (.tmp 47),3,"law.go:68",#[⟨3,.data⟩],none⟩) (hy:=by intro w hSw;(try dsimp only at hSw);obtain⟨q0,q1,q2⟩:=hSw;go_simp <;> with_reducible rfl) ?_
      try simp only [Act.put,nA]
      refine tk (i:=5) (oi:=⟨some 49,.fieldAddr 24 (.tmp 6) 3,0,"law.go:68",#[],none⟩) (hy:=by intro w hSw;(try dsimp only at hSw);obtain⟨q0,q1,q2⟩:=hSw;go_simp <;> with_reducible rfl) ?_
      try simp only [Act.put,nA]
      refine tk (i:=6) (oi:=⟨some 50,.load 3 (.tmp 49),3,"law.go:68",#[⟨5,.data⟩],none⟩) (hy:=by intro w hSw;(try dsimp only at hSw);obtain⟨q0,q1,q2⟩:=hSw;go_simp <;> with_reducible rfl) ?_
      try simp only [Act.put,nA]
      refine tk (i:=7) (oi:=⟨some 51,.convert 3 49 (.tmp 50),49,"law.go:68",#[⟨6,.data⟩],none⟩) (hy:=by intro w hSw;(try dsimp only at hSw);obtain⟨q0,q1,q2⟩:=hSw;go_simp <;> with_reducible rfl) ?_
      try simp only [Act.put,nA]
      refine tk (i:=9) (oi:=⟨some 53,.move (.tmp 4),44,"law.go:68",#[],none⟩) (hy:=by intro w hSw;(try dsimp only at hSw);obtain⟨q0,q1,q2⟩:=hSw;go_simp <;> with_reducible rfl) ?_
      try simp only [Act.put,nA]
      refine tk (i:=10) (oi:=⟨some 54,.fieldAddr 24 (.tmp 6) 1,0,"law.go:68",#[],none⟩) (hy:=by intro w hSw;(try dsimp only at hSw);obtain⟨q0,q1,q2⟩:=hSw;go_simp <;> with_reducible rfl) ?_
      try simp only [Act.put,nA]
      refine tk (i:=11) (oi:=⟨some 55,.load 3 (.tmp 54),3,"law.go:68",#[⟨10,.data⟩],none⟩) (hy:=by intro w hSw;(try dsimp only at hSw);obtain⟨q0,q1,q2⟩:=hSw;go_simp <;> with_reducible rfl) ?_
      try simp only [Act.put,nA]
      refine tk (i:=12) (oi:=⟨some 56,.fieldAddr 24 (.tmp 6) 2,0,"law.go:68",#[],none⟩) (hy:=by intro w hSw;(try dsimp only at hSw);obtain⟨q0,q1,q2⟩:=hSw;go_simp <;> with_reducible rfl) ?_
      try simp only [Act.put,nA]
      refine tk (i:=13) (oi:=⟨some 57,.load 3 (.tmp 56),3,"law.go:68",#[⟨12,.data⟩],none⟩) (hy:=by intro w hSw;(try dsimp only at hSw);obtain⟨q0,q1,q2⟩:=hSw;go_simp <;> with_reducible rfl) ?_
      try simp only [Act.put,nA]
      refine tk (i:=14) (oi:=⟨some 58,.fieldAddr 24 (.tmp 6) 3,0,"law.go:68",#[],none⟩) (hy:=by intro w hSw;(try dsimp only at hSw);obtain⟨q0,q1,q2⟩:=hSw;go_simp <;> with_reducible rfl) ?_
      try simp only [Act.put,nA]
      refine tk (i:=15) (oi:=⟨some 59,.load 3 (.tmp 58),3,"law.go:68",#[⟨14,.data⟩],none⟩) (hy:=by intro w hSw;(try dsimp only at hSw);obtain⟨q0,q1,q2⟩:=hSw;go_simp <;> with_reducible rfl) ?_
      try simp only [Act.put,nA]
      refine tk (i:=16) (oi:=⟨some 60,.convert 3 49 (.tmp 59),49,"law.go:68",#[⟨15,.data⟩],none⟩) (hy:=by intro w hSw;(try dsimp only at hSw);obtain⟨q0,q1,q2⟩:=hSw;go_simp <;> with_reducible rfl) ?_
      try simp only [Act.put,nA]
      refine wpAnyH_ready (rs:=[8]) (by kernel_rfl) (by simp) ?_
      refine AllReadyH.cons (o:=⟨some 52,.call { callee:=.value (.func 13),args:=#[.tmp 44,.tmp 46,.tmp 48,.tmp 51],argTypes:=#[42,3,3,49] },4,"law.go:68",#[⟨0,.data⟩,⟨2,.data⟩,⟨4,.data⟩,⟨7,.data⟩],none⟩) rfl (fun K9 hK=>?_) AllReadyH.nil
      go_simp
      refine (pq9_iput (hQ.out.up ((Below.refl _ _).drew)) y z (u % 4294967296) hl10.out by' bz' ⟨by omega,by omega⟩).mono ?_
      rintro e w8 ⟨rfl,h8⟩
      obtain⟨e1,e2,e3⟩:=hqc.out _ h8.hp
      replace h8:=Lib.hid h8
      go_wp2_with fail
      refine hK.out _ _ ?_ ?_
      ·(try dsimp only);exact⟨e1,e2,e3⟩
      clear hK K9 hHeld;intro hHeld
      try simp only [Act.put,nA]
      refine wpAnyH_ready (rs:=[17]) (by kernel_rfl) (by simp) ?_
      refine AllReadyH.cons (o:=⟨some 61,.call { callee:=.value (.func 14),args:=#[.tmp 53,.tmp 55,.tmp 57,.tmp 60],argTypes:=#[44,3,3,49] },4,"law.go:68",#[⟨9,.data⟩,⟨11,.data⟩,⟨13,.data⟩,⟨16,.data⟩,⟨8,.chain⟩],none⟩) rfl (fun K9 hK=>?_) AllReadyH.nil
      go_simp
      refine (pq9_rput h8.out y z (u % 4294967296) hl10.out by' bz' ⟨by omega,by omega⟩).mono ?_
      rintro e w9 ⟨rfl,h9⟩
      obtain⟨f1,f2,f3⟩:=hqc.out _ h9.hp
      replace h9:=Lib.hid h9
      go_wp2_with fail
      refine hK.out _ _ ?_ ?_
      ·(try dsimp only);exact⟨f1,f2,f3⟩
      clear hK K9 hHeld;intro hHeld
      try simp only [Act.put,nA]
      refine tk (i:=18) (oi:=⟨some 62,.binOp .neq 4 (.tmp 52) (.tmp 61) 4,4,"law.go:68",#[⟨8,.data⟩,⟨17,.data⟩],none⟩) (hy:=by intro w hSw;(try dsimp only at hSw);obtain⟨q0,q1,q2⟩:=hSw;go_simp <;> with_reducible rfl) ?_
      try simp only [Act.put,nA]
      refine wpAnyH_done (by kernel_rfl) ?_ _
      have P8:=Lib.hid (same_y h9.out.drop (by have:=hlL.out;first | (have:=alL_len L y z;omega) | (rw [puL_len];omega) | (rw [swL_len];omega)))
      skip
      by_cases hm:(i:Int) % 4=3
      ·as_aux_lemma =>
       go_wp2_with (go_at_call 19;refine (P8.out).mono ?_;rintro e w10 ⟨rfl,hb10⟩;have h10:=Lib.hid (h9.out.drop.up hb10))
       go_roundw
       case rel=>exact⟨i+1,_,hi1,hi81,by have:=hlL.out;first | (have:=alL_len L y z;omega) | (rw [puL_len];omega) | (rw [swL_len];omega),by go_num,Lib.hid h10.out⟩
       case measure=>simp [intOf];omega
      ·as_aux_lemma =>
       go_wp2_with fail
       go_roundw
       case rel=>exact⟨i+1,_,hi1,hi81,by have:=hlL.out;first | (have:=alL_len L y z;omega) | (rw [puL_len];omega) | (rw [swL_len];omega),by go_num,Lib.hid h9.out.drop⟩
       case measure=>simp [intOf];omega
     ·as_aux_lemma =>
      go_upto_region 13 with fail
      refine wp_region_held_drew (S:=(fun wr'=>wr'.cell? ⟨q6,1,none⟩=some (.int .i64 y)∧wr'.cell? ⟨q6,2,none⟩=some (.int .i64 z)∧wr'.cell? ⟨q6,3,none⟩=some (.int .i64 u))) (by kernel_rfl) ?_ (fun hHeld=>?_)
      ·(try dsimp only);exact⟨a1,a2,a3⟩
      try simp only [Act.put,nA]
      refine tk (i:=0) (oi:=⟨some 44,.move (.tmp 3),42,"law.go:68",#[],none⟩) (hy:=by intro w hSw;(try dsimp only at hSw);obtain⟨q0,q1,q2⟩:=hSw;go_simp <;> with_reducible rfl) ?_
      try simp only [Act.put,nA]
      refine tk (i:=1) (oi:=⟨some 45,.fieldAddr 24 (.tmp 6) 1,0,"law.go:68",#[],none⟩) (hy:=by intro w hSw;(try dsimp only at hSw);obtain⟨q0,q1,q2⟩:=hSw;go_simp <;> with_reducible rfl) ?_
      try simp only [Act.put,nA]
      refine tk (i:=2) (oi:=⟨some 46,.load 3 (.tmp 45),3,"law.go:68",#[⟨1,.data⟩],none⟩) (hy:=by intro w hSw;(try dsimp only at hSw);obtain⟨q0,q1,q2⟩:=hSw;go_simp <;> with_reducible rfl) ?_
      try simp only [Act.put,nA]
      refine tk (i:=3) (oi:=⟨some 47,.fieldAddr 24 (.tmp 6) 2,0,"law.go:68",#[],none⟩) (hy:=by intro w hSw;(try dsimp only at hSw);obtain⟨q0,q1,q2⟩:=hSw;go_simp <;> with_reducible rfl) ?_
      try simp only [Act.put,nA]
      refine tk (i:=4) (oi:=⟨some 48,.load 3 (.tmp 47),3,"law.go:68",#[⟨3,.data⟩],none⟩) (hy:=by intro w hSw;(try dsimp only at hSw);obtain⟨q0,q1,q2⟩:=hSw;go_simp <;> with_reducible rfl) ?_
      try simp only [Act.put,nA]
      refine tk (i:=5) (oi:=⟨some 49,.fieldAddr 24 (.tmp 6) 3,0,"law.go:68",#[],none⟩) (hy:=by intro w hSw;(try dsimp only at hSw);obtain⟨q0,q1,q2⟩:=hSw;go_simp <;> with_reducible rfl) ?_
      try simp only [Act.put,nA]
      refine tk (i:=6) (oi:=⟨some 50,.load 3 (.tmp 49),3,"law.go:68",#[⟨5,.data⟩],none⟩) (hy:=by intro w hSw;(try dsimp only at hSw);obtain⟨q0,q1,q2⟩:=hSw;go_simp <;> with_reducible rfl) ?_
      try simp only [Act.put,nA]
      refine tk (i:=7) (oi:=⟨some 51,.convert 3 49 (.tmp 50),49,"law.go:68",#[⟨6,.data⟩],none⟩) (hy:=by intro w hSw;(try dsimp only at hSw);obtain⟨q0,q1,q2⟩:=hSw;go_simp <;> with_reducible rfl) ?_
      try simp only [Act.put,nA]
      refine tk (i:=9) (oi:=⟨some 53,.move (.tmp 4),44,"law.go:68",#[],none⟩) (hy:=by intro w hSw;(try dsimp only at hSw);obtain⟨q0,q1,q2⟩:=hSw;go_simp <;> with_reducible rfl) ?_
      try simp only [Act.put,nA]
      refine tk (i:=10) (oi:=⟨some 54,.fieldAddr 24 (.tmp 6) 1,0,"law.go:68",#[],none⟩) (hy:=by intro w hSw;(try dsimp only at hSw);obtain⟨q0,q1,q2⟩:=hSw;go_simp <;> with_reducible rfl) ?_
      try simp only [Act.put,nA]
      refine tk (i:=11) (oi:=⟨some 55,.load 3 (.tmp 54),3,"law.go:68",#[⟨10,.data⟩],none⟩) (hy:=by intro w hSw;(try dsimp only at hSw);obtain⟨q0,q1,q2⟩:=hSw;go_simp <;> with_reducible rfl) ?_
      try simp only [Act.put,nA]
      refine tk (i:=12) (oi:=⟨some 56,.fieldAddr 24 (.tmp 6) 2,0,"law.go:68",#[],none⟩) (hy:=by intro w hSw;(try dsimp only at hSw);obtain⟨q0,q1,q2⟩:=hSw;go_simp <;> with_reducible rfl) ?_
      try simp only [Act.put,nA]
      refine tk (i:=13) (oi:=⟨some 57,.load 3 (.tmp 56),3,"law.go:68",#[⟨12,.data⟩],none⟩) (hy:=by intro w hSw;(try dsimp only at hSw);obtain⟨q0,q1,q2⟩:=hSw;go_simp <;> with_reducible rfl) ?_
      try simp only [Act.put,nA]
      refine tk (i:=14) (oi:=⟨some 58,.fieldAddr 24 (.tmp 6) 3,0,"law.go:68",#[],none⟩) (hy:=by intro w hSw;(try dsimp only at hSw);obtain⟨q0,q1,q2⟩:=hSw;go_simp <;> with_reducible rfl) ?_
      try simp only [Act.put,nA]
      refine tk (i:=15) (oi:=⟨some 59,.load 3 (.tmp 58),3,"law.go:68",#[⟨14,.data⟩],none⟩) (hy:=by intro w hSw;(try dsimp only at hSw);obtain⟨q0,q1,q2⟩:=hSw;go_simp <;> with_reducible rfl) ?_
      try simp only [Act.put,nA]
      refine tk (i:=16) (oi:=⟨some 60,.convert 3 49 (.tmp 59),49,"law.go:68",#[⟨15,.data⟩],none⟩) (hy:=by intro w hSw;(try dsimp only at hSw);obtain⟨q0,q1,q2⟩:=hSw;go_simp <;> with_reducible rfl) ?_
      try simp only [Act.put,nA]
      refine wpAnyH_ready (rs:=[8]) (by kernel_rfl) (by simp) ?_
      refine AllReadyH.cons (o:=⟨some 52,.call { callee:=.value (.func 13),args:=#[.tmp 44,.tmp 46,.tmp 48,.tmp 51],argTypes:=#[42,3,3,49] },4,"law.go:68",#[⟨0,.data⟩,⟨2,.data⟩,⟨4,.data⟩,⟨7,.data⟩],none⟩) rfl (fun K9 hK=>?_) AllReadyH.nil
      go_simp
      refine (pq9_iput (hQ.out.up ((Below.refl _ _).drew)) y z (u % 4294967296) hl10.out by' bz' ⟨by omega,by omega⟩).mono ?_
      rintro e w8 ⟨rfl,h8⟩
      obtain⟨e1,e2,e3⟩:=hqc.out _ h8.hp
      replace h8:=Lib.hid h8
      go_wp2_with fail
      refine hK.out _ _ ?_ ?_
      ·(try dsimp only);exact⟨e1,e2,e3⟩
      clear hK K9 hHeld;intro hHeld
      try simp only [Act.put,nA]
      refine wpAnyH_ready (rs:=[17]) (by kernel_rfl) (by simp) ?_
      refine AllReadyH.cons (o:=⟨some 61,.call { callee:=.value (.func 14),args:=#[.tmp 53,.tmp 55,.tmp 57,.tmp 60],argTypes:=#[44,3,3,49] },4,"law.go:68",#[⟨9,.data⟩,⟨11,.data⟩,⟨13,.data⟩,⟨16,.data⟩,⟨8,.chain⟩],none⟩) rfl (fun K9 hK=>?_) AllReadyH.nil
      go_simp
      refine (pq9_rput h8.out y z (u % 4294967296) hl10.out by' bz' ⟨by omega,by omega⟩).mono ?_
      rintro e w9 ⟨rfl,h9⟩
      obtain⟨f1,f2,f3⟩:=hqc.out _ h9.hp
      replace h9:=Lib.hid h9
      go_wp2_with fail
      refine hK.out _ _ ?_ ?_
      ·(try dsimp only);exact⟨f1,f2,f3⟩
      clear hK K9 hHeld;intro hHeld
      try simp only [Act.put,nA]
      refine tk (i:=18) (oi:=⟨some 62,.binOp .neq 4 (.tmp 52) (.tmp 61) 4,4,"law.go:68",#[⟨8,.data⟩,⟨17,.data⟩],none⟩) (hy:=by intro w hSw;(try dsimp only at hSw);obtain⟨q0,q1,q2⟩:=hSw;go_simp <;> with_reducible rfl) ?_
      try simp only [Act.put,nA]
      refine wpAnyH_done (by kernel_rfl) ?_ _
      have P8:=Lib.hid (same_y h9.out.drop (by have:=hlL.out;first | (have:=alL_len L y z;omega) | (rw [puL_len];omega) | (rw [swL_len];omega)))
      skip
      by_cases hm:(i:Int) % 4=3
      ·as_aux_lemma =>
       go_wp2_with (go_at_call 19;refine (P8.out).mono ?_;rintro e w10 ⟨rfl,hb10⟩;have h10:=Lib.hid (h9.out.drop.up hb10))
       go_roundw
       case rel=>exact⟨i+1,_,hi1,hi81,by have:=hlL.out;first | (have:=alL_len L y z;omega) | (rw [puL_len];omega) | (rw [swL_len];omega),by go_num,Lib.hid h10.out⟩
       case measure=>simp [intOf];omega
      ·as_aux_lemma =>
       go_wp2_with fail
       go_roundw
       case rel=>exact⟨i+1,_,hi1,hi81,by have:=hlL.out;first | (have:=alL_len L y z;omega) | (rw [puL_len];omega) | (rw [swL_len];omega),by go_num,Lib.hid h9.out.drop⟩
       case measure=>simp [intOf];omega
    ·have n3:(x == 3)=false:=by simp;omega
     have n4:(x == 4)=false:=by simp;omega
     by_cases k5:x=5
     ·as_aux_lemma =>
      have n5:(x == 5)=true:=by simpa using k5
      have dq:(swB8 L y z != swB8 L y z)=false:=by simp
      go_upto_region 16 with fail
      refine wp_region_held_drew (S:=(fun wr'=>wr'.cell? ⟨q6,1,none⟩=some (.int .i64 y)∧wr'.cell? ⟨q6,2,none⟩=some (.int .i64 z)∧wr'.cell? ⟨q6,3,none⟩=some (.int .i64 u))) (by kernel_rfl) ?_ (fun hHeld=>?_)
      ·(try dsimp only);exact⟨a1,a2,a3⟩
      try simp only [Act.put,nA]
      refine tk (i:=0) (oi:=⟨some 65,.move (.tmp 3),42,"law.go:72",#[],none⟩) (hy:=by intro w hSw;(try dsimp only at hSw);obtain⟨q0,q1,q2⟩:=hSw;go_simp <;> with_reducible rfl) ?_
      try simp only [Act.put,nA]
      refine tk (i:=1) (oi:=⟨some 66,.fieldAddr 24 (.tmp 6) 1,0,"law.go:72",#[],none⟩) (hy:=by intro w hSw;(try dsimp only at hSw);obtain⟨q0,q1,q2⟩:=hSw;go_simp <;> with_reducible rfl) ?_
      try simp only [Act.put,nA]
      refine tk (i:=2) (oi:=⟨some 67,.load 3 (.tmp 66),3,"law.go:72",#[⟨1,.data⟩],none⟩) (hy:=by intro w hSw;(try dsimp only at hSw);obtain⟨q0,q1,q2⟩:=hSw;go_simp <;> with_reducible rfl) ?_
      try simp only [Act.put,nA]
      refine tk (i:=3) (oi:=⟨some 68,.fieldAddr 24 (.tmp 6) 2,0,"law.go:72",#[],none⟩) (hy:=by intro w hSw;(try dsimp only at hSw);obtain⟨q0,q1,q2⟩:=hSw;go_simp <;> with_reducible rfl) ?_
      try simp only [Act.put,nA]
      refine tk (i:=4) (oi:=⟨some 69,.load 3 (.tmp 68),3,"law.go:72",#[⟨3,.data⟩],none⟩) (hy:=by intro w hSw;(try dsimp only at hSw);obtain⟨q0,q1,q2⟩:=hSw;go_simp <;> with_reducible rfl) ?_
      try simp only [Act.put,nA]
      refine tk (i:=6) (oi:=⟨some 71,.move (.tmp 4),44,"law.go:72",#[],none⟩) (hy:=by intro w hSw;(try dsimp only at hSw);obtain⟨q0,q1,q2⟩:=hSw;go_simp <;> with_reducible rfl) ?_
      try simp only [Act.put,nA]
      refine tk (i:=7) (oi:=⟨some 72,.fieldAddr 24 (.tmp 6) 1,0,"law.go:72",#[],none⟩) (hy:=by intro w hSw;(try dsimp only at hSw);obtain⟨q0,q1,q2⟩:=hSw;go_simp <;> with_reducible rfl) ?_
      try simp only [Act.put,nA]
      refine tk (i:=8) (oi:=⟨some 73,.load 3 (.tmp 72),3,"law.go:72",#[⟨7,.data⟩],none⟩) (hy:=by intro w hSw;(try dsimp only at hSw);obtain⟨q0,q1,q2⟩:=hSw;go_simp <;> with_reducible rfl) ?_
      try simp only [Act.put,nA]
      refine tk (i:=9) (oi:=⟨some 74,.fieldAddr 24 (.tmp 6) 2,0,"law.go:72",#[],none⟩) (hy:=by intro w hSw;(try dsimp only at hSw);obtain⟨q0,q1,q2⟩:=hSw;go_simp <;> with_reducible rfl) ?_
      try simp only [Act.put,nA]
      refine tk (i:=10) (oi:=⟨some 75,.load 3 (.tmp 74),3,"law.go:72",#[⟨9,.data⟩],none⟩) (hy:=by intro w hSw;(try dsimp only at hSw);obtain⟨q0,q1,q2⟩:=hSw;go_simp <;> with_reducible rfl) ?_
      try simp only [Act.put,nA]
      refine wpAnyH_ready (rs:=[5]) (by kernel_rfl) (by simp) ?_
      refine AllReadyH.cons (o:=⟨some 70,.call { callee:=.value (.func 15),args:=#[.tmp 65,.tmp 67,.tmp 69],argTypes:=#[42,3,3] },4,"law.go:72",#[⟨0,.data⟩,⟨2,.data⟩,⟨4,.data⟩],none⟩) rfl (fun K9 hK=>?_) AllReadyH.nil
      go_simp
      refine (pq9_iswap (hQ.out.up ((Below.refl _ _).drew)) y z hl10.out by' bz').mono ?_
      rintro e w8 ⟨rfl,h8⟩
      obtain⟨e1,e2,e3⟩:=hqc.out _ h8.hp
      replace h8:=Lib.hid h8
      go_wp2_with fail
      refine hK.out _ _ ?_ ?_
      ·(try dsimp only);exact⟨e1,e2,e3⟩
      clear hK K9 hHeld;intro hHeld
      try simp only [Act.put,nA]
      refine wpAnyH_ready (rs:=[11]) (by kernel_rfl) (by simp) ?_
      refine AllReadyH.cons (o:=⟨some 76,.call { callee:=.value (.func 16),args:=#[.tmp 71,.tmp 73,.tmp 75],argTypes:=#[44,3,3] },4,"law.go:72",#[⟨6,.data⟩,⟨8,.data⟩,⟨10,.data⟩,⟨5,.chain⟩],none⟩) rfl (fun K9 hK=>?_) AllReadyH.nil
      go_simp
      refine (pq9_rswap h8.out y z hl10.out by' bz').mono ?_
      rintro e w9 ⟨rfl,h9⟩
      obtain⟨f1,f2,f3⟩:=hqc.out _ h9.hp
      replace h9:=Lib.hid h9
      go_wp2_with fail
      refine hK.out _ _ ?_ ?_
      ·(try dsimp only);exact⟨f1,f2,f3⟩
      clear hK K9 hHeld;intro hHeld
      try simp only [Act.put,nA]
      refine tk (i:=12) (oi:=⟨some 77,.binOp .neq 4 (.tmp 70) (.tmp 76) 4,4,"law.go:72",#[⟨5,.data⟩,⟨11,.data⟩],none⟩) (hy:=by intro w hSw;(try dsimp only at hSw);obtain⟨q0,q1,q2⟩:=hSw;go_simp <;> with_reducible rfl) ?_
      try simp only [Act.put,nA]
      refine wpAnyH_done (by kernel_rfl) ?_ _
      have P8:=Lib.hid (same_y h9.out.drop (by have:=hlL.out;first | (have:=alL_len L y z;omega) | (rw [puL_len];omega) | (rw [swL_len];omega)))
      skip
      by_cases hm:(i:Int) % 4=3
      ·as_aux_lemma =>
       go_wp2_with (go_at_call 19;refine (P8.out).mono ?_;rintro e w10 ⟨rfl,hb10⟩;have h10:=Lib.hid (h9.out.drop.up hb10))
       go_roundw
       case rel=>exact⟨i+1,_,hi1,hi81,by have:=hlL.out;first | (have:=alL_len L y z;omega) | (rw [puL_len];omega) | (rw [swL_len];omega),by go_num,Lib.hid h10.out⟩
       case measure=>simp [intOf];omega
      ·as_aux_lemma =>
       go_wp2_with fail
       go_roundw
       case rel=>exact⟨i+1,_,hi1,hi81,by have:=hlL.out;first | (have:=alL_len L y z;omega) | (rw [puL_len];omega) | (rw [swL_len];omega),by go_num,Lib.hid h9.out.drop⟩
       case measure=>simp [intOf];omega
     ·as_aux_lemma =>
      have n5:(x == 5)=false:=by simpa using k5
      have dq:(alI L y z != alI L y z)=false:=by simp
      go_upto_region 9 with fail
      refine wp_region_held_drew (S:=(fun wr'=>wr'.cell? ⟨q6,1,none⟩=some (.int .i64 y)∧wr'.cell? ⟨q6,2,none⟩=some (.int .i64 z)∧wr'.cell? ⟨q6,3,none⟩=some (.int .i64 u))) (by kernel_rfl) ?_ (fun hHeld=>?_)
      ·(try dsimp only);exact⟨a1,a2,a3⟩
      try simp only [Act.put,nA]
      refine tk (i:=0) (oi:=⟨some 28,.move (.tmp 3),42,"law.go:76",#[],none⟩) (hy:=by intro w hSw;(try dsimp only at hSw);obtain⟨q0,q1,q2⟩:=hSw;go_simp <;> with_reducible rfl) ?_
      try simp only [Act.put,nA]
      refine tk (i:=1) (oi:=⟨some 29,.fieldAddr 24 (.tmp 6) 1,0,"law.go:76",#[],none⟩) (hy:=by intro w hSw;(try dsimp only at hSw);obtain⟨q0,q1,q2⟩:=hSw;go_simp <;> with_reducible rfl) ?_
      try simp only [Act.put,nA]
      refine tk (i:=2) (oi:=⟨some 30,.load 3 (.tmp 29),3,"law.go:76",#[⟨1,.data⟩],none⟩) (hy:=by intro w hSw;(try dsimp only at hSw);obtain⟨q0,q1,q2⟩:=hSw;go_simp <;> with_reducible rfl) ?_
      try simp only [Act.put,nA]
      refine tk (i:=3) (oi:=⟨some 31,.fieldAddr 24 (.tmp 6) 2,0,"law.go:76",#[],none⟩) (hy:=by intro w hSw;(try dsimp only at hSw);obtain⟨q0,q1,q2⟩:=hSw;go_simp <;> with_reducible rfl) ?_
      try simp only [Act.put,nA]
      refine tk (i:=4) (oi:=⟨some 32,.load 3 (.tmp 31),3,"law.go:76",#[⟨3,.data⟩],none⟩) (hy:=by intro w hSw;(try dsimp only at hSw);obtain⟨q0,q1,q2⟩:=hSw;go_simp <;> with_reducible rfl) ?_
      try simp only [Act.put,nA]
      refine tk (i:=6) (oi:=⟨some 34,.move (.tmp 4),44,"law.go:76",#[],none⟩) (hy:=by intro w hSw;(try dsimp only at hSw);obtain⟨q0,q1,q2⟩:=hSw;go_simp <;> with_reducible rfl) ?_
      try simp only [Act.put,nA]
      refine tk (i:=7) (oi:=⟨some 35,.fieldAddr 24 (.tmp 6) 1,0,"law.go:76",#[],none⟩) (hy:=by intro w hSw;(try dsimp only at hSw);obtain⟨q0,q1,q2⟩:=hSw;go_simp <;> with_reducible rfl) ?_
      try simp only [Act.put,nA]
      refine tk (i:=8) (oi:=⟨some 36,.load 3 (.tmp 35),3,"law.go:76",#[⟨7,.data⟩],none⟩) (hy:=by intro w hSw;(try dsimp only at hSw);obtain⟨q0,q1,q2⟩:=hSw;go_simp <;> with_reducible rfl) ?_
      try simp only [Act.put,nA]
      refine tk (i:=9) (oi:=⟨some 37,.fieldAddr 24 (.tmp 6) 2,0,"law.go:76",#[],none⟩) (hy:=by intro w hSw;(try dsimp only at hSw);obtain⟨q0,q1,q2⟩:=hSw;go_simp <;> with_reducible rfl) ?_
      try simp only [Act.put,nA]
      refine tk (i:=10) (oi:=⟨some 38,.load 3 (.tmp 37),3,"law.go:76",#[⟨9,.data⟩],none⟩) (hy:=by intro w hSw;(try dsimp only at hSw);obtain⟨q0,q1,q2⟩:=hSw;go_simp <;> with_reducible rfl) ?_
      try simp only [Act.put,nA]
      refine wpAnyH_ready (rs:=[5]) (by kernel_rfl) (by simp) ?_
      refine AllReadyH.cons (o:=⟨some 33,.call { callee:=.value (.func 17),args:=#[.tmp 28,.tmp 30,.tmp 32],argTypes:=#[42,3,3] },3,"law.go:76",#[⟨0,.data⟩,⟨2,.data⟩,⟨4,.data⟩],none⟩) rfl (fun K9 hK=>?_) AllReadyH.nil
      go_simp
      refine (pq9_ialloc (hQ.out.up ((Below.refl _ _).drew)) y z hl10.out by' bz').mono ?_
      rintro e w8 ⟨rfl,h8⟩
      obtain⟨e1,e2,e3⟩:=hqc.out _ h8.hp
      replace h8:=Lib.hid h8
      go_wp2_with fail
      refine hK.out _ _ ?_ ?_
      ·(try dsimp only);exact⟨e1,e2,e3⟩
      clear hK K9 hHeld;intro hHeld
      try simp only [Act.put,nA]
      refine wpAnyH_ready (rs:=[11]) (by kernel_rfl) (by simp) ?_
      refine AllReadyH.cons (o:=⟨some 39,.call { callee:=.value (.func 18),args:=#[.tmp 34,.tmp 36,.tmp 38],argTypes:=#[44,3,3] },3,"law.go:76",#[⟨6,.data⟩,⟨8,.data⟩,⟨10,.data⟩,⟨5,.chain⟩],none⟩) rfl (fun K9 hK=>?_) AllReadyH.nil
      go_simp
      refine (pq9_ralloc h8.out y z hl10.out by' bz').mono ?_
      rintro e w9 ⟨rfl,h9⟩
      obtain⟨f1,f2,f3⟩:=hqc.out _ h9.hp
      replace h9:=Lib.hid h9
      go_wp2_with fail
      refine hK.out _ _ ?_ ?_
      ·(try dsimp only);exact⟨f1,f2,f3⟩
      clear hK K9 hHeld;intro hHeld
      try simp only [Act.put,nA]
      refine tk (i:=12) (oi:=⟨some 40,.binOp .neq 3 (.tmp 33) (.tmp 39) 3,4,"law.go:76",#[⟨5,.data⟩,⟨11,.data⟩],none⟩) (hy:=by intro w hSw;(try dsimp only at hSw);obtain⟨q0,q1,q2⟩:=hSw;go_simp <;> with_reducible rfl) ?_
      try simp only [Act.put,nA]
      refine wpAnyH_done (by kernel_rfl) ?_ _
      have P8:=Lib.hid (same_y h9.out.drop (by have:=hlL.out;first | (have:=alL_len L y z;omega) | (rw [puL_len];omega) | (rw [swL_len];omega)))
      skip
      by_cases hm:(i:Int) % 4=3
      ·as_aux_lemma =>
       go_wp2_with (go_at_call 19;refine (P8.out).mono ?_;rintro e w10 ⟨rfl,hb10⟩;have h10:=Lib.hid (h9.out.drop.up hb10))
       go_roundw
       case rel=>exact⟨i+1,_,hi1,hi81,by have:=hlL.out;first | (have:=alL_len L y z;omega) | (rw [puL_len];omega) | (rw [swL_len];omega),by go_num,Lib.hid h10.out⟩
       case measure=>simp [intOf];omega
      ·as_aux_lemma =>
       go_wp2_with fail
       go_roundw
       case rel=>exact⟨i+1,_,hi1,hi81,by have:=hlL.out;first | (have:=alL_len L y z;omega) | (rw [puL_len];omega) | (rw [swL_len];omega),by go_num,Lib.hid h9.out.drop⟩
       case measure=>simp [intOf];omega
   ·as_aux_lemma =>
    have d2:decide ((i:Int) < 80)=false:=by simp;omega
    have P8:=Lib.hid (same_y hS.out (by omega))
    go_wp2_with (go_at_call 19;refine (P8.out).mono ?_;rintro e w10 ⟨rfl,hb10⟩;have h10:=Lib.hid (hS.out.up hb10))
    go_ret
    exact⟨rfl,h10.out.bel⟩
  ·as_aux_lemma =>
   have d1:decide ((i:Int) < (n:Int))=false:=by simp;omega
   have P8:=Lib.hid (same_y hS.out (by omega))
   go_wp2_with (go_at_call 19;refine (P8.out).mono ?_;rintro e w10 ⟨rfl,hb10⟩;have h10:=Lib.hid (hS.out.up hb10))
   go_ret
   exact⟨rfl,h10.out.bel⟩
end Wd
end Go.Proofs.YteiejjmhmmkdhaaGreat

/- The document's own Load: a value's word. -/
namespace Go.Proofs.YteiejjmhmmkdhaaGreat
open Go.RowKit
set_option linter.unusedVariables false
set_option maxRecDepth 20000
namespace Wd
set_option maxHeartbeats 4000000 in
theorem value8_c {w:World} {a:Option Addr} {n c:Nat} {k x:Int} {ids:List Int} (hi:w.ownsRow 0 3 1 (.slice a n c) n (ints ids)) (h4:k=4→0≤x∧x < (ids.length:Int)) :
  Calls Tryz.prog 47 #[.agg #[.int .i64 k,.int .i64 x],.slice a n c] w fun e w'=>e=.returned (.int .u32 (valW (k,x) ids))∧Below w.heap.size w w':=by
 have hB:Below w.heap.size w (w.alloc (.cells #[.int .i64 k,.int .i64 x] 80)):=(Below.refl _ _).alloc (Nat.le_refl _) _
 replace hB:=Lib.hid hB
 have PI:=Lib.hid (Ww.refInt_c x)
 by_cases h1:k=1
 ·subst h1
  rw [show valW (1,x) ids=6 from rfl]
  clear h4 hi PI
  go_enter Tryz.func47,Tryz.ntmps47
  go_wp2
  go_ret
  exact⟨rfl,hB.out⟩
 by_cases h2:k=2
 ·subst h2
  rw [show valW (2,x) ids=4 from rfl]
  clear h4 hi PI h1
  go_enter Tryz.func47,Tryz.ntmps47
  go_wp2
  go_ret
  exact⟨rfl,hB.out⟩
 by_cases h3:k=3
 ·subst h3
  rw [show valW (3,x) ids=Ww.iv x from rfl]
  clear h4 hi h1 h2
  go_enter Tryz.func47,Tryz.ntmps47
  go_wp2_with (first | (go_at_call 70;(refine (PI.out _).mono ?_);rintro e w2 ⟨rfl,hw2⟩;subst w2))
  go_ret
  exact⟨rfl,hB.out⟩
 by_cases h5:k=4
 ·subst h5
  obtain⟨g0,g1⟩:=h4 rfl
  obtain⟨j,rfl⟩:∃ j:Nat,x=j:=⟨x.toNat,by omega⟩
  have hj:j < ids.length:=by omega
  rw [show valW (4,(j:Int)) ids=Ww.ov (ids.getD j 0) from rfl,List.getD_eq_getElem?_getD,List.getElem?_eq_getElem hj,Option.getD_some]
  have hln:ids.length=n:=by have:=hi.1;simpa [ints] using this
  have PO:=Lib.hid (Ww.refOop_c ids[j])
  rcases hi.2 with ⟨e,e2⟩ | ⟨g,cap',cur,e,_⟩
  ·omega
  ·cases e
   have hc:=row_cell (own_base hi) (k:=j) (x:=ids[j]) (by simp)
   have hc2:=Lib.hid (cell_up hB.out hc)
   have cx:=hc2.out
   have hlt:(j:Int) < (n:Int):=by omega
   have hltn:j < n:=by omega
   clear hi hc h4 h1 h2 h3 g0 g1 PI
   generalize ids[j]=y at *
   clear hj
   generalize hW:w.alloc (.cells #[.int .i64 4,.int .i64 (j:Int)] 80)=W at *
   have z0:W.cell? ⟨w.heap.size,0,none⟩=some (.int .i64 4):=by rw [← hW];simp
   have z1:W.cell? ⟨w.heap.size,1,none⟩=some (.int .i64 j):=by rw [← hW];simp
   go_enter Tryz.func47,Tryz.ntmps47
   go_upto_region 1 with fail
   clear hW
   go_wp2_with (first | (go_at_call 71;(refine (PO.out _).mono ?_);rintro e w2 ⟨rfl,hw2⟩;subst w2))
   go_ret
   exact⟨rfl,hB.out⟩
 ·rw [show valW (k,x) ids=2 by unfold valW;rw [if_neg h1,if_neg h2,if_neg h3,if_neg h5]]
  have d1:(k == 1)=false:=by simpa using h1
  have d2:(k == 2)=false:=by simpa using h2
  have d3:(k == 3)=false:=by simpa using h3
  have d4:(k == 4)=false:=by simpa using h5
  clear h4 hi PI h1 h2 h3 h5
  go_enter Tryz.func47,Tryz.ntmps47
  go_wp2
  go_ret
  exact⟨rfl,hB.out⟩
end Wd
end Go.Proofs.YteiejjmhmmkdhaaGreat

/- The document's own Load: what holds while it runs. -/
namespace Go.Proofs.YteiejjmhmmkdhaaGreat
open Go.RowKit
set_option linter.unusedVariables false
set_option maxRecDepth 20000
namespace Wd
def PD (b:Nat) (w:World) (L:List Ob8) (F:Nat→Prop):Prop:=∃ v xs us,F=unR b v us L.length∧RD w b v xs us L
section
variable {b:Nat} {w w':World} {L:List Ob8} {F:Nat→Prop}
theorem PD.lt (h:PD b w L F):∀ k,F k→k < w.heap.size:=by
 obtain⟨v,xs,us,rfl,h⟩:=h
 exact h.lt
theorem PD.same (h:PD b w L F) (hs:w.heap.size≤w'.heap.size) (e:∀ k,F k→w'.heap[k]?=w.heap[k]?):PD b w' L F:=by
 obtain⟨v,xs,us,rfl,h⟩:=h
 exact⟨v,xs,us,rfl,h.same hs e⟩
theorem pd_alloc (c n:Int) (h:PD b w L F) (hl:L.length≤10000) (hc:b64 c) (hn:b64 n):Calls Tryz.prog 18 #[pV b,.int .i64 c,.int .i64 n] w fun e w'=>e=.returned (.int .i64 (alI L c n))∧∃ F',PD b w' (alL L c n) F'∧Cg F w w'∧∀ k,F' k→F k∨w.heap.size≤k:=by
 obtain⟨v,xs,us,rfl,h⟩:=h
 refine (ralloc_c h c n hc hn hl).mono ?_
 rintro e w' ⟨rfl,v',xs',us',h1,h2,h3⟩
 exact⟨rfl,_,⟨v',xs',us',rfl,h1⟩,h2,h3⟩
theorem pd_put (i j x:Int) (h:PD b w L F) (hl:L.length≤10000) (hi:b64 i) (hj:b64 j) (hx:b32 x):Calls Tryz.prog 14 #[pV b,.int .i64 i,.int .i64 j,.int .u32 x] w fun e w'=>e=.returned (.bool (puB L i j x))∧PD b w' (puL L i j x) F∧Cg F w w':=by
 obtain⟨v,xs,us,rfl,h⟩:=h
 refine (rput_c h i j x hi hj hx (by omega)).mono ?_
 rintro e w' ⟨rfl,h1,h2⟩
 exact⟨rfl,⟨v,xs,us,by rw [puL_len],h1⟩,h2⟩
end
structure LdR (b:Nat) (w0:World) (F0:Nat→Prop) (oa:Option Addr) (n oc:Nat) (wr:World) (iv:Value) (T:List Ob8) (F:Nat→Prop) (ids:List Int):Prop where
 cg:Cg F0 w0 wr
 sz:w0.heap.size+1≤wr.heap.size
 st:PD b wr T F
 nF:∀ k,F k→(F0 k∧k < w0.heap.size)∨w0.heap.size+1≤k
 b3:wr.cell? ⟨w0.heap.size,3,none⟩=some (.slice oa n oc)
 own:wr.ownsRow 0 3 1 iv ids.length (ints ids)
 of:∀ k,iv.ownBlock=some k→¬ F k∧w0.heap.size+1≤k
section
variable {b:Nat} {w0 wr w' w2:World} {F0 F F':Nat→Prop} {oa:Option Addr} {n oc:Nat} {iv iv':Value} {T T':List Ob8} {ids:List Int}
theorem LdR.up (h:LdR b w0 F0 oa n oc wr iv T F ids) (g:Below wr.heap.size wr w'):LdR b w0 F0 oa n oc w' iv T F ids :=
 ⟨h.cg.trans (Cg.below _ g),Nat.le_trans h.sz g.size,h.st.same g.size (fun k hk=>g.block k (h.st.lt k hk)),h.nF,cell_up g h.b3,own_same h.own (fun k hk=>g.block k (own_lt h.own k hk)) g.size,h.of⟩
theorem LdR.stp (h:LdR b w0 F0 oa n oc wr iv T F ids) (hP:PD b w' T' F') (c:Cg F wr w') (hn:∀ k,F' k→F k∨wr.heap.size≤k):LdR b w0 F0 oa n oc w' iv T' F' ids:=by
 have hz:=h.sz
 refine⟨h.cg.trans' c (fun k hk=>(h.nF k hk).elim (fun e=>Or.inl e.1) (fun e=>Or.inr (by omega))),Nat.le_trans hz c.size,hP,fun k hk=>(hn k hk).elim (h.nF k) (fun e=>Or.inr (by omega)),(World.cell?_of_block (a:=⟨w0.heap.size,3,none⟩) (c.block w0.heap.size (by omega) (fun hF=>by rcases h.nF _ hF with h1 | h1 <;> omega))).trans h.b3,own_same h.own (fun k hk=>c.block k (own_lt h.own k hk) (h.of k hk).1) c.size,fun k hk=>⟨fun hF=>?_,(h.of k hk).2⟩⟩
 rcases hn k hF with h1 | h1
 ·exact (h.of k hk).1 h1
 ·have:=own_lt h.own k hk;omega
theorem LdR.app (h:LdR b w0 F0 oa n oc wr iv T F ids) {id:Int} {o:Obj} (ho:w2.ownsRow 0 3 1 iv' (ids.length+1) (ints ids++[.int .i64 id])) (hg:(wr.alloc o).grownBy w2 iv.ownBlock) (hv:iv'.ownBlock=iv.ownBlock∨iv'.ownBlock=some (wr.alloc o).heap.size) :
  LdR b w0 F0 oa n oc w2 iv' T F (ids++[id]):=by
 have hz:=h.sz
 have hs1:(wr.alloc o).heap.size=wr.heap.size+1:=by simp
 have hsz:wr.heap.size≤w2.heap.size:=by have:=hg.size;omega
 have e2:∀ k,k < wr.heap.size→iv.ownBlock≠some k→w2.heap[k]?=wr.heap[k]?:=fun k hk hne=>(hg.block k (by omega) (fun e=>hne e.symm)).trans (Below.heap_alloc _ _ _ hk)
 have hlF:=h.st.lt
 refine⟨⟨hg.os.trans h.cg.os,hg.tape.trans h.cg.tape,hg.output.trans h.cg.output,by omega,fun k hk hF=>(e2 k (by omega) (fun e=>by have:=(h.of k e).2;omega)).trans (h.cg.block k hk hF)⟩,by omega,h.st.same hsz (fun k hF=>e2 k (hlF k hF) (fun e=>(h.of k e).1 hF)),h.nF,(World.cell?_of_block (a:=⟨w0.heap.size,3,none⟩) (e2 w0.heap.size (by omega) (fun e=>by have:=(h.of _ e).2;omega))).trans h.b3,?_,fun k hk=>?_⟩
 ·have:ints (ids++[id])=ints ids++[.int .i64 id]:=by simp [ints]
  rw [List.length_append,List.length_singleton,this]
  exact ho
 ·rcases hv with e | e
  ·exact h.of k (by rw [← e];exact hk)
  ·rw [e] at hk
   have:=Option.some.inj hk
   exact⟨fun hF=>by have:=hlF k hF;omega,by omega⟩
theorem LdR.begin {a:Obj} {w:World} {S:List Ob8} {x0 x1 x2 x4:Value} (hP:PD b w S F0) (hA:a=.cells #[x0,x1,x2,.slice oa n oc,x4] 32) :
  LdR b w F0 oa n oc (w.alloc a) (.slice none 0 0) S F0 []:=by
 have g:Below w.heap.size w (w.alloc a):=(Below.refl _ _).alloc (Nat.le_refl _) _
 refine⟨Cg.below _ g,by simp,hP.same g.size (fun k hk=>g.block k (hP.lt k hk)),fun k hk=>Or.inl ⟨hk,hP.lt k hk⟩,by rw [hA];exact World.cell?_alloc_new _ _ _ 3,⟨by simp [ints],Or.inl ⟨rfl,rfl⟩⟩,fun k e=>by simp [Value.ownBlock] at e⟩
end
end Wd
end Go.Proofs.YteiejjmhmmkdhaaGreat
