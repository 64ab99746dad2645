/- Texts joined: RPure, RLast, MBase, KB, KC, KV, KR, KL, KG, KP. -/
import Derived.Test.YteiejjmhmmkdhaaGreatRows
import Derived.RowKit
import Derived.Laws.OwnMore
import Derived.Deep.Draws
import Derived.OrdersHeld
import Derived.Deep.RegionHeld
import Derived.RegionTactic
import Derived.WalkKit
import Derived.WalkSpells
import Derived.WalkLawsBesides
import Derived.Handy
import Derived.Lib.Hide
import Derived.BigQuiet
import Derived.LoopN
import Derived.OneCell
import Derived.Maps.AppendAt
import Derived.Deep.AppendLies
import Derived.Deep.RegionHeldLaw
import Derived.StillTailTactics
import Derived.BigRegion
import Derived.Deep.RegionHeld3
import Derived.Deep.DeepCutAuto
import Derived.Deep.CutBlock
/- Rings as lists: no program is named here. -/
namespace Go.Proofs.YteiejjmhmmkdhaaGreat
open Go.RowKit
set_option linter.unusedVariables false
namespace Wd
def nxt (L:List Int) (i:Int):Int:=if i∈L then (L[(L.idxOf i+1) % L.length]?).getD 0 else -1
def prv (L:List Int) (i:Int):Int:=if i∈L then (L[(L.idxOf i+L.length - 1) % L.length]?).getD 0 else -1
def frm (L:List Int) (i:Int):List Int:=if i∈L then L.drop (L.idxOf i)++L.take (L.idxOf i) else []
def outL (L:List Int) (i:Int):List Int:=if i∈L then L.take (L.idxOf i)++L.drop (L.idxOf i+1) else L
def inL (L:List Int) (i a:Int):List Int:=if a∈L then L.take (L.idxOf a)++[i]++L.drop (L.idxOf a) else [i]
abbrev ints (L:List Int):List Value:=L.map (Value.int .i64)
theorem row_cell {w:World} {e:TypeId} {g n cap:Nat} {L:List Int} (h:w.ownsRow 0 e 1 (.slice (some ⟨g,0,none⟩) n cap) n (ints L)) {k:Nat} {x:Int} (hx:L[k]?=some x):w.cell? ⟨g,k,none⟩=some (.int .i64 x):=by
 have hl:L.length=n:=by have:=h.1;simpa using this
 have hk:=(List.getElem?_eq_some_iff.1 hx).1
 rw [h.cellAt k (by omega)]
 simp [ints,hx]
def SL (w:World) (e:TypeId) (v:Value) (L:List Int):Prop:=w.ownsRow 0 e 1 v L.length (ints L)
theorem SL.cases {w:World} {e:TypeId} {v:Value} {L:List Int} (h:SL w e v L):(v=.slice none 0 0∧L=[])∨∃ g cap,v=.slice (some ⟨g,0,none⟩) L.length cap∧L.length≤cap∧cap≤maxLen∧g < w.heap.size∧w.ownsRow 0 e 1 (.slice (some ⟨g,0,none⟩) L.length cap) L.length (ints L):=by
 rcases h.2 with ⟨rfl,h0⟩ | ⟨g,cap,cur,rfl,_,hh,hle,hm,_⟩
 ·exact Or.inl ⟨rfl,List.length_eq_zero_iff.1 h0⟩
 ·exact Or.inr ⟨g,cap,rfl,hle,hm,(Array.getElem?_eq_some_iff.1 hh).1,h⟩
end Wd
end Go.Proofs.YteiejjmhmmkdhaaGreat

/- A region that draws, whose last operation waits for all others: the others in whatever order, and then it. No program is named here. -/
namespace Go.Proofs.YteiejjmhmmkdhaaGreat
namespace Wd
section
variable {P:Program} {ops:Array Oper} {Q:Exit→Act→World→Prop} {md:Region.Mode} {S:World→Prop} {d:Nat}
def LastQ (P:Program) (ops:Array Oper) (Q:Exit→Act→World→Prop) (d:Nat):Exit→Act→World→Prop
 | .normal,a,w=>wpOp P ops Q d (Q .normal) a w
 | e,a,w=>Q e a w
theorem upon_last {o:Oper} {a:Act} {K:Act→World→Prop} {r:Result Next} (h:o.upon P a K (LastQ P ops Q d) r):o.upon P a K Q r:=by
 cases r with
 | ok n w' =>
  cases n
  case enter f args=>exact Calls.mono h fun e w'' he=>by cases e <;> exact he
  all_goals exact h
 | halt x w'=>cases x <;> exact h
theorem wpOp_last {i:Nat} {K:Act→World→Prop} {a:Act} {w:World} (h:wpOp P ops (LastQ P ops Q d) i K a w):wpOp P ops Q i K a w:=by
 cases ho:ops[i]? with
 | none=>simpa [wpOp,ho] using h
 | some o =>
  simp only [wpOp,ho] at h ⊢
  split <;> rename_i hw
  ·rw [if_pos hw] at h
   exact h.imp upon_last (fun h=>⟨h.1,h.2⟩)
  ·rwa [if_neg hw] at h
def onward (md:Region.Mode) (ops:Array Oper):Bool :=
 (List.range ops.size).all fun i=>((ops[i]?).map fun o=>o.after.all fun e=>!Region.binds md e || decide (e.on < i)).getD false
def waitsFor (md:Region.Mode) (ops:Array Oper) (k i:Nat):Bool:=((ops[k]?).map fun o=>o.after.any fun e=>Region.binds md e && e.on == i).getD false
def waitsDeep (md:Region.Mode) (ops:Array Oper):Nat→Nat→Nat→Bool
 | 0,k,i=>waitsFor md ops k i
 | f+1,k,i=>waitsDeep md ops f k i || (List.range ops.size).any fun j=>waitsFor md ops k j && waitsDeep md ops f j i
def waitsAll (md:Region.Mode) (ops:Array Oper) (d:Nat):Bool:=(List.range ops.size).all fun i=>i == d || waitsDeep md ops 2 d i
theorem waitsFor_ready {k i:Nat} {listed:Array Bool} (hk:k∈Region.ready md ops listed) (h:waitsFor md ops k i=true):listed.getD i false=true:=by
 obtain⟨_,o,ho,hall⟩:=mem_ready.1 hk
 simp only [waitsFor,ho,Option.map_some,Option.getD_some,Array.any_eq_true',Bool.and_eq_true,beq_iff_eq] at h
 obtain⟨e,he,hb,rfl⟩:=h
 exact hall e he hb
def Whole (md:Region.Mode) (ops:Array Oper) (listed:Array Bool):Prop:=∀ k i,waitsFor md ops k i=true→listed.getD k false=true→listed.getD i false=true
theorem Whole.deep {listed:Array Bool} (h:Whole md ops listed):∀ (f k i:Nat),waitsDeep md ops f k i=true→listed.getD k false=true→listed.getD i false=true
 | 0,k,i,hw,hk=>h k i hw hk
 | f+1,k,i,hw,hk=>by
  simp only [waitsDeep,Bool.or_eq_true,List.any_eq_true,Bool.and_eq_true] at hw
  rcases hw with hw | ⟨j,_,h1,h2⟩
  ·exact h.deep f k i hw hk
  ·exact h.deep f j i h2 (h k j h1 hk)
theorem Whole.deep_ready {k:Nat} {listed:Array Bool} (h:Whole md ops listed) (hk:k∈Region.ready md ops listed):∀ (f i:Nat),waitsDeep md ops f k i=true→listed.getD i false=true
 | 0,i,hw=>waitsFor_ready hk hw
 | f+1,i,hw=>by
  simp only [waitsDeep,Bool.or_eq_true,List.any_eq_true,Bool.and_eq_true] at hw
  rcases hw with hw | ⟨j,_,h1,h2⟩
  ·exact h.deep_ready hk f i hw
  ·exact h.deep f j i h2 (waitsFor_ready hk h1)
theorem Whole.step {k:Nat} {listed:Array Bool} (h:Whole md ops listed) (hk:k∈Region.ready md ops listed):Whole md ops (listed.setIfInBounds k true):=by
 intro m i hw hm
 by_cases c:m=k
 ·subst c;exact getD_set_true (waitsFor_ready hk hw)
 ·rw [getD_set_ne false (Ne.symm c)] at hm
  exact getD_set_true (h m i hw hm)
theorem getD_both {l:Array Bool} {i:Nat} (hi:i < l.size):l.getD i true=l.getD i false:=by simp [hi]
theorem none_left (hf:onward md ops=true) {listed:Array Bool} (hs:listed.size=ops.size) (hr:Region.ready md ops listed=[]):∀ (m i:Nat),i < m→i < ops.size→listed.getD i false=true:=by
 intro m
 induction m with
 | zero=>intro i h;omega
 | succ m ih =>
  intro i _ hi
  cases hb:listed.getD i false with
  | true=>rfl
  | false =>
   exfalso
   have ho:ops[i]?=some ops[i]:=by simp [hi]
   have hin:i∈Region.ready md ops listed:=by
    refine mem_ready.2 ⟨by rw [getD_both (by omega)];exact hb,ops[i],ho,fun e he hbd=>?_⟩
    have h1:=List.all_eq_true.1 hf i (List.mem_range.2 hi)
    rw [ho] at h1
    have h2:=Array.all_eq_true_iff_forall_mem.1 h1 e he
    simp only [hbd,Bool.not_true,Bool.false_or,decide_eq_true_eq] at h2
    exact ih e.on (by omega) (by omega)
   rw [hr] at hin
   cases hin
theorem wpAny_last (hf:onward md ops=true) (hw:waitsAll md ops d=true) (hd:d < ops.size):∀ (fuel:Nat) (listed:Array Bool) (a:Act) (w:World),listed.size=ops.size→Whole md ops listed→listed.getD d true=false →
  wpAny P md ops (LastQ P ops Q d) fuel (listed.setIfInBounds d true) a w→wpAny P md ops Q (fuel+1) listed a w:=by
 intro fuel
 induction fuel with
 | zero =>
  intro listed a w hs hcl hdl H
  refine⟨fun h0=>?_,fun i hi=>?_⟩
  ·have:=none_left hf hs h0 (d+1) d (by omega) hd
   rw [← getD_both (by omega),hdl] at this
   cases this
  ·by_cases c:i=d
   ·subst c
    exact wpOp_mono (fun a' w' h=>⟨H.1,h⟩) H.2
   ·have:=ready_mono hi c
    rw [H.1] at this
    cases this
 | succ fuel ih =>
  intro listed a w hs hcl hdl H
  refine⟨fun h0=>?_,fun i hi=>?_⟩
  ·have:=none_left hf hs h0 (d+1) d (by omega) hd
   rw [← getD_both (by omega),hdl] at this
   cases this
  ·by_cases c:i=d
   ·subst c
    have hE:Region.ready md ops (listed.setIfInBounds i true)=[]:=by
     refine List.eq_nil_iff_forall_not_mem.2 (fun j hj=>?_)
     obtain⟨hj0,oj,hoj,_⟩:=mem_ready.1 hj
     have hjs:j < ops.size:=(Array.getElem?_eq_some_iff.1 hoj).1
     by_cases cj:j=i
     ·subst cj
      simp [hs,hd] at hj0
     ·rw [getD_set_ne true (Ne.symm cj)] at hj0
      have h1:=List.all_eq_true.1 hw j (List.mem_range.2 hjs)
      simp only [Bool.or_eq_true,beq_iff_eq,cj,false_or] at h1
      have h2:listed.getD j false=true:=hcl.deep_ready hi 2 j h1
      rw [← getD_both (by omega),hj0] at h2
      cases h2
    exact wpOp_mono (fun a' w' h=>wpAny_done hE h _) (H.1 hE)
   ·refine wpOp_mono (fun a' w' h=>ih (listed.setIfInBounds i true) a' w' (by simpa using hs) (hcl.step hi) (by rw [getD_set_ne true c];exact hdl) ?_) (wpOp_last (H.2 i (ready_mono hi c)))
    rw [Array.setIfInBounds_comm _ _ c]
    exact h
theorem wp_region_last {id fuel:Nat} {a:Act} {w:World} (hm:P.follows .mixedOrders=true) (hc:(onward .any ops && waitsAll .any ops d && decide (d < ops.size))=true) (hfu:fuel+1=ops.size) (hS:S w.drew)
  (h:S w.drew→wpAnyH P .any ops (LastQ P ops Q d) S fuel ((Array.replicate ops.size false).setIfInBounds d true) a w.drew):(Code.region id ops true).wp P Q a w:=by
 simp only [Bool.and_eq_true,decide_eq_true_eq] at hc
 refine wp_region_any hm ?_
 rw [← hfu]
 have:=wpAny_last (P:=P) (Q:=Q) hc.1.1 hc.1.2 hc.2 fuel (Array.replicate ops.size false) a w.drew (by simp) (fun k i _ h=>by simp [Array.getElem?_replicate] at h;split at h <;> simp at h) (by simp [hc.2]) (wpAny_of_held _ _ _ _ (h hS))
 rw [← hfu] at this
 exact this
theorem last_step {o:Oper} {fuel:Nat} {listed:Array Bool} {a:Act} {w:World} (ho:ops[d]?=some o) (hr:Region.ready md ops listed=[])
  (h:∀ K':Act→World→Prop,Shut (∀ a w,Q .normal a w→K' a w)→if Region.wanted o (yielded ops a.tmps)=true then Oper.wp P o a w K' Q else K' (a.put o.dst undef) w):wpAnyH P md ops (LastQ P ops Q d) S fuel listed a w :=
 wpAnyH_done hr (wpOp_step ho (fun K' hK=>h K' hK)) fuel
end
end Wd
end Go.Proofs.YteiejjmhmmkdhaaGreat

/- Rows of numbers: what an append reads and leaves; the book's small functions. -/
namespace Go.Proofs.YteiejjmhmmkdhaaGreat
open Go.RowKit
set_option linter.unusedVariables false
namespace Wd
theorem info3:(Tryz.prog.info? 3).map (fun i=>(i.zero,i.size,i.bytes))=some (some (.int .i64 0),1,8):=by kernel_rfl
theorem ints_one (L:List Int):∀ u∈ints L,u.oneCell'=true:=by
 intro u hu
 obtain⟨x,_,rfl⟩:=List.mem_map.1 hu
 rfl
theorem one_at {w:World} {g:Nat} {i:Int} (h:w.cell? ⟨g,0,none⟩=some (.int .i64 i)):∀ j u,(ints [i])[j]?=some u→w.cell? ((⟨g,0,none⟩:Addr).add j)=some u:=by
 intro j u hu
 match j,hu with
 | 0,hu =>
  simp [ints] at hu;subst hu
  rw [Addr.add_lit];exact h
theorem cell_up {w w':World} (g:Below w.heap.size w w') {p:Addr} {v:Value} (h:w.cell? p=some v):w'.cell? p=some v:=(g.cell (World.block_lt_of_cell? w p h)).trans h
theorem slice_form {w:World} {e:TypeId} {base size n:Nat} {v:Value} {xs:List Value} (h:w.ownsRow base e size v n xs):∃ a m c,v=.slice a m c:=by
 rcases h.2 with ⟨rfl,_⟩ | ⟨g,cap,cur,rfl,_⟩ <;> exact⟨_,_,_,rfl⟩
theorem own_base {w:World} {base:Nat} {e:TypeId} {size n:Nat} {v:Value} {xs:List Value} (h:w.ownsRow base e size v n xs):w.ownsRow 0 e size v n xs:=by
 refine⟨h.1,?_⟩
 rcases h.2 with h | ⟨g,cap,cur,h1,_,h3⟩
 ·exact Or.inl h
 ·exact Or.inr ⟨g,cap,cur,h1,Nat.zero_le _,h3⟩
theorem SL.keep {w w':World} {e:TypeId} {v:Value} {L:List Int} (h:SL w e v L) (b:Below w.heap.size w w'):SL w' e v L :=
 World.ownsRow.kept h ⟨b.os,b.tape,b.output,b.size,fun k hk _=>b.block k hk⟩ (row:=none) (by cases v.ownBlock <;> simp)
theorem grown_refl (w:World) (b:Option Nat):w.grownBy w b:=⟨rfl,rfl,rfl,Nat.le_refl _,fun _ _ _=>rfl⟩
theorem tmod_split (n D:Int) (hD:1≤D):∃ r,n.tmod D=r∧-D < r∧r < D∧((0≤r∧n % D=r)∨(r < 0∧n % D=r+D)):=by
 have h1:=Int.tmod_lt_of_pos n (show 0 < D by omega)
 have h2:-D < n.tmod D:=by have:=Int.tmod_lt_of_pos (-n) (show 0 < D by omega);rw [Int.neg_tmod] at this;omega
 refine⟨_,rfl,h2,h1,?_⟩
 have key:=Int.tmod_add_mul_tdiv n D
 generalize n.tmod D=r at *
 generalize n.tdiv D=q at *
 by_cases h:0≤r
 ·left
  refine⟨h,?_⟩
  rw [← key,Int.add_mul_emod_self_left]
  exact Int.emod_eq_of_lt h h1
 ·right
  refine⟨by omega,?_⟩
  have e:n=(r+D)+D*(q - 1):=by rw [Int.mul_sub,Int.mul_one];omega
  rw [e,Int.add_mul_emod_self_left]
  exact Int.emod_eq_of_lt (by omega) (by omega)
def within (n lo hi:Int):Int:=if lo≤n∧n≤hi then n else lo+n % (hi - lo+1)
set_option maxHeartbeats 16000000 in
theorem within_c (n lo hi:Int) (h1:-9223372036854775808≤n) (h2:n≤9223372036854775807) (h3:-1000000≤lo) (h4:lo≤hi) (h5:hi≤1000000) (w:World) :
  Calls Tryz.prog 11 #[.int .i64 n,.int .i64 lo,.int .i64 hi] w fun e w'=>e=.returned (.int .i64 (within n lo hi))∧w'=w:=by
 by_cases c1:lo≤n
 ·by_cases c2:n≤hi
  ·have e:within n lo hi=n:=if_pos ⟨c1,c2⟩
   rw [e]
   go_enter Tryz.func11,Tryz.ntmps11
   go_wp2
   go_ret
   exact⟨rfl,rfl⟩
  ·have e:within n lo hi=lo+n % (hi - lo+1):=if_neg (fun h=>c2 h.2)
   obtain⟨r,hr,r1,r2,⟨r3,r4⟩ | ⟨r3,r4⟩⟩:=tmod_split n (hi - lo+1) (by omega)
   all_goals
    rw [r4] at e
    rw [e];clear e r4
    go_enter Tryz.func11,Tryz.ntmps11
    go_wp2
    go_ret
    exact⟨by first | rfl | (refine congrArg Ending.returned (congrArg (Value.int .i64) ?_);omega),rfl⟩
 ·have e:within n lo hi=lo+n % (hi - lo+1):=if_neg (fun h=>c1 h.1)
  obtain⟨r,hr,r1,r2,⟨r3,r4⟩ | ⟨r3,r4⟩⟩:=tmod_split n (hi - lo+1) (by omega)
  all_goals
   rw [r4] at e
   rw [e];clear e r4
   go_enter Tryz.func11,Tryz.ntmps11
   go_wp2
   go_ret
   exact⟨by first | rfl | (refine congrArg Ending.returned (congrArg (Value.int .i64) ?_);omega),rfl⟩
theorem within_bd (n lo hi:Int) (h:lo≤hi):lo≤within n lo hi∧within n lo hi≤hi:=by
 unfold within
 split
 ·rename_i h';exact h'
 ·have h1:=Int.emod_nonneg n (show hi - lo+1≠0 by omega)
  have h2:=Int.emod_lt_of_pos n (show 0 < hi - lo+1 by omega)
  omega
theorem SL.form {w:World} {e:TypeId} {v:Value} {L:List Int} (h:SL w e v L):∃ a c,v=.slice a L.length c:=by
 rcases h.2 with ⟨rfl,h0⟩ | ⟨g,cap,cur,rfl,_⟩
 ·exact⟨_,_,by rw [h0]⟩
 ·exact⟨_,_,rfl⟩
theorem take_same {A B:List Int} {k:Nat} {x:Int} (h:A.take k=B.take k) (ha:A[k]?=some x) (hb:B[k]?=some x):A.take (k+1)=B.take (k+1):=by
 rw [List.take_add_one,List.take_add_one,h,ha,hb]
theorem take_all {A B:List Int} {n:Nat} (h:A.take n=B.take n) (ha:n=A.length) (hb:n=B.length):A=B:=by
 rw [ha,List.take_length] at h
 rw [← ha,hb,List.take_length] at h
 exact h
set_option maxHeartbeats 16000000 in
theorem same_ints (A B:List Int) (u v:Value) (w:World) (ha:SL w 3 u A) (hb:SL w 3 v B) (la:A.length≤8192) (lb:B.length≤8192) :
  Calls Tryz.prog 22 #[u,v] w fun e w'=>e=.returned (.bool (decide (A=B)))∧∃ q,w'=w.drewN q:=by
 by_cases hl:A.length=B.length
 ·by_cases hz:A.length=0
  ·have e:decide (A=B)=true:=by
    have h1:=List.length_eq_zero_iff.1 hz
    have h2:=List.length_eq_zero_iff.1 (hl ▸ hz)
    simp [h1,h2]
   obtain⟨a,c,rfl⟩:=ha.form
   obtain⟨a',c',rfl⟩:=hb.form
   rw [e,← hl,hz]
   clear e ha hb hl hz la lb
   go_enter Tryz.func22,Tryz.ntmps22
   go_wp2
   refine wp_loop_rounds 1 ?_
   rw [rounds_succ]
   go_wp2
   go_ret
   exact⟨rfl,0,rfl⟩
  ·rcases ha.cases with ⟨_,rfl⟩ | ⟨g,cap,rfl,hle,hm,hg,hown⟩
   ·exact absurd rfl hz
   rcases hb.cases with ⟨_,rfl⟩ | ⟨g',cap',rfl,hle',hm',hg',hown'⟩
   ·exact absurd hl hz
   obtain⟨n,hn⟩:∃ n,n=A.length:=⟨_,rfl⟩
   have hn':n=B.length:=hn.trans hl
   rw [← hn] at hle la
   rw [← hn'] at hle' lb
   rw [← hn,← hn']
   have HA:=Lib.hid hown
   have HB:=Lib.hid hown'
   have HN:=Lib.hid hn
   have HN':=Lib.hid hn'
   clear ha hb hown hown' hl hz hn hn'
   go_enter Tryz.func22,Tryz.ntmps22
   go_wp2
   go_loopw [5] (fun i wr=>∃ k:Nat,k≤n∧i=.int .i64 k∧Hid (A.take k=B.take k)∧∃ q,wr=w.drewN q) (fun i _=>n - (intOf i).toNat)
   case atStart=>exact⟨0,by omega,rfl,Lib.hid (by simp),0,rfl⟩
   case round =>
    obtain⟨k,hk,rfl,ht,q,rfl⟩:=hrel
    by_cases hlt:k < n
    ·have hlt':decide ((k:Int) < (n:Int))=true:=by simp;omega
     obtain⟨x,hx⟩:∃ x,A[k]?=some x:=⟨A[k]'(by have:=HN.out;omega),by simp⟩
     obtain⟨y,hy⟩:∃ y,B[k]?=some y:=⟨B[k]'(by have:=HN'.out;omega),by simp⟩
     have cx:=row_cell HA.out hx
     have cy:=row_cell HB.out hy
     have p0:(0:Int)≤(k:Int):=by omega
     have p1:(k:Int) < (n:Int):=by omega
     by_cases he:x=y
     ·subst he
      have H1:=Lib.hid (take_same ht.out hx hy)
      clear hx hy
      go_wp2
      go_quiet (fail)
      go_wp2
      go_roundw
      case rel=>exact⟨k+1,by omega,by go_num,H1,_,rfl⟩
      case measure=>simp [intOf];omega
     ·have e:decide (A=B)=false:=by
       simp only [decide_eq_false_iff_not]
       intro h
       rw [h,hy] at hx
       exact he (Option.some.inj hx).symm
      have he':(x != y)=true:=by simpa using he
      clear hx hy
      go_wp2
      go_quiet (fail)
      go_wp2
      go_ret
      exact⟨by rw [e];rfl,_,World.drewN_drewN ..⟩
    ·have e:decide (A=B)=true:=by
      have hkn:k=n:=by omega
      have h2:=ht.out
      rw [hkn] at h2
      simpa using take_all h2 HN.out HN'.out
     go_wp2
     go_ret
     exact⟨by rw [e];rfl,q,rfl⟩
 ·have e:decide (A=B)=false:=by
   simp only [decide_eq_false_iff_not]
   intro h;exact hl (by rw [h])
  obtain⟨a,c,rfl⟩:=ha.form
  obtain⟨a',c',rfl⟩:=hb.form
  have hl':((A.length:Int) != (B.length:Int))=true:=by simp only [bne_iff_ne,ne_eq];omega
  rw [e]
  clear e ha hb
  go_enter Tryz.func22,Tryz.ntmps22
  go_wp2
  go_ret
  exact⟨rfl,0,rfl⟩
def rng (m:Nat):List Int:=(List.range m).map (fun (k:Nat)=>(k:Int))
theorem rng_len (m:Nat):(rng m).length=m:=by simp [rng]
theorem rng_nd (m:Nat):(rng m).Nodup:=by
 unfold rng
 rw [List.Nodup,List.pairwise_map]
 exact (List.nodup_range (n:=m)).imp (fun h e=>h (by omega))
def Reads (w:World) (u:Value) (M:List Int):Prop:=(u=.slice none 0 0∧M=[])∨∃ ad c,u=.slice (some ad) M.length c∧∀ j x,(ints M)[j]?=some x→w.cell? (ad.add j)=some x
theorem SL.reads {w:World} {e:TypeId} {v:Value} {M:List Int} (h:SL w e v M):Reads w v M:=by
 rcases h.cases with ⟨rfl,rfl⟩ | ⟨g,cap,rfl,_,_,_,hown⟩
 ·exact Or.inl ⟨rfl,rfl⟩
 ·refine Or.inr ⟨_,_,rfl,fun j x hx=>?_⟩
  simp only [ints,List.getElem?_map,Option.map_eq_some_iff] at hx
  obtain⟨y,hy,rfl⟩:=hx
  rw [Addr.add_lit,Nat.zero_add]
  exact row_cell hown hy
theorem Reads.one {w:World} {g:Nat} {i:Int} (h:w.cell? ⟨g,0,none⟩=some (.int .i64 i)):Reads w (.slice (some ⟨g,0,none⟩) 1 1) [i]:=Or.inr ⟨_,_,rfl,one_at h⟩
end Wd
end Go.Proofs.YteiejjmhmmkdhaaGreat

/- The tape: what it is, what a number read off it is. -/
namespace Go.Proofs.YteiejjmhmmkdhaaGreat
open Go.RowKit
set_option linter.unusedVariables false
set_option maxRecDepth 20000
namespace Wd
structure Cg (F:Nat→Prop) (w w':World):Prop where
 os:w'.os=w.os
 tape:w'.tape=w.tape
 output:w'.output=w.output
 size:w.heap.size≤w'.heap.size
 block:∀ k,k < w.heap.size→¬ F k→w'.heap[k]?=w.heap[k]?
section
variable {F G:Nat→Prop} {w w1 w2:World}
theorem Cg.refl (F:Nat→Prop) (w:World):Cg F w w:=⟨rfl,rfl,rfl,Nat.le_refl _,fun _ _ _=>rfl⟩
theorem Cg.trans (h:Cg F w w1) (g:Cg F w1 w2):Cg F w w2 :=
 ⟨g.os.trans h.os,g.tape.trans h.tape,g.output.trans h.output,Nat.le_trans h.size g.size,fun k hk hF=>(g.block k (Nat.lt_of_lt_of_le hk h.size) hF).trans (h.block k hk hF)⟩
theorem Cg.mono (h:Cg F w w1) (hFG:∀ k,F k→G k):Cg G w w1:=⟨h.os,h.tape,h.output,h.size,fun k hk hn=>h.block k hk (fun hF=>hn (hFG k hF))⟩
theorem Cg.trans' (h:Cg F w w1) (g:Cg G w1 w2) (hG:∀ k,G k→F k∨w.heap.size≤k):Cg F w w2 :=
 ⟨g.os.trans h.os,g.tape.trans h.tape,g.output.trans h.output,Nat.le_trans h.size g.size,fun k hk hF=>(g.block k (Nat.lt_of_lt_of_le hk h.size) (fun hg=>by
  rcases hG k hg with h1 | h1
  ·exact hF h1
  ·omega)).trans (h.block k hk hF)⟩
theorem Cg.set (h:Cg F w w1) (a:Addr) (ha:F a.block) (v:Value):Cg F w (w1.setCell a v) :=
 ⟨h.os,h.tape,h.output,by simpa [World.setCell] using h.size,fun k hk hF=>(Below.heap_setCell _ _ _ _ (fun e=>hF (by rw [e];exact ha))).trans (h.block k hk hF)⟩
theorem Cg.drew (h:Cg F w w1):Cg F w w1.drew:=⟨h.os,h.tape,h.output,h.size,h.block⟩
theorem Cg.alloc (h:Cg F w w1) (o:Obj):Cg F w (w1.alloc o) :=
 ⟨h.os,h.tape,h.output,by have:=h.size;simp;omega,fun k hk hF=>(Below.heap_alloc _ _ _ (Nat.lt_of_lt_of_le hk h.size)).trans (h.block k hk hF)⟩
theorem Cg.below (F:Nat→Prop) (b:Below w.heap.size w w1):Cg F w w1:=⟨b.os,b.tape,b.output,b.size,fun k hk _=>b.block k hk⟩
theorem Cg.grown (h:Cg F w w1) {r:Option Nat} (g:w1.grownBy w2 r) (hr:∀ k,r=some k→F k∨w.heap.size≤k):Cg F w w2 :=
 ⟨g.os.trans h.os,g.tape.trans h.tape,g.output.trans h.output,Nat.le_trans h.size g.size,fun k hk hF=>(g.block k (Nat.lt_of_lt_of_le hk h.size) (fun e=>by
  rcases hr k e.symm with h1 | h1
  ·exact hF h1
  ·omega)).trans (h.block k hk hF)⟩
end
theorem drewK (w:World) (q:Nat):Below w.heap.size w (w.drewN q):=⟨rfl,rfl,rfl,Nat.le_refl _,fun _ _=>rfl⟩
structure Tp (w:World) (p:Nat) (ad:Option Addr) (n:Nat):Prop where
 l:∃ cap,w.cell? ⟨p,0,none⟩=some (.slice ad n cap)
 a:∃ k:Nat,k≤n∧w.cell? ⟨p,1,none⟩=some (.int .i64 k)
 z:w.frozen? ⟨p,1,none⟩=false
 r:∀ k,k < n→∃ (g off:Nat) (x:Int),ad=some ⟨g,off,none⟩∧g≠p∧(-9223372036854775808≤x∧x≤9223372036854775807)∧w.cell? ⟨g,off+k,none⟩=some (.int .i64 x)
 big:n≤4611686018427387904
section
variable {w w1:World} {p n:Nat} {ad:Option Addr}
theorem Tp.lt (h:Tp w p ad n):p < w.heap.size:=World.block_lt_of_cell? w _ h.l.choose_spec
def TF (p n:Nat) (ad:Option Addr):Nat→Prop:=fun k=>k=p∨(0 < n∧∃ a,ad=some a∧k=a.block)
theorem Tp.same (h:Tp w p ad n) (hb:∀ k,k < w.heap.size→TF p n ad k→w1.heap[k]?=w.heap[k]?):Tp w1 p ad n:=by
 have hp:=hb p h.lt (Or.inl rfl)
 obtain⟨cap,hl⟩:=h.l
 obtain⟨k,hk,ha⟩:=h.a
 refine⟨⟨cap,(World.cell?_of_block (a:=⟨p,0,none⟩) hp).trans hl⟩,⟨k,hk,(World.cell?_of_block (a:=⟨p,1,none⟩) hp).trans ha⟩,(World.frozen?_of_block (a:=⟨p,1,none⟩) hp).trans h.z,fun j hj=>?_,h.big⟩
 obtain⟨g,off,x,e,ne,bd,hc⟩:=h.r j hj
 exact⟨g,off,x,e,ne,bd,(World.cell?_of_block (a:=⟨g,off+j,none⟩) (hb g (World.block_lt_of_cell? w _ hc) (Or.inr ⟨by omega,_,e,rfl⟩))).trans hc⟩
theorem Tp.cg (h:Tp w p ad n) {F:Nat→Prop} (c:Cg F w w1) (hF:∀ k,F k→¬ TF p n ad k):Tp w1 p ad n:=h.same (fun k hk ht=>c.block k hk (fun hf=>hF k hf ht))
theorem Tp.tf (h:Tp w p ad n) {k:Nat} (hk:TF p n ad k):k < w.heap.size:=by
 rcases hk with rfl | ⟨hn,a,rfl,rfl⟩
 ·exact h.lt
 ·obtain⟨g,off,x,e,_,_,hc⟩:=h.r 0 hn
  cases e
  exact World.block_lt_of_cell? w _ hc
theorem Tp.keep (h:Tp w p ad n) (b:Below w.heap.size w w1):Tp w1 p ad n:=h.same (fun k hk _=>b.block k hk)
theorem Tp.move (h:Tp w p ad n) {k:Nat} (hk:k≤n):Tp (w.setCell ⟨p,1,none⟩ (.int .i64 (k:Int))) p ad n:=by
 obtain⟨cap,hl⟩:=h.l
 obtain⟨k0,_,ha⟩:=h.a
 refine⟨⟨cap,(World.cell?_setCell_other _ _ _ _ (by intro e;cases e)).trans hl⟩,⟨k,hk,World.cell?_setCell_same _ _ _ ha⟩,(World.frozen?_setCell _ _ _ _).trans h.z,fun j hj=>?_,h.big⟩
 obtain⟨g,off,x,e,ne,bd,hc⟩:=h.r j hj
 exact⟨g,off,x,e,ne,bd,(World.cell?_setCell_far _ _ _ _ (Ne.symm ne)).trans hc⟩
end
set_option maxHeartbeats 16000000 in
theorem within40_c (n lo hi:Int) (h1:-9223372036854775808≤n) (h2:n≤9223372036854775807) (h3:-1099511627776≤lo) (h4:lo≤hi) (h5:hi≤1099511627776) (w:World) :
  Calls Tryz.prog 11 #[.int .i64 n,.int .i64 lo,.int .i64 hi] w fun e w'=>e=.returned (.int .i64 (within n lo hi))∧w'=w:=by
 by_cases c1:lo≤n
 ·by_cases c2:n≤hi
  ·have e:within n lo hi=n:=if_pos ⟨c1,c2⟩
   rw [e]
   go_enter Tryz.func11,Tryz.ntmps11
   go_wp2
   go_ret
   exact⟨rfl,rfl⟩
  ·have e:within n lo hi=lo+n % (hi - lo+1):=if_neg (fun h=>c2 h.2)
   obtain⟨r,hr,r1,r2,⟨r3,r4⟩ | ⟨r3,r4⟩⟩:=tmod_split n (hi - lo+1) (by omega)
   all_goals
    rw [r4] at e
    rw [e];clear e r4
    go_enter Tryz.func11,Tryz.ntmps11
    go_wp2
    go_ret
    exact⟨by first | rfl | (refine congrArg Ending.returned (congrArg (Value.int .i64) ?_);omega),rfl⟩
 ·have e:within n lo hi=lo+n % (hi - lo+1):=if_neg (fun h=>c1 h.1)
  obtain⟨r,hr,r1,r2,⟨r3,r4⟩ | ⟨r3,r4⟩⟩:=tmod_split n (hi - lo+1) (by omega)
  all_goals
   rw [r4] at e
   rw [e];clear e r4
   go_enter Tryz.func11,Tryz.ntmps11
   go_wp2
   go_ret
   exact⟨by first | rfl | (refine congrArg Ending.returned (congrArg (Value.int .i64) ?_);omega),rfl⟩
set_option maxHeartbeats 16000000 in
theorem next_c {w:World} {p n:Nat} {ad:Option Addr} (m:Int) (m1:1≤m) (m2:m≤1000000) (h:Tp w p ad n) :
  Calls Tryz.prog 30 #[.pointer (some ⟨p,0,none⟩),.int .i64 m] w fun e w'=>∃ x:Int,e=.returned (.int .i64 x)∧(0≤x∧x < m)∧Tp w' p ad n∧Cg (fun k=>k=p) w w':=by
 obtain⟨cap,hl⟩:=h.l
 obtain⟨k,hk,ha⟩:=h.a
 have hz:=h.z
 have dm:decide (m < 1)=false:=by simp;omega
 have hbig:=h.big
 by_cases hkn:k < n
 ·have d0:decide (n≤k)=false:=by simp;omega
  obtain⟨g,off,x,rfl,ne,bd,hc⟩:=h.r k hkn
  have hw:IntKind.i64.wrap ((k:Int)+1)=(k:Int)+1:=by rw [IntKind.wrap_i64];omega
  have hw2:IntKind.i64.wrap (k:Int)=(k:Int):=by rw [IntKind.wrap_i64];omega
  have hk1:(k:Int) < (n:Int):=by omega
  have hx:=within_bd x 0 1073741824 (by omega)
  have PW:=Lib.hid (within40_c x 0 1073741824 bd.1 bd.2 (by omega) (by omega) (by omega))
  generalize within x 0 1073741824=y at *
  have hy0:0≤y.tmod m:=Int.tmod_nonneg _ hx.1
  have hy1:y.tmod m < m:=Int.tmod_lt_of_pos _ (by omega)
  have hm0:¬ m=0:=by omega
  replace h:=Lib.hid h
  go_enter Tryz.func30,Tryz.ntmps30
  go_wp2
  go_big_quiet (fail)
  have hC0:=Cg.below (fun j=>j=p) (drewK w nq)
  have hT0:=h.out.keep (drewK w nq)
  have hl0:(w.drewN nq).cell? ⟨p,0,none⟩=some (.slice (some ⟨g,off,none⟩) n cap):=hl
  have ha0:(w.drewN nq).cell? ⟨p,1,none⟩=some (.int .i64 (k:Int)):=ha
  have hz0:(w.drewN nq).frozen? ⟨p,1,none⟩=false:=hz
  have hc0:(w.drewN nq).cell? ⟨g,off+k,none⟩=some (.int .i64 x):=hc
  clear hl ha hz hc h
  generalize w.drewN nq=wq at *
  go_wp2
  have hT:=hT0.move (k:=k+1) (by omega)
  have hC:=hC0.set ⟨p,1,none⟩ rfl (.int .i64 ((k+1:Nat):Int))
  have ek:((k+1:Nat):Int)=(k:Int)+1:=by omega
  rw [ek] at hT hC
  have c0:(wq.setCell ⟨p,1,none⟩ (.int .i64 ((k:Int)+1))).cell? ⟨p,0,none⟩=some (.slice (some ⟨g,off,none⟩) n cap):=(World.cell?_setCell_other _ _ _ _ (by intro e;cases e)).trans hl0
  have c1:(wq.setCell ⟨p,1,none⟩ (.int .i64 ((k:Int)+1))).cell? ⟨p,1,none⟩=some (.int .i64 ((k:Int)+1)):=World.cell?_setCell_same _ _ _ ha0
  have c2:(wq.setCell ⟨p,1,none⟩ (.int .i64 ((k:Int)+1))).cell? ⟨g,off+k,none⟩=some (.int .i64 x):=(World.cell?_setCell_far _ _ _ _ (Ne.symm ne)).trans hc0
  clear hl0 ha0 hz0 hc0 hT0 hC0
  generalize wq.setCell ⟨p,1,none⟩ (.int .i64 ((k:Int)+1))=w2 at *
  refine wp_region_still_lit (by kernel_rfl) (by kernel_rfl) ?_
  iterate 11 still_step
  still_call (PW.out _)
  iterate 3 still_step
  refine wpStill_nil ?_
  go_wp2
  go_ret
  exact⟨_,rfl,⟨hy0,hy1⟩,hT.keep (Below.refl _ _).drew,hC.drew⟩
 ·have d0:decide (n≤k)=true:=by simp;omega
  replace h:=Lib.hid h
  go_enter Tryz.func30,Tryz.ntmps30
  go_wp2
  go_big_quiet (fail)
  have hC0:=Lib.hid (Cg.below (fun j=>j=p) (drewK w nq))
  have hT0:=Lib.hid (h.out.keep (drewK w nq))
  generalize w.drewN nq=wq at *
  go_wp2
  go_ret
  exact⟨0,rfl,⟨by omega,by omega⟩,hT0.out,hC0.out⟩
end Wd
end Go.Proofs.YteiejjmhmmkdhaaGreat

/- Instructions that are written: what a row of bytes is while a tape is read, and 'op'. -/
namespace Go.Proofs.YteiejjmhmmkdhaaGreat
open Go.RowKit
set_option linter.unusedVariables false
set_option maxRecDepth 20000
namespace Wd
def bys (L:List Int):List Value:=L.map (.int .u8)
theorem infoB8:(Tryz.prog.info? 5).map (fun i=>(i.zero,i.size,i.bytes))=some (some (.int .u8 0),1,1):=by kernel_rfl
theorem bys_one (L:List Int):∀ u∈bys L,u.oneCell'=true:=by
 intro u hu
 obtain⟨x,_,rfl⟩:=List.mem_map.1 hu
 rfl
theorem bys_two {w:World} {g:Nat} {x y:Int} (h0:w.cell? ⟨g,0,none⟩=some (.int .u8 x)) (h1:w.cell? ⟨g,1,none⟩=some (.int .u8 y)):∀ j u,(bys [x,y])[j]?=some u→w.cell? ((⟨g,0,none⟩:Addr).add j)=some u:=by
 intro j u hu
 match j,hu with
 | 0,hu =>
  simp [bys] at hu;subst hu
  rw [Addr.add_lit];exact h0
 | 1,hu =>
  simp [bys] at hu;subst hu
  rw [Addr.add_lit];exact h1
structure Ks (w0 w:World) (p n:Nat) (ad:Option Addr):Prop where
 tp:Tp w p ad n
 cg:Cg (fun k=>k=p) w0 w
 t0:∀ k,TF p n ad k→k < w0.heap.size
theorem row_cg {w w1:World} {base:Nat} {e:TypeId} {size n:Nat} {v:Value} {xs:List Value} {F:Nat→Prop} (h:w.ownsRow base e size v n xs) (c:Cg F w w1) (hF:∀ k,v.ownBlock=some k→¬ F k):w1.ownsRow base e size v n xs:=by
 obtain⟨h1,h2⟩:=h
 refine⟨h1,?_⟩
 rcases h2 with hh | ⟨g,cap,cur,e1,e2,e3,e4⟩
 ·exact Or.inl hh
 ·exact Or.inr ⟨g,cap,cur,e1,e2,(c.block g (Array.getElem?_eq_some_iff.1 e3).1 (hF g (by rw [e1];rfl))).trans e3,e4⟩
section
variable {w0 w w1 w2:World} {p n:Nat} {ad:Option Addr} {v v' v0:Value} {C:List Int}
theorem Ks.start (h:Tp w p ad n):Ks w w p n ad:=⟨h,Cg.refl _ _,fun k hk=>h.tf hk⟩
theorem Ks.step (h:Ks w0 w p n ad) (t:Tp w1 p ad n) (c:Cg (fun k=>k=p) w w1):Ks w0 w1 p n ad:=⟨t,h.cg.trans c,h.t0⟩
theorem Ks.other (h:Ks w0 w p n ad) {F:Nat→Prop} (c:Cg F w w1) (hF:∀ k,F k→w0.heap.size≤k):Ks w0 w1 p n ad :=
 ⟨h.tp.cg c (fun k hk ht=>by have:=hF k hk;have:=h.t0 k ht;omega),h.cg.trans' c (fun k hk=>Or.inr (hF k hk)),h.t0⟩
theorem Ks.keep (h:Ks w0 w p n ad) (b:Below w.heap.size w w1):Ks w0 w1 p n ad:=h.other (F:=fun _=>False) (Cg.below _ b) (fun k hk=>hk.elim)
theorem Ks.p0 (h:Ks w0 w p n ad):p < w0.heap.size:=h.t0 p (Or.inl rfl)
structure Pc (w0 w wr:World) (p n:Nat) (ad:Option Addr) (v0 v:Value) (C:List Int):Prop where
 ks:Ks w0 wr p n ad
 cd:wr.ownsRow w0.heap.size 5 1 v C.length (bys C)
 cg:Cg (fun k=>k=p∨v0.ownBlock=some k) w wr
 ob:∀ k,v.ownBlock=some k→v0.ownBlock=some k∨w.heap.size≤k
 b0:∀ k,v0.ownBlock=some k→w0.heap.size≤k
 s0:w0.heap.size≤w.heap.size
theorem Pc.start (ks:Ks w0 w p n ad) (cd:w.ownsRow w0.heap.size 5 1 v C.length (bys C)):Pc w0 w w p n ad v v C :=
 ⟨ks,cd,Cg.refl _ _,fun k hk=>Or.inl hk,fun k hk=>(cd.lt k hk).1,ks.cg.size⟩
theorem Pc.keep (h:Pc w0 w w1 p n ad v0 v C) (b:Below w1.heap.size w1 w2):Pc w0 w w2 p n ad v0 v C :=
 ⟨h.ks.keep b,row_cg (F:=fun _=>False) h.cd (Cg.below _ b) (fun _ _ hf=>hf),h.cg.trans (Cg.below _ b),h.ob,h.b0,h.s0⟩
theorem Pc.next (h:Pc w0 w w1 p n ad v0 v C) (t:Tp w2 p ad n) (c:Cg (fun k=>k=p) w1 w2):Pc w0 w w2 p n ad v0 v C :=
 ⟨h.ks.step t c,row_cg h.cd c (fun k hk e=>by have:=(h.cd.lt k hk).1;have:=h.ks.p0;omega),h.cg.trans (c.mono (fun k hk=>Or.inl hk)),h.ob,h.b0,h.s0⟩
theorem Pc.grow (h:Pc w0 w w1 p n ad v0 v C) {wA:World} {t:TypeId} {c:Array Value} (hA:wA=w1.alloc (.cells c t)) {C':List Int} (hown:w2.ownsRow w0.heap.size 5 1 v' C'.length (bys C')) (hg:wA.grownBy w2 v.ownBlock) (hob:∀ k,v'.ownBlock=some k→v.ownBlock=some k∨k=wA.heap.size):Pc w0 w w2 p n ad v0 v' C':=by
 subst hA
 have hs:w1.heap.size≤(w1.alloc (.cells c t)).heap.size:=by simp
 have hc:Cg (fun k=>v.ownBlock=some k) w1 w2:=((Cg.refl _ w1).alloc _).grown hg (fun k e=>Or.inl e)
 refine⟨h.ks.other hc (fun k hk=>(h.cd.lt k hk).1),hown,h.cg.trans' hc (fun k hk=>?_),fun k hk=>?_,h.b0,h.s0⟩
 ·rcases h.ob k hk with e | e
  ·exact Or.inl (Or.inr e)
  ·exact Or.inr e
 ·rcases hob k hk with e | e
  ·exact h.ob k e
  ·have:=h.cg.size
   exact Or.inr (by omega)
end
def wr8 (x:Int):Int:=IntKind.u8.wrap x
set_option maxHeartbeats 16000000 in
theorem op_c2 {w0 w wr:World} {p n:Nat} {ad:Option Addr} {v0 v:Value} {C:List Int} (h:Pc w0 w wr p n ad v0 v C) (hl:C.length≤100000) (o a:Int) :
  Calls Tryz.prog 60 #[v,.int .i64 o,.int .i64 a] wr fun e w'=>∃ v',e=.returned v'∧Pc w0 w w' p n ad v0 v' (C++[wr8 o,wr8 a])∧Cg (fun k=>v.ownBlock=some k) wr w'∧(∀ k,v'.ownBlock=some k→v.ownBlock=some k∨wr.heap.size≤k):=by
 obtain⟨i0,hi0,hz0,hz1,hz2⟩:=info_parts infoB8
 have hmx:200000≤maxLen:=by decide
 have hsz:w0.heap.size≤wr.heap.size:=h.ks.cg.size
 replace h:=Lib.hid h
 unfold wr8
 generalize ho:IntKind.u8.wrap o=o' at *
 generalize ha:IntKind.u8.wrap a=a' at *
 have hcd:=Lib.hid h.out.cd
 go_enter Tryz.func60,Tryz.ntmps60
 go_wp2_with (first | (at_builtin;refine wpList_append_lies _ rfl (.tmp 7) (.tmp 12) 73 rfl w0.heap.size 5 i0 (.int .u8 0) 1 1 Tryz.underlying73 hi0 hz0 hz1 hz2 rfl (by decide) v C.length _ (by simp [Act.eval]) (hcd.out.alloc _) ⟨wr.heap.size,0,none⟩ 2 2 (bys [o',a']) (by simp [Act.eval]) (by simp [bys]) (bys_two ((World.cell?_alloc_new _ _ _ 0).trans rfl) ((World.cell?_alloc_new _ _ _ 1).trans rfl)) (bys_one _) (by omega) (by omega) (by omega) (by simp;omega) _ rfl ?_;intro g cap w1 hown1 hgrow1 hat1 hlt1))
 go_ret
 have hlen:(C++[o',a']).length=C.length+2:=by simp
 have he:bys C++bys [o',a']=bys (C++[o',a']):=by simp [bys]
 rw [he] at hown1
 refine⟨_,rfl,h.out.grow rfl (by rw [hlen];exact hown1) hgrow1 (fun k hk=>?_),((Cg.refl _ wr).alloc _).grown hgrow1 (fun k e=>Or.inl e),fun k hk=>?_⟩
 ·cases hk
  exact hat1
 ·cases hk
  rcases hat1 with e | e
  ·exact Or.inl e
  ·exact Or.inr (by rw [e];simp)
theorem op_c {w0 w wr:World} {p n:Nat} {ad:Option Addr} {v0 v:Value} {C:List Int} (h:Pc w0 w wr p n ad v0 v C) (hl:C.length≤100000) (o a:Int) :
  Calls Tryz.prog 60 #[v,.int .i64 o,.int .i64 a] wr fun e w'=>∃ v',e=.returned v'∧Pc w0 w w' p n ad v0 v' (C++[wr8 o,wr8 a]):=by
 refine (op_c2 h hl o a).mono ?_
 rintro e w' ⟨v',he,h',_⟩
 exact⟨v',he,h'⟩
end Wd
end Go.Proofs.YteiejjmhmmkdhaaGreat

/- Programs as they lie in memory: what is read, and no more. -/
namespace Go.Proofs.YteiejjmhmmkdhaaGreat
open Go.RowKit
set_option linter.unusedVariables false
set_option maxRecDepth 20000
namespace Wd
def In64 (x:Int):Prop:=-9223372036854775808≤x∧x≤9223372036854775807
theorem in64 (x:Int) (h:-9223372036854775808≤x∧x≤9223372036854775807):In64 x:=h
structure ClassA where
 nm:ByteArray
 super:Int
 fields:Int
 binds:List (Int × Int)
structure PrV (w:World) (v:Value) (L:List (Int × Int)):Prop where
 mk ::
 ex:∃ ad cap,v=.slice ad L.length cap∧L.length≤cap∧cap≤maxLen∧∀ (k:Nat) x,L[k]?=some x→In64 x.1∧In64 x.2∧∃ g off,ad=some ⟨g,off,none⟩∧w.cell? ⟨g,off+k*2,none⟩=some (.int .i64 x.1)∧w.cell? ⟨g,off+k*2+1,none⟩=some (.int .i64 x.2)
structure ClV (w:World) (v:Value) (L:List ClassA):Prop where
 mk ::
 ex:∃ ad cap,v=.slice ad L.length cap∧L.length≤cap∧cap≤maxLen∧∀ (k:Nat) c,L[k]?=some c→In64 c.super∧In64 c.fields∧∃ g off bv,ad=some ⟨g,off,none⟩∧w.cell? ⟨g,off+k*4,none⟩=some (.string c.nm)∧w.cell? ⟨g,off+k*4+1,none⟩=some (.int .i64 c.super)∧w.cell? ⟨g,off+k*4+2,none⟩=some (.int .i64 c.fields)∧w.cell? ⟨g,off+k*4+3,none⟩=some bv∧PrV w bv c.binds
section
variable {w w1:World} {v:Value}
theorem PrV.up {L:List (Int × Int)} (h:PrV w v L) (b:Below w.heap.size w w1):PrV w1 v L:=by
 obtain⟨ad,cap,rfl,h1,h2,h3⟩:=h.ex
 refine⟨ad,cap,rfl,h1,h2,fun k x hx=>?_⟩
 obtain⟨i1,i2,g,off,e,c0,c1⟩:=h3 k x hx
 exact⟨i1,i2,g,off,e,cell_up b c0,cell_up b c1⟩
theorem ClV.up {L:List ClassA} (h:ClV w v L) (b:Below w.heap.size w w1):ClV w1 v L:=by
 obtain⟨ad,cap,rfl,h1,h2,h3⟩:=h.ex
 refine⟨ad,cap,rfl,h1,h2,fun k x hx=>?_⟩
 obtain⟨i1,i2,g,off,bv,e,c0,c1,c2,c3,p⟩:=h3 k x hx
 exact⟨i1,i2,g,off,bv,e,cell_up b c0,cell_up b c1,cell_up b c2,cell_up b c3,p.up b⟩
theorem PrV.take {ad:Option Addr} {n cap:Nat} {L:List (Int × Int)} (h:PrV w (.slice ad n cap) L) (k:Nat) (hk:k≤L.length):PrV w (.slice ad k cap) (L.take k):=by
 obtain⟨ad',cap',e,h1,h2,h3⟩:=h.ex
 cases e
 have hl:(L.take k).length=k:=by rw [List.length_take];omega
 refine⟨ad,cap,by rw [hl],by omega,h2,fun j x hx=>h3 j x ?_⟩
 rw [List.getElem?_take] at hx
 split at hx
 ·exact hx
 ·cases hx
theorem ClV.take {ad:Option Addr} {n cap:Nat} {L:List ClassA} (h:ClV w (.slice ad n cap) L) (k:Nat) (hk:k≤L.length):ClV w (.slice ad k cap) (L.take k):=by
 obtain⟨ad',cap',e,h1,h2,h3⟩:=h.ex
 cases e
 have hl:(L.take k).length=k:=by rw [List.length_take];omega
 refine⟨ad,cap,by rw [hl],by omega,h2,fun j x hx=>h3 j x ?_⟩
 rw [List.getElem?_take] at hx
 split at hx
 ·exact hx
 ·cases hx
theorem ClV.form {L:List ClassA} (h:ClV w v L):∃ ad cap,v=.slice ad L.length cap∧L.length≤cap∧cap≤maxLen:=by
 obtain⟨ad,cap,e,h1,h2,h3⟩:=h.ex
 exact⟨ad,cap,e,h1,h2⟩
theorem PrV.form {L:List (Int × Int)} (h:PrV w v L):∃ ad cap,v=.slice ad L.length cap∧L.length≤cap∧cap≤maxLen:=by
 obtain⟨ad,cap,e,h1,h2,h3⟩:=h.ex
 exact⟨ad,cap,e,h1,h2⟩
theorem ClV.at {ad:Option Addr} {n cap:Nat} {L:List ClassA} (h:ClV w (.slice ad n cap) L) {k:Nat} {c:ClassA} (hk:L[k]?=some c):In64 c.super∧In64 c.fields∧∃ g off bv,ad=some ⟨g,off,none⟩∧w.cell? ⟨g,off+k*4,none⟩=some (.string c.nm)∧w.cell? ⟨g,off+k*4+1,none⟩=some (.int .i64 c.super)∧w.cell? ⟨g,off+k*4+2,none⟩=some (.int .i64 c.fields)∧w.cell? ⟨g,off+k*4+3,none⟩=some bv∧PrV w bv c.binds:=by
 obtain⟨ad',cap',e,h1,h2,h3⟩:=h.ex
 cases e
 exact h3 k c hk
theorem PrV.at {ad:Option Addr} {n cap:Nat} {L:List (Int × Int)} (h:PrV w (.slice ad n cap) L) {k:Nat} {x:Int × Int} (hk:L[k]?=some x):In64 x.1∧In64 x.2∧∃ g off,ad=some ⟨g,off,none⟩∧w.cell? ⟨g,off+k*2,none⟩=some (.int .i64 x.1)∧w.cell? ⟨g,off+k*2+1,none⟩=some (.int .i64 x.2):=by
 obtain⟨ad',cap',e,h1,h2,h3⟩:=h.ex
 cases e
 exact h3 k x hk
end
def cl4 (c:ClassA) (bv:Value):List Value:=[.string c.nm,.int .i64 c.super,.int .i64 c.fields,bv]
def cl4s:List (ClassA × Value)→List Value
 | []=>[]
 | x :: X=>cl4 x.1 x.2++cl4s X
def pr2:List (Int × Int)→List Value
 | []=>[]
 | x :: X=>.int .i64 x.1 :: .int .i64 x.2 :: pr2 X
theorem pr2_app:∀ A B,pr2 (A++B)=pr2 A++pr2 B
 | [],_=>rfl
 | t :: A,B=>by simp [pr2,pr2_app A B]
theorem pr2_len:∀ A,(pr2 A).length=A.length*2
 | []=>rfl
 | t :: A=>by simp only [pr2,List.length_cons,pr2_len A];omega
theorem pr2_get:∀ (T:List (Int × Int)) (k:Nat) t,T[k]?=some t→(pr2 T)[k*2]?=some (.int .i64 t.1)∧(pr2 T)[k*2+1]?=some (.int .i64 t.2)
 | [],k,t,h=>by simp at h
 | s :: T,0,t,h=>by simp at h;subst h;simp [pr2]
 | s :: T,k+1,t,h=>by
  have:=pr2_get T k t (by simpa using h)
  rw [show (k+1)*2=k*2+2 by omega]
  simpa [pr2] using this
theorem pr2_one:∀ (T:List (Int × Int)),∀ u∈pr2 T,u.oneCell'=true
 | [],u,h=>by cases h
 | t :: T,u,h=>by
  simp only [pr2,List.mem_cons] at h
  rcases h with rfl | rfl | h
  ·rfl
  ·rfl
  ·exact pr2_one T u h
theorem cl4s_app:∀ A B,cl4s (A++B)=cl4s A++cl4s B
 | [],_=>rfl
 | t :: A,B=>by simp [cl4s,cl4s_app A B]
theorem cl4s_len:∀ A,(cl4s A).length=A.length*4
 | []=>rfl
 | t :: A=>by simp only [cl4s,cl4,List.length_append,List.length_cons,List.length_nil,cl4s_len A];omega
theorem cl4s_get:∀ (T:List (ClassA × Value)) (k:Nat) t,T[k]?=some t→(cl4s T)[k*4]?=some (.string t.1.nm)∧(cl4s T)[k*4+1]?=some (.int .i64 t.1.super)∧(cl4s T)[k*4+2]?=some (.int .i64 t.1.fields)∧(cl4s T)[k*4+3]?=some t.2
 | [],k,t,h=>by simp at h
 | s :: T,0,t,h=>by simp at h;subst h;simp [cl4s,cl4]
 | s :: T,k+1,t,h=>by
  have:=cl4s_get T k t (by simpa using h)
  rw [show (k+1)*4=k*4+4 by omega]
  simpa [cl4s,cl4] using this
theorem sl_one {v:Value} (h:∃ a m c,v=.slice a m c):v.oneCell'=true:=by obtain⟨a,m,c,rfl⟩:=h;rfl
theorem PrV.own {w:World} {base:Nat} {e:TypeId} {v:Value} {T:List (Int × Int)} (h:w.ownsRow base e 2 v T.length (pr2 T)) (hb:∀ x∈T,In64 x.1∧In64 x.2):PrV w v T:=by
 rcases h.2 with ⟨rfl,h0⟩ | ⟨g,cap,cur,rfl,h1,h2,h3,h4,_⟩
 ·have:T=[]:=List.length_eq_zero_iff.1 h0
  subst this
  exact⟨none,0,rfl,by simp,by decide,fun k x hx=>by simp at hx⟩
 ·refine⟨_,cap,rfl,h3,h4,fun k x hx=>?_⟩
  have hk:=(List.getElem?_eq_some_iff.1 hx).1
  obtain⟨c0,c1⟩:=pr2_get T k x hx
  obtain⟨b0,b1⟩:=hb x (List.mem_of_getElem? hx)
  refine⟨b0,b1,g,0,rfl,?_,?_⟩
  ·rw [Nat.zero_add];exact (h.cellAt (k*2) (by omega)).trans c0
  ·rw [Nat.zero_add];exact (h.cellAt (k*2+1) (by omega)).trans c1
theorem ClV.own {w:World} {base:Nat} {e:TypeId} {v:Value} {T:List (ClassA × Value)} (h:w.ownsRow base e 4 v T.length (cl4s T)) (hb:∀ x∈T,In64 x.1.super∧In64 x.1.fields∧PrV w x.2 x.1.binds):ClV w v (T.map (·.1)):=by
 rcases h.2 with ⟨rfl,h0⟩ | ⟨g,cap,cur,rfl,h1,h2,h3,h4,_⟩
 ·have:T=[]:=List.length_eq_zero_iff.1 h0
  subst this
  exact⟨none,0,rfl,by simp,by decide,fun k x hx=>by simp at hx⟩
 ·refine⟨some ⟨g,0,none⟩,cap,by simp,by simpa using h3,h4,fun k c hc=>?_⟩
  obtain⟨x,hx,rfl⟩:∃ x,T[k]?=some x∧x.1=c:=by simpa using hc
  have hk:=(List.getElem?_eq_some_iff.1 hx).1
  obtain⟨c0,c1,c2,c3⟩:=cl4s_get T k x hx
  obtain⟨b0,b1,b2⟩:=hb x (List.mem_of_getElem? hx)
  refine⟨b0,b1,g,0,x.2,rfl,?_,?_,?_,?_,b2⟩
  ·rw [Nat.zero_add];exact (h.cellAt (k*4) (by omega)).trans c0
  ·rw [Nat.zero_add];exact (h.cellAt (k*4+1) (by omega)).trans c1
  ·rw [Nat.zero_add];exact (h.cellAt (k*4+2) (by omega)).trans c2
  ·rw [Nat.zero_add];exact (h.cellAt (k*4+3) (by omega)).trans c3
theorem ClV.cells {w:World} {ad:Option Addr} {n cap:Nat} {L:List ClassA} (h:ClV w (.slice ad n cap) L):∃ T:List (ClassA × Value),T.map (·.1)=L∧(∀ x∈T,In64 x.1.super∧In64 x.1.fields∧PrV w x.2 x.1.binds)∧∀ k u,(cl4s T)[k]?=some u→∃ g off,ad=some ⟨g,off,none⟩∧w.cell? ⟨g,off+k,none⟩=some u:=by
 have key:∀ (m:Nat),m≤L.length→∃ T:List (ClassA × Value),T.map (·.1)=L.take m∧(∀ x∈T,In64 x.1.super∧In64 x.1.fields∧PrV w x.2 x.1.binds)∧∀ k u,(cl4s T)[k]?=some u→∃ g off,ad=some ⟨g,off,none⟩∧w.cell? ⟨g,off+k,none⟩=some u:=by
  intro m
  induction m with
  | zero=>exact fun _=>⟨[],by simp,by simp,fun k u hk=>by simp [cl4s] at hk⟩
  | succ m ih =>
   intro hm
   obtain⟨T,e,hT,hc⟩:=ih (by omega)
   obtain⟨c,hcm⟩:∃ c,L[m]?=some c:=⟨L[m]'(by omega),by simp⟩
   obtain⟨i0,i1,g,off,bv,ea,c0,c1,c2,c3,hp⟩:=h.at hcm
   have hl:T.length=m:=by have:=congrArg List.length e;simp at this;omega
   refine⟨T++[(c,bv)],by simp [e,List.take_add_one,hcm],fun x hx=>?_,fun k u hk=>?_⟩
   ·rcases List.mem_append.1 hx with hx | hx
    ·exact hT x hx
    ·rw [List.mem_singleton.1 hx];exact⟨i0,i1,hp⟩
   ·rw [cl4s_app] at hk
    by_cases hlt:k < (cl4s T).length
    ·rw [List.getElem?_append_left hlt] at hk
     exact hc k u hk
    ·rw [List.getElem?_append_right (by omega)] at hk
     rw [cl4s_len,hl] at hk hlt
     refine⟨g,off,ea,?_⟩
     simp only [cl4s,cl4,List.append_nil] at hk
     obtain⟨d,hd⟩:∃ d,k=m*4+d:=⟨k - m*4,by omega⟩
     subst hd
     rw [show m*4+d - m*4=d by omega] at hk
     match d,hk with
     | 0,hk=>simp at hk;subst hk;exact c0
     | 1,hk=>simp at hk;subst hk;exact c1
     | 2,hk=>simp at hk;subst hk;exact c2
     | 3,hk=>simp at hk;subst hk;exact c3
 obtain⟨T,e,r⟩:=key L.length (Nat.le_refl _)
 exact⟨T,by rw [e,List.take_length],r⟩
end Wd
end Go.Proofs.YteiejjmhmmkdhaaGreat

/- Rows that are being written while a tape is read; the small functions of the tape's package. -/
namespace Go.Proofs.YteiejjmhmmkdhaaGreat
open Go.RowKit
set_option linter.unusedVariables false
set_option maxRecDepth 20000
namespace Wd
structure Rw (w0 w wr:World) (p n:Nat) (ad:Option Addr) (v0 v:Value) (T:TypeId) (sz len:Nat) (xs:List Value):Prop where
 ks:Ks w0 wr p n ad
 cd:wr.ownsRow w0.heap.size T sz v len xs
 cg:Cg (fun k=>k=p∨v0.ownBlock=some k) w wr
 ob:∀ k,v.ownBlock=some k→v0.ownBlock=some k∨w.heap.size≤k
 b0:∀ k,v0.ownBlock=some k→w0.heap.size≤k
 s0:w0.heap.size≤w.heap.size
section
variable {w0 w w1 w2:World} {p n sz len len':Nat} {ad:Option Addr} {v v' v0:Value} {T:TypeId} {xs xs':List Value}
theorem Rw.start (ks:Ks w0 w p n ad) (cd:w.ownsRow w0.heap.size T sz v len xs):Rw w0 w w p n ad v v T sz len xs :=
 ⟨ks,cd,Cg.refl _ _,fun k hk=>Or.inl hk,fun k hk=>(cd.lt k hk).1,ks.cg.size⟩
theorem Rw.nil (ks:Ks w0 w p n ad) (T:TypeId) (sz:Nat):Rw w0 w w p n ad (.slice none 0 0) (.slice none 0 0) T sz 0 []:=Rw.start ks (World.ownsRow_nil _ _ _ _)
theorem Rw.keep (h:Rw w0 w w1 p n ad v0 v T sz len xs) (b:Below w1.heap.size w1 w2):Rw w0 w w2 p n ad v0 v T sz len xs :=
 ⟨h.ks.keep b,row_cg (F:=fun _=>False) h.cd (Cg.below _ b) (fun _ _ hf=>hf),h.cg.trans (Cg.below _ b),h.ob,h.b0,h.s0⟩
theorem Rw.next (h:Rw w0 w w1 p n ad v0 v T sz len xs) (t:Tp w2 p ad n) (c:Cg (fun k=>k=p) w1 w2):Rw w0 w w2 p n ad v0 v T sz len xs :=
 ⟨h.ks.step t c,row_cg h.cd c (fun k hk e=>by have:=(h.cd.lt k hk).1;have:=h.ks.p0;omega),h.cg.trans (c.mono (fun k hk=>Or.inl hk)),h.ob,h.b0,h.s0⟩
theorem Rw.grow (h:Rw w0 w w1 p n ad v0 v T sz len xs) {wA:World} (hA:Below w1.heap.size w1 wA) (hown:w2.ownsRow w0.heap.size T sz v' len' xs') (hg:wA.grownBy w2 v.ownBlock) (hob:∀ k,v'.ownBlock=some k→v.ownBlock=some k∨k=wA.heap.size):Rw w0 w w2 p n ad v0 v' T sz len' xs':=by
 have hs:w1.heap.size≤wA.heap.size:=hA.size
 have hc:Cg (fun k=>v.ownBlock=some k) w1 w2:=(Cg.below _ hA).grown hg (fun k e=>Or.inl e)
 refine⟨h.ks.other hc (fun k hk=>(h.cd.lt k hk).1),hown,h.cg.trans' hc (fun k hk=>?_),fun k hk=>?_,h.b0,h.s0⟩
 ·rcases h.ob k hk with e | e
  ·exact Or.inl (Or.inr e)
  ·exact Or.inr e
 ·rcases hob k hk with e | e
  ·exact h.ob k e
  ·have:=h.cg.size
   exact Or.inr (by omega)
end
theorem row_shape {w:World} {base size n:Nat} {e:TypeId} {v:Value} {xs:List Value} (h:w.ownsRow base e size v n xs):∃ a c,v=.slice a n c:=by
 rcases h.2 with ⟨rfl,h0⟩ | ⟨g,cap,cur,rfl,_⟩
 ·exact⟨_,_,by rw [h0]⟩
 ·exact⟨_,_,rfl⟩
theorem at_hat {a:Option Addr} {m c g1 n1 c1 H:Nat} (hat:(Value.slice a m c).ownBlock=some g1∨g1=H):∀ k,(Value.slice (some ⟨g1,0,none⟩) n1 c1).ownBlock=some k→(Value.slice a m c).ownBlock=some k∨k=H:=by
 intro k hk
 have:g1=k:=by simpa [Value.ownBlock] using hk
 subst this
 exact hat
theorem infoVal:(Tryz.prog.info? 80).map (fun i=>(i.zero,i.size,i.bytes))=some (some (.agg #[.int .i64 0,.int .i64 0]),2,16):=by kernel_rfl
theorem pair_at {w:World} {g:Nat} {x y:Int} (h0:w.cell? ⟨g,0,none⟩=some (.int .i64 x)) (h1:w.cell? ⟨g,1,none⟩=some (.int .i64 y)):∀ j u,(pr2 [(x,y)])[j]?=some u→w.cell? ((⟨g,0,none⟩:Addr).add j)=some u:=by
 intro j u hu
 match j,hu with
 | 0,hu =>
  simp [pr2] at hu;subst hu
  rw [Addr.add_lit];exact h0
 | 1,hu =>
  simp [pr2] at hu;subst hu
  rw [Addr.add_lit];exact h1
def argOf (s:Nat):Int:=[0,1,1,2,0,0].getD s 0
theorem argOf_le (s:Nat):0≤argOf s∧argOf s≤2:=by
 unfold argOf
 match s with
 | 0 | 1 | 2 | 3 | 4 | 5=>decide
 | s+6=>simp
theorem args_c (s:Nat) (hs:s < 6) (w:World) :
  Calls Tryz.prog 32 #[.int .i64 s] w fun e w'=>e=.returned (.int .i64 (argOf s))∧Below w.heap.size w w':=by
 rcases (show s=0∨s=1∨s=2∨s=3∨s=4∨s=5 by omega) with rfl | rfl | rfl | rfl | rfl | rfl
 all_goals
  go_enter Tryz.func32,Tryz.ntmps32
  go_wp2
  go_ret
  exact⟨rfl,(Below.refl _ _).alloc (Nat.le_refl _) _⟩
def nameL:List ByteArray:=[⟨#[103,111]⟩,⟨#[100,111,58]⟩,⟨#[43]⟩,⟨#[97,116,58,112,117,116,58]⟩,⟨#[120]⟩,⟨#[121,57]⟩]
def strs (L:List ByteArray):List Value:=L.map Value.string
theorem names_c (w:World) :
  Calls Tryz.prog 29 #[] w fun e w'=>e=.returned (.slice (some ⟨w.heap.size,0,none⟩) 6 6)∧w'=w.alloc (.cells (strs nameL).toArray 9):=by
 go_enter Tryz.func29,Tryz.ntmps29
 go_wp2
 go_ret
 exact⟨rfl,rfl⟩
end Wd
end Go.Proofs.YteiejjmhmmkdhaaGreat

/- The literals of a tape's method. -/
namespace Go.Proofs.YteiejjmhmmkdhaaGreat
open Go.RowKit
set_option linter.unusedVariables false
set_option maxRecDepth 20000
namespace Wd
def numLit (x:Int × Int):Prop:=x.1=3∧(x.2=0∨x.2=7∨x.2=1073741823∨x.2=-1073741824∨x.2=100000)
def sels (k:Nat):List (Int × Int):=(List.range k).map (fun (i:Nat)=>((5:Int),(i:Int)))
theorem sels_succ (k:Nat):sels (k+1)=sels k++[(5,(k:Int))]:=by simp [sels,List.range_succ]
def clsLit (c:Int) (x:Int × Int):Prop:=x.1=6∧2≤x.2∧x.2 < c
def litsOk (c:Int) (X:List (Int × Int)):Prop:=∃ A B,X=A++sels 6++B++[(7,7),(7,8)]∧A.length=4∧B.length=2∧(∀ x∈A,numLit x)∧∀ x∈B,clsLit c x
theorem quad_at {w:World} {g:Nat} {x y z u:Int} (h0:w.cell? ⟨g,0,none⟩=some (.int .i64 x)) (h1:w.cell? ⟨g,1,none⟩=some (.int .i64 y)) (h2:w.cell? ⟨g,2,none⟩=some (.int .i64 z)) (h3:w.cell? ⟨g,3,none⟩=some (.int .i64 u)):∀ j v,(pr2 [(x,y),(z,u)])[j]?=some v→w.cell? ((⟨g,0,none⟩:Addr).add j)=some v:=by
 intro j v hu
 match j,hu with
 | 0,hu =>
  simp [pr2] at hu;subst hu
  rw [Addr.add_lit];exact h0
 | 1,hu =>
  simp [pr2] at hu;subst hu
  rw [Addr.add_lit];exact h1
 | 2,hu =>
  simp [pr2] at hu;subst hu
  rw [Addr.add_lit];exact h2
 | 3,hu =>
  simp [pr2] at hu;subst hu
  rw [Addr.add_lit];exact h3
set_option maxHeartbeats 64000000 in
theorem lits_c {w0 w:World} {p n:Nat} {ad:Option Addr} (h:Ks w0 w p n ad) (c:Int) (hc0:3≤c) (hc1:c≤100) :
  Calls Tryz.prog 58 #[.pointer (some ⟨p,0,none⟩),.int .i64 c] w fun e w'=>∃ v' X,e=.returned v'∧litsOk c X∧Rw w0 w w' p n ad (.slice none 0 0) v' 80 2 14 (pr2 X):=by
 obtain⟨i0,hi0,hz0,hz1,hz2⟩:=info_parts infoVal
 have hmx:100000≤maxLen:=by decide
 have hst:=Lib.hid (Rw.nil h 80 2)
 have hsz0:=h.cg.size
 clear h
 go_enter Tryz.func58,Tryz.ntmps58
 go_wp2
 go_loopw [5,6] (fun i5 i6 wr=>∃ (k:Nat) (X:List (Int × Int)) (a:Option Addr) (cp:Nat),k≤4∧i6=.int .i64 k∧i5=.slice a k cp∧Hid (X.length=k∧(∀ x∈X,numLit x)∧Rw w0 w wr p n ad (.slice none 0 0) (.slice a k cp) 80 2 k (pr2 X))) (fun _ i6 _=>4 - (intOf i6).toNat)
 case atStart=>exact⟨0,[],none,0,by omega,rfl,rfl,Lib.hid ⟨rfl,by simp,hst.out⟩⟩
 case round =>
  obtain⟨k,X,a,cp,hk,rfl,rfl,hX⟩:=hrel
  by_cases hk4:k < 4
  ·have hk4':(k:Int) < 4:=by omega
   have hb1:=(Below.refl wr.heap.size wr).alloc (Nat.le_refl _) (.cells #[.int .i64 0,.int .i64 7,.int .i64 1073741823,.int .i64 (-1073741824),.int .i64 100000] 3)
   have h1:=Lib.hid (hX.out.2.2.keep hb1)
   clear hb1
   go_wp2_with fail
   refine (next_c 5 (by omega) (by omega) h1.out.ks.tp).mono ?_
   rintro e w2 ⟨x,rfl,⟨x0,x1⟩,t1,c1⟩
   have h2:=Lib.hid (h1.out.next t1 c1)
   have hsz:=hX.out.2.2.ks.cg.size
   have hp0:=hX.out.2.2.ks.p0
   have hne:wr.heap.size≠p:=by omega
   have kb:=c1.block wr.heap.size (by simp) hne
   obtain⟨s,hs,j,rfl,hj,hc⟩:∃ s:Int,(s=0∨s=7∨s=1073741823∨s=-1073741824∨s=100000)∧∃ j:Nat,x=j∧j < 5∧w2.cell? ⟨wr.heap.size,j,none⟩=some (.int .i64 s):=by
    rcases (show x=0∨x=1∨x=2∨x=3∨x=4 by omega) with rfl | rfl | rfl | rfl | rfl
    ·exact⟨0,by omega,0,rfl,by omega,(World.cell?_of_block (a:=⟨wr.heap.size,0,none⟩) kb).trans (by simp)⟩
    ·exact⟨7,by omega,1,rfl,by omega,(World.cell?_of_block (a:=⟨wr.heap.size,1,none⟩) kb).trans (by simp)⟩
    ·exact⟨1073741823,by omega,2,rfl,by omega,(World.cell?_of_block (a:=⟨wr.heap.size,2,none⟩) kb).trans (by simp)⟩
    ·exact⟨-1073741824,by omega,3,rfl,by omega,(World.cell?_of_block (a:=⟨wr.heap.size,3,none⟩) kb).trans (by simp)⟩
    ·exact⟨100000,by omega,4,rfl,by omega,(World.cell?_of_block (a:=⟨wr.heap.size,4,none⟩) kb).trans (by simp)⟩
   have hj1:(j:Int) < 5:=by omega
   have hX1:=Lib.hid (And.intro hX.out.1 hX.out.2.1)
   have hcd:=Lib.hid h2.out.cd
   have hs0:Hid (w0.heap.size≤w2.heap.size):=Lib.hid h2.out.ks.cg.size
   clear t1 c1 kb h1 hX hsz hp0 hne
   go_wp2_with (first | (at_builtin;refine wpList_append_lies _ rfl (.tmp 13) (.tmp 20) 64 rfl w0.heap.size 80 i0 (.agg #[.int .i64 0,.int .i64 0]) 2 16 Tryz.underlying64 hi0 hz0 hz1 hz2 rfl (by decide) (.slice a k cp) k _ (by simp [Act.eval]) (hcd.out.alloc _) ⟨w2.heap.size,0,none⟩ 1 1 (pr2 [(3,s)]) (by simp [Act.eval]) (by simp [pr2]) (pair_at ((World.cell?_alloc_new _ _ _ 0).trans rfl) ((World.cell?_alloc_new _ _ _ 1).trans rfl)) (pr2_one _) (by omega) (by omega) (by omega) (by have:=hs0.out;simp;omega) _ rfl ?_;intro g1 cap1 w3 hown1 hgrow1 hat1 hlt1))
   have h3:=Lib.hid (h2.out.grow ((Below.refl _ w2).alloc (Nat.le_refl _) _) (by rw [← pr2_app] at hown1;exact hown1) hgrow1 (at_hat hat1))
   clear hown1 hgrow1 hat1 hlt1
   go_roundw
   case rel=>exact⟨k+1,X++[(3,s)],_,_,by omega,by go_num,rfl,Lib.hid ⟨by simp [hX1.out.1],fun y hy=>by
    rcases List.mem_append.1 hy with hy | hy
    ·exact hX1.out.2 y hy
    ·rw [List.mem_singleton.1 hy];exact⟨rfl,hs⟩,h3.out⟩⟩
   case measure=>simp [intOf];omega
  ·obtain rfl:k=4:=by omega
   go_wp2_with fail
   refine (names_c _).mono ?_
   rintro e w2 ⟨rfl,hw2⟩
   have h2:=Lib.hid (hX.out.2.2.keep (by rw [hw2];exact (Below.refl _ _).alloc (Nat.le_refl _) _:Below wr.heap.size wr w2))
   have hA:=Lib.hid (And.intro hX.out.1 hX.out.2.1)
   clear hX hw2 hst hsz0
   go_wp2
   go_loopw [5,24] (fun i5 i24 wr=>∃ (k:Nat) (a:Option Addr) (cp m:Nat),k≤6∧m≤14∧Hid (m=4+k)∧i24=.int .i64 k∧i5=.slice a m cp∧Hid (Rw w0 w wr p n ad (.slice none 0 0) (.slice a m cp) 80 2 m (pr2 (X++sels k)))) (fun _ i24 _=>6 - (intOf i24).toNat)
   case atStart=>exact⟨0,_,_,4,by omega,by omega,Lib.hid rfl,rfl,rfl,Lib.hid (by rw [show sels 0=[] from rfl,List.append_nil];exact h2.out)⟩
   case round =>
    clear h2
    obtain⟨k,a,cp,m,hk,hm14,hm,rfl,rfl,hR⟩:=hrel
    by_cases hk6:k < 6
    ·have hk6':(k:Int) < 6:=by omega
     have hcd:=Lib.hid hR.out.cd
     have hs0:Hid (w0.heap.size≤wr.heap.size):=Lib.hid hR.out.ks.cg.size
     go_wp2_with (first | (at_builtin;refine wpList_append_lies _ rfl (.tmp 27) (.tmp 30) 64 rfl w0.heap.size 80 i0 (.agg #[.int .i64 0,.int .i64 0]) 2 16 Tryz.underlying64 hi0 hz0 hz1 hz2 rfl (by decide) (.slice a m cp) m _ (by simp [Act.eval]) (hcd.out.alloc _) ⟨wr.heap.size,0,none⟩ 1 1 (pr2 [(5,(k:Int))]) (by simp [Act.eval]) (by simp [pr2]) (pair_at ((World.cell?_alloc_new _ _ _ 0).trans rfl) ((World.cell?_alloc_new _ _ _ 1).trans rfl)) (pr2_one _) (by omega) (by omega) (by omega) (by have:=hs0.out;simp;omega) _ rfl ?_;intro g1 cap1 w3 hown1 hgrow1 hat1 hlt1))
     have h3:=Lib.hid (hR.out.grow ((Below.refl _ wr).alloc (Nat.le_refl _) _) (by rw [← pr2_app,List.append_assoc,← sels_succ] at hown1;exact hown1) hgrow1 (at_hat hat1))
     clear hown1 hgrow1 hat1 hlt1 hR hcd
     go_roundw
     case rel=>exact⟨k+1,_,_,m+1,by omega,by have:=hm.out;omega,Lib.hid (by have:=hm.out;omega),by go_num,rfl,h3⟩
     case measure=>simp [intOf];omega
    ·obtain rfl:k=6:=by omega
     obtain rfl:m=10:=by have:=hm.out;omega
     clear hm hk hm14
     rw [show ((6:Nat):Int)=6 from rfl]
     go_wp2
     go_loopw [5,8] (fun i5 i8 wr=>∃ (k:Nat) (B:List (Int × Int)) (a:Option Addr) (cp m:Nat),k≤2∧m≤14∧Hid (m=10+k)∧i8=.int .i64 k∧i5=.slice a m cp∧Hid (B.length=k∧(∀ x∈B,clsLit c x)∧Rw w0 w wr p n ad (.slice none 0 0) (.slice a m cp) 80 2 m (pr2 (X++sels 6++B)))) (fun _ i8 _=>2 - (intOf i8).toNat)
     case atStart=>exact⟨0,[],_,_,10,by omega,by omega,Lib.hid rfl,rfl,rfl,Lib.hid ⟨rfl,by simp,by rw [List.append_nil];exact hR.out⟩⟩
     case round =>
      clear hR
      obtain⟨k,B,a,cp,m,hk,hm14,hm,rfl,rfl,hB⟩:=hrel
      by_cases hk2:k < 2
      ·have hk2':(k:Int) < 2:=by omega
       have hw1:IntKind.i64.wrap (c - 2)=c - 2:=by rw [IntKind.wrap_i64];omega
       go_wp2_with fail
       refine (next_c (c - 2) (by omega) (by omega) hB.out.2.2.ks.tp).mono ?_
       rintro e w2 ⟨x,rfl,⟨x0,x1⟩,t1,c1⟩
       have h2:=Lib.hid (hB.out.2.2.next t1 c1)
       have hcd:=Lib.hid h2.out.cd
       have hs0:Hid (w0.heap.size≤w2.heap.size):=Lib.hid h2.out.ks.cg.size
       have hw3:IntKind.i64.wrap (2+x)=2+x:=by rw [IntKind.wrap_i64];omega
       clear t1 c1
       go_wp2_with (first | (at_builtin;refine wpList_append_lies _ rfl (.tmp 37) (.tmp 44) 64 rfl w0.heap.size 80 i0 (.agg #[.int .i64 0,.int .i64 0]) 2 16 Tryz.underlying64 hi0 hz0 hz1 hz2 rfl (by decide) (.slice a m cp) m _ (by simp [Act.eval]) (hcd.out.alloc _) ⟨w2.heap.size,0,none⟩ 1 1 (pr2 [(6,2+x)]) (by simp [Act.eval]) (by simp [pr2]) (pair_at ((World.cell?_alloc_new _ _ _ 0).trans rfl) ((World.cell?_alloc_new _ _ _ 1).trans rfl)) (pr2_one _) (by omega) (by omega) (by omega) (by have:=hs0.out;simp;omega) _ rfl ?_;intro g1 cap1 w3 hown1 hgrow1 hat1 hlt1))
       have h3:=Lib.hid (h2.out.grow ((Below.refl _ w2).alloc (Nat.le_refl _) _) (by rw [← pr2_app,List.append_assoc] at hown1;exact hown1) hgrow1 (at_hat hat1))
       clear hown1 hgrow1 hat1 hlt1 hcd
       go_roundw
       case rel=>exact⟨k+1,B++[(6,2+x)],_,_,m+1,by omega,by have:=hm.out;omega,Lib.hid (by have:=hm.out;omega),by go_num,rfl,Lib.hid ⟨by simp [hB.out.1],fun y hy=>by
        rcases List.mem_append.1 hy with hy | hy
        ·exact hB.out.2.1 y hy
        ·rw [List.mem_singleton.1 hy];exact⟨rfl,by simp only;omega,by simp only;omega⟩,h3.out⟩⟩
       case measure=>simp [intOf];omega
      ·obtain rfl:k=2:=by omega
       obtain rfl:m=12:=by have:=hm.out;omega
       have hcd:=Lib.hid hB.out.2.2.cd
       have hs0:Hid (w0.heap.size≤wr.heap.size):=Lib.hid hB.out.2.2.ks.cg.size
       go_wp2_with (first | (at_builtin;refine wpList_append_lies _ rfl (.tmp 46) (.tmp 49) 64 rfl w0.heap.size 80 i0 (.agg #[.int .i64 0,.int .i64 0]) 2 16 Tryz.underlying64 hi0 hz0 hz1 hz2 rfl (by decide) (.slice a 12 cp) 12 _ (by simp [Act.eval]) (hcd.out.alloc _) ⟨wr.heap.size,0,none⟩ 2 2 (pr2 [(7,7),(7,8)]) (by simp [Act.eval]) (by simp [pr2]) (quad_at ((World.cell?_alloc_new _ _ _ 0).trans rfl) ((World.cell?_alloc_new _ _ _ 1).trans rfl) ((World.cell?_alloc_new _ _ _ 2).trans rfl) ((World.cell?_alloc_new _ _ _ 3).trans rfl)) (pr2_one _) (by omega) (by omega) (by omega) (by have:=hs0.out;simp;omega) _ rfl ?_;intro g1 cap1 w3 hown1 hgrow1 hat1 hlt1))
       have h3:=Lib.hid (hB.out.2.2.grow ((Below.refl _ wr).alloc (Nat.le_refl _) _) (by rw [← pr2_app] at hown1;exact hown1) hgrow1 (at_hat hat1))
       go_ret
       exact⟨_,rfl,_,⟨X,B,rfl,hA.out.1,hB.out.1,hA.out.2,hB.out.2.1⟩,h3.out⟩
end Wd
end Go.Proofs.YteiejjmhmmkdhaaGreat

/- A row of bytes beside a small list of numbers. -/
namespace Go.Proofs.YteiejjmhmmkdhaaGreat
open Go.RowKit
set_option linter.unusedVariables false
set_option maxRecDepth 20000
namespace Wd
structure Pd (w0 w wr:World) (p n:Nat) (ad:Option Addr) (v0 v:Value) (C:List Int) (B:Nat):Prop where
 pc:Pc w0 w wr p n ad v0 v C
 q0:wr.cell? ⟨B,0,none⟩=some (.int .i64 7)
 q1:wr.cell? ⟨B,1,none⟩=some (.int .i64 0)
 np:B≠p
 nv:v.ownBlock≠some B
section
variable {w0 w w1 w2 wX:World} {p n B:Nat} {ad:Option Addr} {v0 v v':Value} {C:List Int}
theorem Pd.lt (h:Pd w0 w w1 p n ad v0 v C B):B < w1.heap.size:=World.block_lt_of_cell? w1 _ h.q0
theorem Pd.keep (h:Pd w0 w w1 p n ad v0 v C B) (b:Below w1.heap.size w1 w2):Pd w0 w w2 p n ad v0 v C B :=
 ⟨h.pc.keep b,(World.cell?_of_block (a:=⟨B,0,none⟩) (b.block B h.lt)).trans h.q0,(World.cell?_of_block (a:=⟨B,1,none⟩) (b.block B h.lt)).trans h.q1,h.np,h.nv⟩
theorem Pd.born (h:Pc w0 w w1 p n ad v0 v C) (hX:wX=w1.alloc (.cells #[.int .i64 7,.int .i64 0] 3)∨wX=(w1.alloc (.cells #[.int .i64 7,.int .i64 0] 3)).drew):Pd w0 w wX p n ad v0 v C w1.heap.size:=by
 have h1:Pd w0 w (w1.alloc (.cells #[.int .i64 7,.int .i64 0] 3)) p n ad v0 v C w1.heap.size :=
  ⟨h.keep ((Below.refl _ _).alloc (Nat.le_refl _) _),by simp,by simp,fun e=>by have:=h.ks.p0;have:=h.ks.cg.size;omega,fun e=>by have:=(h.cd.lt _ e).2;omega⟩
 rcases hX with rfl | rfl
 ·exact h1
 ·exact h1.keep (Below.refl _ _).drew
theorem nx_a (m:Int) (h:Hid (Pc w0 w w1 p n ad v0 v C)) (hb:Below w1.heap.size w1 wX) (m1:1≤m) (m2:m≤1000000) :
  Calls Tryz.prog 30 #[.pointer (some ⟨p,0,none⟩),.int .i64 m] wX fun e w'=>∃ x:Int,e=.returned (.int .i64 x)∧(0≤x∧x < m)∧Hid (Pc w0 w w' p n ad v0 v C):=by
 have h1:=h.out.keep hb
 refine (next_c m m1 m2 h1.ks.tp).mono ?_
 rintro e w' ⟨x,he,hx,t,c⟩
 exact⟨x,he,hx,Lib.hid (h1.next t c)⟩
theorem nx_d (m:Int) (h:Hid (Pd w0 w w1 p n ad v0 v C B)) (hb:Below w1.heap.size w1 wX) (m1:1≤m) (m2:m≤1000000) :
  Calls Tryz.prog 30 #[.pointer (some ⟨p,0,none⟩),.int .i64 m] wX fun e w'=>∃ x:Int,e=.returned (.int .i64 x)∧(0≤x∧x < m)∧Hid (Pd w0 w w' p n ad v0 v C B):=by
 have h1:=h.out.keep hb
 refine (next_c m m1 m2 h1.pc.ks.tp).mono ?_
 rintro e w' ⟨x,he,hx,t,c⟩
 have hk:=c.block B h1.lt h1.np
 exact⟨x,he,hx,Lib.hid ⟨h1.pc.next t c,(World.cell?_of_block (a:=⟨B,0,none⟩) hk).trans h1.q0,(World.cell?_of_block (a:=⟨B,1,none⟩) hk).trans h1.q1,h1.np,h1.nv⟩⟩
theorem nx_b (m:Int) (h:Hid (Pc w0 w w1 p n ad v0 v C)) (hX:wX=w1.alloc (.cells #[.int .i64 7,.int .i64 0] 3)∨wX=(w1.alloc (.cells #[.int .i64 7,.int .i64 0] 3)).drew) (m1:1≤m) (m2:m≤1000000) :
  Calls Tryz.prog 30 #[.pointer (some ⟨p,0,none⟩),.int .i64 m] wX fun e w'=>∃ x:Int,e=.returned (.int .i64 x)∧(0≤x∧x < m)∧Hid (Pd w0 w w' p n ad v0 v C w1.heap.size) :=
 nx_d m (Lib.hid (Pd.born h.out hX)) (Below.refl _ _) m1 m2
theorem opx_a (h:Hid (Pc w0 w w1 p n ad v0 v C)) (hb:Below w1.heap.size w1 wX) (hl:C.length≤100000) (o a:Int) :
  Calls Tryz.prog 60 #[v,.int .i64 o,.int .i64 a] wX fun e w'=>∃ v',e=.returned v'∧Hid (Pc w0 w w' p n ad v0 v' (C++[wr8 o,wr8 a])):=by
 refine (op_c (h.out.keep hb) hl o a).mono ?_
 rintro e w' ⟨v',he,h'⟩
 exact⟨v',he,Lib.hid h'⟩
theorem opx_d (h:Hid (Pd w0 w w1 p n ad v0 v C B)) (hb:Below w1.heap.size w1 wX) (hl:C.length≤100000) (o a:Int) :
  Calls Tryz.prog 60 #[v,.int .i64 o,.int .i64 a] wX fun e w'=>∃ v',e=.returned v'∧Hid (Pd w0 w w' p n ad v0 v' (C++[wr8 o,wr8 a]) B):=by
 have h1:=h.out.keep hb
 refine (op_c2 h1.pc hl o a).mono ?_
 rintro e w' ⟨v',he,h',c,ob⟩
 have hk:=c.block B h1.lt (fun e=>h1.nv e)
 refine⟨v',he,Lib.hid ⟨h',(World.cell?_of_block (a:=⟨B,0,none⟩) hk).trans h1.q0,(World.cell?_of_block (a:=⟨B,1,none⟩) hk).trans h1.q1,h1.np,fun e=>?_⟩⟩
 rcases ob B e with e | e
 ·exact h1.nv e
 ·have:=h1.lt;omega
theorem opx_b (h:Hid (Pc w0 w w1 p n ad v0 v C)) (hX:wX=w1.alloc (.cells #[.int .i64 7,.int .i64 0] 3)∨wX=(w1.alloc (.cells #[.int .i64 7,.int .i64 0] 3)).drew) (hl:C.length≤100000) (o a:Int) :
  Calls Tryz.prog 60 #[v,.int .i64 o,.int .i64 a] wX fun e w'=>∃ v',e=.returned v'∧Hid (Pd w0 w w' p n ad v0 v' (C++[wr8 o,wr8 a]) w1.heap.size) :=
 opx_d (Lib.hid (Pd.born h.out hX)) (Below.refl _ _) hl o a
def sel70 (j:Nat):Int:=if j=0 then 7 else 0
theorem sel70_or (j:Nat):sel70 j=7∨sel70 j=0:=by unfold sel70;split <;> simp
theorem Pd.sel (h:Pd w0 w w1 p n ad v0 v C B) {j:Nat} (hj:j < 2):w1.cell? ⟨B,j,none⟩=some (.int .i64 (sel70 j)):=by
 rcases (show j=0∨j=1 by omega) with rfl | rfl
 ·exact h.q0
 ·exact h.q1
theorem born_sel (w1:World) {j:Nat} (hj:j < 2):(w1.alloc (.cells #[.int .i64 7,.int .i64 0] 3)).cell? ⟨w1.heap.size,j,none⟩=some (.int .i64 (sel70 j)):=by
 rcases (show j=0∨j=1 by omega) with rfl | rfl <;> simp [sel70]
theorem nx3_a (h:Hid (Pc w0 w w1 p n ad v0 v C)) (hb:Below w1.heap.size w1 wX) :
  Calls Tryz.prog 30 #[.pointer (some ⟨p,0,none⟩),.int .i64 2] wX fun e w'=>∃ j:Nat,e=.returned (.int .i64 (j:Int))∧j < 2∧Hid (Pc w0 w w' p n ad v0 v C)∧(w'.alloc (.cells #[.int .i64 7,.int .i64 0] 3)).cell? ⟨w'.heap.size,j,none⟩=some (.int .i64 (sel70 j)):=by
 refine (nx_a 2 h hb (by omega) (by omega)).mono ?_
 rintro e w' ⟨x,he,hx,h'⟩
 have ex:x=((x.toNat:Nat):Int):=by omega
 exact⟨x.toNat,by rw [← ex];exact he,by omega,h',born_sel _ (by omega)⟩
theorem nx3_d (h:Hid (Pd w0 w w1 p n ad v0 v C B)) (hb:Below w1.heap.size w1 wX) :
  Calls Tryz.prog 30 #[.pointer (some ⟨p,0,none⟩),.int .i64 2] wX fun e w'=>∃ j:Nat,e=.returned (.int .i64 (j:Int))∧j < 2∧Hid (Pd w0 w w' p n ad v0 v C B)∧w'.cell? ⟨B,j,none⟩=some (.int .i64 (sel70 j)):=by
 refine (nx_d 2 h hb (by omega) (by omega)).mono ?_
 rintro e w' ⟨x,he,hx,h'⟩
 have ex:x=((x.toNat:Nat):Int):=by omega
 exact⟨x.toNat,by rw [← ex];exact he,by omega,h',h'.out.sel (by omega)⟩
theorem nx3_b (h:Hid (Pc w0 w w1 p n ad v0 v C)) (hX:wX=w1.alloc (.cells #[.int .i64 7,.int .i64 0] 3)∨wX=(w1.alloc (.cells #[.int .i64 7,.int .i64 0] 3)).drew) :
  Calls Tryz.prog 30 #[.pointer (some ⟨p,0,none⟩),.int .i64 2] wX fun e w'=>∃ j:Nat,e=.returned (.int .i64 (j:Int))∧j < 2∧Hid (Pd w0 w w' p n ad v0 v C w1.heap.size)∧w'.cell? ⟨w1.heap.size,j,none⟩=some (.int .i64 (sel70 j)) :=
 nx3_d (Lib.hid (Pd.born h.out hX)) (Below.refl _ _)
theorem arr_sel {j:Nat} (hj:j < 2):(#[Value.int .i64 7,Value.int .i64 0]:Array Value)[j]?=some (.int .i64 (sel70 j)):=by
 rcases (show j=0∨j=1 by omega) with rfl | rfl <;> simp [sel70]
theorem lst_sel {j:Nat} (hj:j < 2):([Value.int .i64 7,Value.int .i64 0]:List Value)[j]?=some (.int .i64 (sel70 j)):=by
 rcases (show j=0∨j=1 by omega) with rfl | rfl <;> simp [sel70]
def Mark (j:Nat):Prop:=j < 2
theorem fin_G {x k z:Int} {j:Nat} (h:Hid (Pd w0 w w1 p n ad v0 v (((((C++[wr8 0,wr8 x])++[wr8 7,wr8 k])++[wr8 (sel70 j),wr8 z])++[wr8 21,wr8 9])++[wr8 8,wr8 0]) B)):Pc w0 w w1 p n ad v0 v (C++[wr8 0,wr8 x,wr8 7,wr8 k,wr8 (sel70 j),wr8 z,wr8 21,wr8 9,wr8 8,wr8 0]):=by
 have:=h.out.pc
 simpa using this
end
end Wd
end Go.Proofs.YteiejjmhmmkdhaaGreat

/- A tape's piece: which instructions it may be; what is said of it. -/
namespace Go.Proofs.YteiejjmhmmkdhaaGreat
open Go.RowKit
set_option linter.unusedVariables false
set_option maxRecDepth 20000
namespace Wd
def flat (l:List (Int × Int)):List Int:=l.flatMap (fun x=>[x.1,x.2])
def pkA (l:List (Int × Int)):Prop:=∃ a:Int,(0≤a∧a < 20)∧l=[(wr8 7,wr8 a),(wr8 21,wr8 10),(wr8 8,wr8 0)]
def pkB (l:List (Int × Int)):Prop:=∃ s:Int,(s=4∨s=8∨s=9)∧l=[(wr8 3,wr8 0),(wr8 12,wr8 s),(wr8 8,wr8 0)]
def pkC (l:List (Int × Int)):Prop:=∃ a:Int,∃ x:Int,(0≤a∧a < 20)∧(0≤x∧x < 2)∧l=[(wr8 3,wr8 0),(wr8 7,wr8 a),(wr8 12,wr8 (5+x)),(wr8 21,wr8 10),(wr8 8,wr8 0)]
def pkD (l:List (Int × Int)):Prop:=∃ i:Int,∃ a:Int,∃ q:Int,(0≤i∧i < 4)∧(0≤a∧a < 20)∧(0≤q∧q < 6)∧l=[(wr8 2,wr8 i),(wr8 7,wr8 (a - 9)),(wr8 21,wr8 q),(wr8 21,wr8 10),(wr8 8,wr8 0)]
def pkE (l:List (Int × Int)):Prop:=∃ x:Int,∃ y:Int,(0≤x∧x < 2)∧(0≤y∧y < 2)∧l=[(wr8 20,wr8 (10+x)),(wr8 10,wr8 y),(wr8 8,wr8 0)]
def pkF (l:List (Int × Int)):Prop:=∃ a:Int,∃ y:Int,(0≤a∧a < 20)∧(0≤y∧y < 2)∧l=[(wr8 7,wr8 a),(wr8 21,wr8 18),(wr8 10,wr8 y),(wr8 8,wr8 0)]
def pkG (l:List (Int × Int)):Prop:=∃ x:Int,∃ k:Int,∃ s:Int,∃ z:Int,(0≤x∧x < 2)∧(0≤k∧k < 5)∧(s=7∨s=0)∧(0≤z∧z < 2)∧l=[(wr8 0,wr8 x),(wr8 7,wr8 k),(wr8 s,wr8 z),(wr8 21,wr8 9),(wr8 8,wr8 0)]
def pkH (l:List (Int × Int)):Prop:=∃ x:Int,∃ k:Int,(0≤x∧x < 2)∧(0≤k∧k < 4)∧l=[(wr8 0,wr8 x),(wr8 7,wr8 k),(wr8 21,wr8 8),(wr8 21,wr8 10)]
def pkI (l:List (Int × Int)):Prop:=l=[(wr8 18,wr8 12),(wr8 21,wr8 11),(wr8 8,wr8 0)]
def pkJ (l:List (Int × Int)):Prop:=∃ a:Int,(0≤a∧a < 20)∧l=[(wr8 18,wr8 13),(wr8 7,wr8 a),(wr8 21,wr8 12),(wr8 8,wr8 0)]
def pkK (l:List (Int × Int)):Prop:=∃ k:Int,(0≤k∧k < 4)∧l=[(wr8 18,wr8 12),(wr8 7,wr8 k),(wr8 21,wr8 13),(wr8 8,wr8 0)]
def pkL (l:List (Int × Int)):Prop:=∃ k:Int,∃ x:Int,(0≤k∧k < 4)∧(0≤x∧x < 2)∧l=[(wr8 7,wr8 k),(wr8 21,wr8 (15+x)),(wr8 8,wr8 0)]
def pkM (l:List (Int × Int)):Prop:=∃ s:Int,(s=14∨s=21∨s=23)∧l=[(wr8 21,wr8 s),(wr8 8,wr8 0)]
def pkN (l:List (Int × Int)):Prop:=∃ x:Int,∃ a:Int,(0≤x∧x < 2)∧(0≤a∧a < 20)∧l=[(wr8 (5+x),wr8 0),(wr8 17,wr8 1),(wr8 7,wr8 a),(wr8 8,wr8 0)]
def pkO (l:List (Int × Int)):Prop:=∃ k:Int,(0≤k∧k < 9)∧l=[(wr8 0,wr8 0),(wr8 0,wr8 1),(wr8 7,wr8 k),(wr8 21,wr8 19),(wr8 8,wr8 0)]
def pkP (l:List (Int × Int)):Prop:=∃ s:Int,(s=20∨s=5)∧l=[(wr8 0,wr8 0),(wr8 0,wr8 1),(wr8 21,wr8 s),(wr8 8,wr8 0)]
def pkQ (l:List (Int × Int)):Prop:=∃ x:Int,∃ y:Int,(0≤x∧x < 3)∧(0≤y∧y < 3)∧l=[(wr8 1,wr8 x),(wr8 11,wr8 y),(wr8 8,wr8 0)]
def pkR (l:List (Int × Int)):Prop:=∃ x:Int,∃ y:Int,(0≤x∧x < 2)∧(0≤y∧y < 4)∧l=[(wr8 0,wr8 x),(wr8 11,wr8 y)]
def pieceOk (l:List (Int × Int)):Prop:=pkA l∨pkB l∨pkC l∨pkD l∨pkE l∨pkF l∨pkG l∨pkH l∨pkI l∨pkJ l∨pkK l∨pkL l∨pkM l∨pkN l∨pkO l∨pkP l∨pkQ l∨pkR l
theorem pk_A {l:List (Int × Int)} (h:pkA l):pieceOk l:=Or.inl h
theorem pk_B {l:List (Int × Int)} (h:pkB l):pieceOk l:=Or.inr (Or.inl h)
theorem pk_C {l:List (Int × Int)} (h:pkC l):pieceOk l:=Or.inr (Or.inr (Or.inl h))
theorem pk_D {l:List (Int × Int)} (h:pkD l):pieceOk l:=Or.inr (Or.inr (Or.inr (Or.inl h)))
theorem pk_E {l:List (Int × Int)} (h:pkE l):pieceOk l:=Or.inr (Or.inr (Or.inr (Or.inr (Or.inl h))))
theorem pk_F {l:List (Int × Int)} (h:pkF l):pieceOk l:=Or.inr (Or.inr (Or.inr (Or.inr (Or.inr (Or.inl h)))))
theorem pk_G {l:List (Int × Int)} (h:pkG l):pieceOk l:=Or.inr (Or.inr (Or.inr (Or.inr (Or.inr (Or.inr (Or.inl h))))))
theorem pk_H {l:List (Int × Int)} (h:pkH l):pieceOk l:=Or.inr (Or.inr (Or.inr (Or.inr (Or.inr (Or.inr (Or.inr (Or.inl h)))))))
theorem pk_I {l:List (Int × Int)} (h:pkI l):pieceOk l:=Or.inr (Or.inr (Or.inr (Or.inr (Or.inr (Or.inr (Or.inr (Or.inr (Or.inl h))))))))
theorem pk_J {l:List (Int × Int)} (h:pkJ l):pieceOk l:=Or.inr (Or.inr (Or.inr (Or.inr (Or.inr (Or.inr (Or.inr (Or.inr (Or.inr (Or.inl h)))))))))
theorem pk_K {l:List (Int × Int)} (h:pkK l):pieceOk l:=Or.inr (Or.inr (Or.inr (Or.inr (Or.inr (Or.inr (Or.inr (Or.inr (Or.inr (Or.inr (Or.inl h))))))))))
theorem pk_L {l:List (Int × Int)} (h:pkL l):pieceOk l:=Or.inr (Or.inr (Or.inr (Or.inr (Or.inr (Or.inr (Or.inr (Or.inr (Or.inr (Or.inr (Or.inr (Or.inl h)))))))))))
theorem pk_M {l:List (Int × Int)} (h:pkM l):pieceOk l:=Or.inr (Or.inr (Or.inr (Or.inr (Or.inr (Or.inr (Or.inr (Or.inr (Or.inr (Or.inr (Or.inr (Or.inr (Or.inl h))))))))))))
theorem pk_N {l:List (Int × Int)} (h:pkN l):pieceOk l:=Or.inr (Or.inr (Or.inr (Or.inr (Or.inr (Or.inr (Or.inr (Or.inr (Or.inr (Or.inr (Or.inr (Or.inr (Or.inr (Or.inl h)))))))))))))
theorem pk_O {l:List (Int × Int)} (h:pkO l):pieceOk l:=Or.inr (Or.inr (Or.inr (Or.inr (Or.inr (Or.inr (Or.inr (Or.inr (Or.inr (Or.inr (Or.inr (Or.inr (Or.inr (Or.inr (Or.inl h))))))))))))))
theorem pk_P {l:List (Int × Int)} (h:pkP l):pieceOk l:=Or.inr (Or.inr (Or.inr (Or.inr (Or.inr (Or.inr (Or.inr (Or.inr (Or.inr (Or.inr (Or.inr (Or.inr (Or.inr (Or.inr (Or.inr (Or.inl h)))))))))))))))
theorem pk_Q {l:List (Int × Int)} (h:pkQ l):pieceOk l:=Or.inr (Or.inr (Or.inr (Or.inr (Or.inr (Or.inr (Or.inr (Or.inr (Or.inr (Or.inr (Or.inr (Or.inr (Or.inr (Or.inr (Or.inr (Or.inr (Or.inl h))))))))))))))))
theorem pk_R {l:List (Int × Int)} (h:pkR l):pieceOk l:=Or.inr (Or.inr (Or.inr (Or.inr (Or.inr (Or.inr (Or.inr (Or.inr (Or.inr (Or.inr (Or.inr (Or.inr (Or.inr (Or.inr (Or.inr (Or.inr (Or.inr (h)))))))))))))))))
structure PieceC:Prop where
 c:∀ {w0 w wr:World} {p n:Nat} {ad:Option Addr} {v0 v:Value} {C:List Int} (h:Pc w0 w wr p n ad v0 v C) (hl:C.length≤90000),
  Calls Tryz.prog 59 #[.pointer (some ⟨p,0,none⟩),v] wr fun e w'=>∃ v' l,e=.returned v'∧pieceOk l∧Pc w0 w w' p n ad v0 v' (C++flat l)
end Wd
end Go.Proofs.YteiejjmhmmkdhaaGreat
