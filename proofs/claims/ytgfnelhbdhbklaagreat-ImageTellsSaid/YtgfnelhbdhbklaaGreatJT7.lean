/- Texts joined: ILS, UOA, UOS, UOT, IST, ILT, ILU. -/
import Derived.Test.YtgfnelhbdhbklaaGreatJT1
import Derived.Test.YtgfnelhbdhbklaaGreatJT4
import Derived.Test.YtgfnelhbdhbklaaGreatJT5
import Derived.Test.YtgfnelhbdhbklaaGreatJT6
import Derived.Deep.DeepCutAuto
import Derived.Deep.CutBlock
import Derived.Maps.AppendAt
import Derived.Deep.AppendLies
namespace Go.Proofs.YtgfnelhbdhbklaaGreat
open Go.RowKit
set_option linter.unusedVariables false
set_option maxRecDepth 20000
namespace Wd
def acc8 (L:List Int):Int:=L.foldl (fun w c=>w*256+c) 0
theorem acc8_next {L:List Int} {k:Nat} {x:Int} (h:L[k]?=some x):acc8 (L.take (k+1))=acc8 (L.take k)*256+x:=by
 unfold acc8;rw[List.take_add_one,h];simp
theorem foldl8:∀ (L:List Int) (z:Int) (m:Int),Bd8 L→0≤z→z < m→0≤L.foldl (fun w c=>w*256+c) z∧L.foldl (fun w c=>w*256+c) z < m*256 ^ L.length
 | [],z,m,_,h0,h1=>by simp;omega
 | x :: L,z,m,hb,h0,h1=>by
  have hx:=hb.head;have:=foldl8 L (z*256+x) (m*256) hb.tail (by omega) (by omega);rw[List.foldl_cons,List.length_cons,Int.pow_succ,Int.mul_comm (256 ^ L.length),← Int.mul_assoc];exact this
theorem acc8_bd {L:List Int} (h:Bd8 L) {k:Nat} (hk:k < 4):0≤acc8 (L.take k)∧acc8 (L.take k) < 16777216:=by
 have:=foldl8 (L.take k) 0 1 (h.take k) (by omega) (by omega);have hl:(L.take k).length≤3:=by rw[List.length_take];omega
 unfold acc8;refine⟨this.1,Int.lt_of_lt_of_le this.2 ?_⟩;rcases (show (L.take k).length=0∨(L.take k).length=1∨(L.take k).length=2∨(L.take k).length=3 by omega) with e | e | e | e <;> rw[e] <;> decide
theorem numL_cut (s:Rd8):numL s=(i32 (acc8 (cutR 4 s).1),(cutR 4 s).2)∧((cutR 4 s).1.length=0∨(cutR 4 s).1.length=4):=by
 by_cases q:s.1.length < 4
 ·rw[numL_no q,cutR_no (by omega)];exact⟨rfl,Or.inl rfl⟩
 ·obtain⟨a,b,c,d,L,e,e2⟩:=numL_yes q;have e3:cutR 4 s=(s.1.take 4,(s.1.drop 4,s.2)):=cutR_yes (n:=4) (by omega);rw[e2,e3,e];refine⟨?_,Or.inr (by simp)⟩;have:acc8 (List.take 4 (a :: b :: c :: d :: L))=a*16777216+b*65536+c*256+d:=by
   show ((((0*256+a)*256+b)*256+c)*256+d:Int)=_;omega
  rw[this];rfl
theorem acc8_step {z c:Int} (h0:0≤z) (h1:z < 16777216) (hc:0≤c∧c≤255):bits .or .u32 (z*256 % 4294967296) c=z*256+c:=by
 obtain⟨z,rfl⟩:∃ k:Nat,z=k:=⟨z.toNat,by omega⟩
 obtain⟨c,rfl⟩:∃ k:Nat,c=k:=⟨c.toNat,by omega⟩
 have e1:((z:Int)*256) % 4294967296=((z*256:Nat):Int):=by omega
 rw[e1,bits_or32 _ _ (by omega) (by omega)];have:=Nat.two_pow_add_eq_or_of_lt (i:=8) (b:=c) (by omega) z;rw[show 2 ^ 8*z=z*256 by omega] at this;rw[← this];omega
set_option maxHeartbeats 16000000 in
theorem number_c {w y:World} {p:Nat} {v:Value} {s:Rd8} (h:RI w y p v s) :
  Calls Tryz.prog 77 #[.pointer (some ⟨p,0,none⟩)] y fun e y'=>e=.returned (.int .i64 (numL s).1)∧(∃ v',RI w y' p v' (numL s).2)∧Cg (fun k=>k=p) y y':=by
 have hmx':maxLen≤9223372036854775807:=by decide
 obtain⟨hN,hL⟩:=numL_cut s;have P1:=HD (take_i h 4 (by omega) (by omega));have hB:=((cutR_all 4 (by omega) s).2.2.1 h.bd).2;rw[hN];generalize cutR 4 s=r at hL P1 hB ⊢;obtain⟨T,s1⟩:=r;simp only at hL P1 hB ⊢;have hL':=HD hL;have hB':=HD hB;clear hN hB hL h;go_enter Tryz.func77,Tryz.ntmps77
 go_wp2_with fail
 with_reducible refine P1.out.mono ?_
 rintro e1 y1 ⟨⟨t,rfl,hf,ht⟩,⟨v1,hR⟩,hc⟩;obtain⟨ad,cap,rfl,hcap,hmx⟩:=ht.form;obtain⟨n,hn⟩:∃ n,n=T.length:=⟨_,rfl⟩
 rw[← hn] at ht hcap ⊢;have hn4:n≤4:=by rw[hn];rcases hL'.out with e | e <;> omega
 replace hn:=HD hn;replace hR:=HD hR;replace hc:=HD hc;replace ht:=HD ht;clear P1 hf hmx
 go_wp2
 have hst:Hid ((0:Int)=acc8 (T.take 0)):=HD rfl
 go_loopw [3,9] (fun i3 i9 wr=>∃ (k:Nat) (z:Int),k≤n∧i9=.int .i64 k∧i3=.int .u32 z∧Hid (z=acc8 (T.take k))∧Hid (RI w wr p v1 s1)∧Hid (Cg (fun k=>k=p) y wr)) (fun _ i9 _=>n - (intOf i9).toNat)
 case atStart=>exact⟨0,0,by omega,rfl,rfl,hst,hR,hc⟩
 case round =>
  clear hst hR hc;obtain⟨k,z,hk,rfl,rfl,hz,hR,hc⟩:=hrel;by_cases hlt:k < n
  ·have d1:decide ((k:Int) < (n:Int))=true:=by simp;omega
   have p0:(0:Int)≤(k:Int):=by omega
   have p1:(k:Int) < (n:Int):=by omega
   obtain⟨x,hx⟩:∃ x,T[k]?=some x:=⟨T[k]'(by have:=hn.out;omega),by simp⟩
   obtain⟨x8,g,off,rfl,c0⟩:=(ht.out.up hR.out.bel).at hx;obtain⟨b0,b1⟩:=acc8_bd hB'.out (show k < 4 by omega);rw[← hz.out] at b0 b1;have hst:=acc8_step b0 b1 x8;have hz2:Hid (z*256+x=acc8 (T.take (k+1))):=HD (by rw[acc8_next hx,← hz.out]);have hst2:=HD hst;clear hst hx hz b0 b1
   go_wp2
   go_roundw
   case rel =>
    refine⟨k+1,z*256+x,by omega,by go_num,?_,hz2,hR,hc⟩;exact congrArg (Value.int .u32) hst2.out
   case measure=>simp[intOf];omega
  ·have d1:decide ((k:Int) < (n:Int))=false:=by simp;omega
   have hfin:Hid (wrap64 (wrap32 z)=i32 (acc8 T)):=HD (by
    have eW:wrap64 (wrap32 z)=IntKind.i64.wrap (IntKind.i32.wrap z):=by
     rw[IntKind.wrap_i32,IntKind.wrap_i64];unfold wrap64 wrap32;omega
    rw[eW];have e:=hz.out;rw[show k=T.length by have:=hn.out;omega,List.take_length] at e;rw[e];have:=foldl8 T 0 1 hB'.out (by omega) (by omega);refine wrap_num _ ⟨this.1,Int.lt_of_lt_of_le this.2 ?_⟩;rcases hL'.out with e | e <;> rw[e] <;> decide)
   clear hz
   go_wp2
   go_ret;exact⟨congrArg (fun b=>Ending.returned (Value.int .i64 b)) hfin.out,⟨_,hR.out⟩,hc.out⟩
set_option maxHeartbeats 16000000 in
theorem length_c {w y:World} {p:Nat} {v:Value} {s:Rd8} (h:RI w y p v s) :
  Calls Tryz.prog 96 #[.pointer (some ⟨p,0,none⟩)] y fun e y'=>e=.returned (.int .i64 (lenL s).1)∧(∃ v',RI w y' p v' (lenL s).2)∧Cg (fun k=>k=p) y y':=by
 have P1:=number_c h;have hl:lenL s=if (numL s).1 < 0 then (0,((numL s).2.1,true)) else numL s:=rfl
 rw[hl];clear hl h;generalize numL s=r at P1 ⊢;obtain⟨x,s1⟩:=r;simp only at P1 ⊢;replace P1:=HD P1;by_cases hx:x < 0
 ·rw[if_pos hx];have d0:decide (x < 0)=true:=by simpa using hx
  clear hx;go_enter Tryz.func96,Tryz.ntmps96
  go_upto_region 2 with (first | (go_at_call 77;((with_reducible refine P1.out.mono ?_);rintro e1 y1 ⟨rfl,⟨v1,hR⟩,hc⟩)))
  clear P1;replace hR:=HD hR;replace hc:=HD hc;have c1:=hR.out.c1;have z1:=hR.out.z 1
  go_wp2
  go_ret;exact⟨rfl,⟨_,(hR.out.set1 true).1⟩,hc.out.trans (hR.out.set1 true).2⟩
 ·rw[if_neg hx];have d0:decide (x < 0)=false:=by simpa using hx
  clear hx;go_enter Tryz.func96,Tryz.ntmps96
  go_upto_region 2 with (first | (go_at_call 77;((with_reducible refine P1.out.mono ?_);rintro e1 y1 ⟨rfl,⟨v1,hR⟩,hc⟩)))
  clear P1;replace hR:=HD hR;replace hc:=HD hc
  go_wp2
  go_ret;exact⟨rfl,⟨_,hR.out⟩,hc.out⟩
set_option maxHeartbeats 16000000 in
theorem itext_c {w y:World} {p:Nat} {v:Value} {s:Rd8} (h:RI w y p v s) :
  Calls Tryz.prog 70 #[.pointer (some ⟨p,0,none⟩)] y fun e y'=>e=.returned (.string (nmL s).1)∧(∃ v',RI w y' p v' (nmL s).2)∧Cg (fun k=>k=p) y y':=by
 have P1:=length_c h;have hl:nmL s=(textOf (cutR (lenL s).1 (lenL s).2).1,(cutR (lenL s).1 (lenL s).2).2):=rfl;have hp:=lenL_pos s;have hr:=lenL_R h.bd;rw[hl];clear hl h;generalize lenL s=r at P1 hp hr ⊢;obtain⟨x,s1⟩:=r;simp only at P1 hp hr ⊢;obtain⟨k,rfl⟩:∃ k:Nat,x=k:=⟨x.toNat,by omega⟩
 replace P1:=HD P1;clear hp;go_enter Tryz.func70,Tryz.ntmps70
 go_wp2_with fail
 with_reducible refine P1.out.mono ?_
 rintro e1 y1 ⟨rfl,⟨v1,hR⟩,hc⟩;have P2:=HD (take_c hR k (by omega));replace hc:=HD hc;clear P1 hR
 go_wp2_with fail
 with_reducible refine P2.out.mono ?_
 rintro e2 y2 ⟨⟨t,rfl,hf,ht⟩,⟨v2,hR⟩,hc2⟩;have PT:=by_text (ht.up hR.bel);replace hR:=HD hR;replace hc:=HD (hc.out.trans hc2);clear hc2 P2 hf;replace ht:=HD ht
 go_wp2
 go_ret;exact⟨rfl,⟨_,hR.out⟩,hc.out⟩
def Rd (w:World) (u:Value) (m:Nat) (news:List Value):Prop:=(∃ c,u=.slice none 0 c∧m=0∧news=[])∨∃ ad c,u=.slice (some ad) m c∧∀ j x,news[j]?=some x→w.cell? (ad.add j)=some x
theorem Rd.up {w w1:World} {u:Value} {m:Nat} {news:List Value} (h:Rd w u m news) (b:Below w.heap.size w w1):Rd w1 u m news:=by
 rcases h with h | ⟨ad,c,e,hc⟩
 ·exact Or.inl h
 ·exact Or.inr ⟨ad,c,e,fun j x hx=>cell_up b (hc j x hx)⟩
theorem run_app_none {P:Program} (w:World) (base:Nat) (t ty e:TypeId) (i:TypeInfo) (size n c:Nat) (ht:P.underlying t=some (.slice e)) (hi:P.info? e=some i) (v:Value) (xs:List Value) (hown:w.ownsRow base e size v n xs) :
  (Builtin.append_ #[t,t] ty #[v,.slice none 0 c]).run P w=.ok v w:=by
 rcases hown.2 with ⟨rfl,rfl⟩ | ⟨g,cap,cur,rfl,_,_,hle,_⟩
 ·simp[Builtin.append_,run_underlying ht,sizeOf,typeInfo,hi,Builtin.lenOf,Builtin.firstCells]
 ·simp[Builtin.append_,run_underlying ht,sizeOf,typeInfo,hi,Builtin.lenOf,Builtin.firstCells,hle,storeCells]
theorem run_app_any {P:Program} (w:World) (base:Nat) (t ty e:TypeId) (i:TypeInfo) (z:Value) (size bytes:Nat) (ht:P.underlying t=some (.slice e)) (hi:P.info? e=some i) (hz:i.zero=some z)
  (hsize:i.size=size) (hby:i.bytes=bytes) (hzs:z.cells.size=size) (hsz:0 < size)
  (v u:Value) (n m:Nat) (xs news:List Value) (hown:w.ownsRow base e size v n xs) (hu:Rd w u m news) (hl:news.length=m*size) (h1:∀ u∈news,u.oneCell'=true)
  (h63:n+m≤maxLen) (hbytes:(n+m)*bytes≤140737488355328) (hbase:base≤w.heap.size) :
  ∃ v' w',(Builtin.append_ #[t,t] ty #[v,u]).run P w=.ok v' w'∧w'.ownsRow base e size v' (n+m) (xs++news)∧w.grownBy w' v.ownBlock∧(v'.ownBlock=v.ownBlock∨v'.ownBlock=some w.heap.size):=by
 rcases hu with ⟨c,rfl,rfl,rfl⟩ | ⟨ad,c,rfl,hc⟩
 ·exact⟨v,w,run_app_none w base t ty e i size n c ht hi v xs hown,by simpa using hown,grown_refl _ _,Or.inl rfl⟩
 ·obtain⟨v',w',hr,h2,h3,_,h5⟩:=run_append_own_at (P:=P) w base t ty e i z size bytes ht hi hz hsize hby hzs hsz v n xs hown ad m c news hl hc h1 h63 hbytes hbase;exact⟨v',w',hr,h2,h3,h5⟩
theorem wpList_app_any {P:Program} {w:World} {ops:Array Oper} {rest:List Oper} {o:Oper} {a:Act} {Q:Exit→Act→World→Prop} (hgd:o.guard=none) (s x:Operand) (t:TypeId)
  (ho:o.op=.call { callee:=.builtin .append,args:=#[s,x],argTypes:=#[t,t] })
  (base:Nat) (e:TypeId) (i:TypeInfo) (z:Value) (size bytes:Nat) (ht:P.underlying t=some (.slice e)) (hi:P.info? e=some i) (hz:i.zero=some z)
  (hsize:i.size=size) (hby:i.bytes=bytes) (hzs:z.cells.size=size) (hsz:0 < size)
  (v u:Value) (n m:Nat) (xs news:List Value) (hs:a.eval s=v) (hx:a.eval x=u) (hown:w.ownsRow base e size v n xs) (hu:Rd w u m news) (hl:news.length=m*size) (h1:∀ u∈news,u.oneCell'=true)
  (h63:n+m≤maxLen) (hbytes:(n+m)*bytes≤140737488355328) (hbase:base≤w.heap.size)
  (h:∀ v' w',w'.ownsRow base e size v' (n+m) (xs++news)→w.grownBy w' v.ownBlock→(v'.ownBlock=v.ownBlock∨v'.ownBlock=some w.heap.size)→wpList P ops Q rest (a.put o.dst v') w'):wpList P ops Q (o :: rest) a w:=by
 refine wpList_plain hgd fun K hK=>?_;obtain⟨v',w',hr,h2,h3,h5⟩:=run_app_any (P:=P) w base t o.type e i z size bytes ht hi hz hsize hby hzs hsz v u n m xs news hown hu hl h1 h63 hbytes hbase;unfold Oper.wp execOp;simp only[ho,resolve,invoke,builtin,Sem.run_bind,Sem.run_pure,Result.andThen_ok,List.map_toArray,List.map_cons,List.map_nil,hs,hx,hr];exact hK _ _ (h v' w' h2 h3 h5)
theorem ClV.rd {w:World} {v:Value} {L:List ClassA} (h:ClV w v L):∃ T:List (ClassA × Value),T.map (·.1)=L∧(∀ x∈T,In64 x.1.super∧In64 x.1.fields∧PrV w x.2 x.1.binds)∧Rd w v L.length (cl4s T):=by
 obtain⟨ad,cap,rfl,hc,hm⟩:=h.form;obtain⟨T,e,hT,hcell⟩:=h.cells;refine⟨T,e,hT,?_⟩;have hl:T.length=L.length:=by rw[← e];simp
 cases ad with
 | none =>
  left;have hz:cl4s T=[]:=by
   cases hq:cl4s T with
   | nil=>rfl
   | cons x X =>
    obtain⟨g,off,e,_⟩:=hcell 0 x (by rw[hq];rfl);cases e
  have hz0:T.length=0:=by
   have:=cl4s_len T;rw[hz] at this;simp at this;omega
  exact⟨cap,by rw[← hl,hz0],by rw[← hl,hz0],hz⟩
 | some ad =>
  right;refine⟨ad,cap,rfl,fun j x hx=>?_⟩;obtain⟨g,off,e,hc⟩:=hcell j x hx;cases e;rw[Addr.add_lit];exact hc
theorem PrV.cells {w:World} {ad:Option Addr} {n cap:Nat} {L:List (Int × Int)} (h:PrV w (.slice ad n cap) L):∀ k u,(pr2 L)[k]?=some u→∃ g off,ad=some ⟨g,off,none⟩∧w.cell? ⟨g,off+k,none⟩=some u:=by
 intro k u hk;obtain⟨q,r,hr,rfl⟩:∃ q r,r < 2∧k=q*2+r:=⟨k / 2,k % 2,by omega,by omega⟩
 have hq:q < L.length:=by have:=(List.getElem?_eq_some_iff.1 hk).1;rw[pr2_len] at this;omega
 obtain⟨x,hx⟩:∃ x,L[q]?=some x:=⟨L[q],by simp⟩
 obtain⟨_,_,g,off,e,c0,c1⟩:=h.at hx;obtain⟨p0,p1⟩:=pr2_get L q x hx;refine⟨g,off,e,?_⟩;rcases (show r=0∨r=1 by omega) with rfl | rfl
 ·rw[Nat.add_zero] at hk ⊢;rw[p0] at hk;cases hk;exact c0
 ·rw[p1] at hk;cases hk;exact c1
theorem PrV.rd {w:World} {v:Value} {L:List (Int × Int)} (h:PrV w v L):Rd w v L.length (pr2 L):=by
 obtain⟨ad,cap,rfl,hc,hm⟩:=h.form;have hcell:=h.cells;cases ad with
 | none =>
  left;have hz:L.length=0:=by
   cases L with
   | nil=>rfl
   | cons x X =>
    obtain⟨g,off,e,_⟩:=hcell 0 (.int .i64 x.1) (by simp[pr2]);cases e
  exact⟨cap,by rw[hz],hz,by rw[List.length_eq_zero_iff.1 hz];rfl⟩
 | some ad =>
  right;refine⟨ad,cap,rfl,fun j x hx=>?_⟩;obtain⟨g,off,e,hc⟩:=hcell j x hx;cases e;rw[Addr.add_lit];exact hc
theorem PrV.b64 {w:World} {v:Value} {L:List (Int × Int)} (h:PrV w v L):∀ x∈L,In64 x.1∧In64 x.2:=by
 intro x hx;obtain⟨ad,cap,rfl,_⟩:=h.form;obtain⟨k,hk⟩:=List.getElem?_of_mem hx;obtain⟨a,b,_⟩:=h.at hk;exact⟨a,b⟩
theorem made_none (w:World) (T:TypeId) (sz base:Nat) (hb:base≤w.heap.size):(w.alloc (.cells #[] T)).ownsRow base T sz (.slice (some ⟨w.heap.size,0,none⟩) 0 0) 0 []:=World.ownsRow_made w #[] 0 hb (by decide) (by simp)
theorem PrV.nil (w:World):PrV w (.slice none 0 0) []:=⟨none,0,rfl,by simp,by decide,fun k x hx=>by simp at hx⟩
theorem ByV.nil (w:World):ByV w (.slice none 0 0) []:=⟨none,0,rfl,by simp,by decide,fun k x hx=>by simp at hx⟩
theorem ByV.rd {w:World} {v:Value} {L:List Int} (h:ByV w v L):Rd w v L.length (bys L):=by
 obtain⟨ad,cap,rfl,hc,hm⟩:=h.form;cases ad with
 | none =>
  left;have hz:L=[]:=by
   cases L with
   | nil=>rfl
   | cons x X =>
    obtain⟨_,g,off,e,_⟩:=h.at (k:=0) (x:=x) rfl;cases e
  subst hz;exact⟨cap,rfl,rfl,rfl⟩
 | some ad =>
  right;refine⟨ad,cap,rfl,fun j x hx=>?_⟩;obtain⟨y,hy,rfl⟩:∃ y,L[j]?=some y∧.int .u8 y=x:=by simpa [bys] using hx
  obtain⟨_,g,off,e,c0⟩:=h.at hy;cases e;rw[Addr.add_lit];exact c0
theorem ByV.b8 {w:World} {v:Value} {L:List Int} (h:ByV w v L):∀ x∈L,0≤x∧x≤255:=by
 intro x hx;obtain⟨ad,cap,rfl,_⟩:=h.form;obtain⟨k,hk⟩:=List.getElem?_of_mem hx;exact (h.at hk).1
theorem rd_cells {w:World} {ad:Option Addr} {n cap size:Nat} {xs:List Value} (hl:xs.length=n*size) (hs:0 < size) (hc:∀ k u,xs[k]?=some u→∃ g off,ad=some ⟨g,off,none⟩∧w.cell? ⟨g,off+k,none⟩=some u):Rd w (.slice ad n cap) n xs:=by
 cases ad with
 | none =>
  left;have hz:xs=[]:=by
   cases xs with
   | nil=>rfl
   | cons x X=>obtain⟨g,off,e,_⟩:=hc 0 x rfl;cases e
  subst hz;have hn:n=0:=by
   rcases Nat.eq_zero_or_pos n with h | h
   ·exact h
   ·have:=Nat.mul_pos h hs;simp at hl;omega
  exact⟨cap,by rw[hn],hn,rfl⟩
 | some ad =>
  right;refine⟨ad,cap,rfl,fun j x hx=>?_⟩;obtain⟨g,off,e,h⟩:=hc j x hx;cases e;rw[Addr.add_lit];exact h
theorem pick_list {α:Type} {R:Nat→α→Prop}:∀ n,(∀ k,k < n→∃ x,R k x)→∃ L:List α,L.length=n∧∀ (k:Nat) x,L[k]?=some x→R k x
 | 0,_=>⟨[],rfl,fun k x h=>by simp at h⟩
 | n+1,h=>by
  obtain⟨L,hl,hL⟩:=pick_list n (fun k hk=>h k (by omega));obtain⟨x,hx⟩:=h n (by omega);refine⟨L++[x],by simp[hl],fun k y hy=>?_⟩;by_cases hk:k < n
  ·rw[List.getElem?_append_left (by omega)] at hy;exact hL k y hy
  ·rw[List.getElem?_append_right (by omega)] at hy;have h0:=(List.getElem?_eq_some_iff.1 hy).1;simp at h0;have e:k=n:=by omega
   subst e;rw[hl,Nat.sub_self] at hy;simp at hy;subst hy;exact hx
theorem strs_len (L:List ByteArray):(strs L).length=L.length:=by simp[strs]
theorem strs_one (L:List ByteArray):∀ u∈strs L,u.oneCell'=true:=by
 intro u hu;obtain⟨x,_,rfl⟩:∃ x,x∈L∧Value.string x=u:=by simpa [strs] using hu
 rfl
theorem NmV.rd {w:World} {v:Value} {L:List ByteArray} (h:NmV w v L):Rd w v L.length (strs L):=by
 obtain⟨ad,cap,rfl,_,_,h3⟩:=h.ex;refine rd_cells (size:=1) (by simp[strs]) (by decide) (fun k u hk=>?_);obtain⟨x,hx,rfl⟩:∃ x,L[k]?=some x∧Value.string x=u:=by simpa [strs] using hk
 exact h3 k x hx
theorem MtV.rd {w:World} {v:Value} {L:List MethA} (h:MtV w v L):∃ M:List (MethA × Value × Value),M.map (·.1)=L∧(∀ x∈M,In64 x.1.args∧In64 x.1.temps∧PrV w x.2.1 x.1.lits∧ByV w x.2.2 x.1.code)∧Rd w v L.length (mt4s M):=by
 obtain⟨ad,cap,rfl,_,_,h3⟩:=h.ex;obtain⟨M,hl,hM⟩:=pick_list (R:=fun (k:Nat) (x:MethA × Value × Value)=>L[k]?=some x.1∧In64 x.1.args∧In64 x.1.temps∧(∃ g off,ad=some ⟨g,off,none⟩∧w.cell? ⟨g,off+k*4,none⟩=some (.int .i64 x.1.args)∧w.cell? ⟨g,off+k*4+1,none⟩=some (.int .i64 x.1.temps)∧w.cell? ⟨g,off+k*4+2,none⟩=some x.2.1∧w.cell? ⟨g,off+k*4+3,none⟩=some x.2.2)∧PrV w x.2.1 x.1.lits∧ByV w x.2.2 x.1.code) L.length (fun k hk=>by
  obtain⟨x,hx⟩:∃ x,L[k]?=some x:=⟨L[k],by simp⟩
  obtain⟨i1,i2,g,off,lv,cv,e,c0,c1,c2,c3,p,q⟩:=h3 k x hx;exact⟨(x,lv,cv),hx,i1,i2,⟨g,off,e,c0,c1,c2,c3⟩,p,q⟩)
 refine⟨M,?_,fun x hx=>?_,rd_cells (size:=4) (by rw[mt4s_len,hl]) (by decide) (fun k u hk=>?_)⟩
 ·apply List.ext_getElem?;intro k;rw[List.getElem?_map];cases hx:M[k]? with
  | none =>
   have:L.length≤k:=by rw[← hl];exact List.getElem?_eq_none_iff.1 hx
   rw[List.getElem?_eq_none this];rfl
  | some x=>exact (hM k x hx).1.symm
 ·obtain⟨k,hk⟩:=List.getElem?_of_mem hx;obtain⟨_,i1,i2,_,p,q⟩:=hM k x hk;exact⟨i1,i2,p,q⟩
 ·obtain⟨q,r,hr,rfl⟩:∃ q r,r < 4∧k=q*4+r:=⟨k / 4,k % 4,by omega,by omega⟩
  have hq:q < M.length:=by have:=(List.getElem?_eq_some_iff.1 hk).1;rw[mt4s_len] at this;omega
  obtain⟨x,hx⟩:∃ x,M[q]?=some x:=⟨M[q],by simp⟩
  obtain⟨_,_,_,⟨g,off,e,c0,c1,c2,c3⟩,_⟩:=hM q x hx;obtain⟨p0,p1,p2,p3⟩:=mt4s_get M q x hx;refine⟨g,off,e,?_⟩;rcases (show r=0∨r=1∨r=2∨r=3 by omega) with rfl | rfl | rfl | rfl
  ·rw[Nat.add_zero] at hk ⊢;rw[p0] at hk;cases hk;exact c0
  ·rw[p1] at hk;cases hk;exact c1
  ·rw[p2] at hk;cases hk;exact c2
  ·rw[p3] at hk;cases hk;exact c3
theorem ObV.rd {w:World} {v:Value} {L:List ObjA} (h:ObV w v L):∃ M:List (ObjA × Value),M.map (·.1)=L∧(∀ x∈M,In64 x.1.cls∧PrV w x.2 x.1.flds)∧Rd w v L.length (ob2s M):=by
 obtain⟨ad,cap,rfl,_,_,h3⟩:=h.ex;obtain⟨M,hl,hM⟩:=pick_list (R:=fun (k:Nat) (x:ObjA × Value)=>L[k]?=some x.1∧In64 x.1.cls∧(∃ g off,ad=some ⟨g,off,none⟩∧w.cell? ⟨g,off+k*2,none⟩=some (.int .i64 x.1.cls)∧w.cell? ⟨g,off+k*2+1,none⟩=some x.2)∧PrV w x.2 x.1.flds) L.length (fun k hk=>by
  obtain⟨x,hx⟩:∃ x,L[k]?=some x:=⟨L[k],by simp⟩
  obtain⟨i1,g,off,fv,e,c0,c1,p⟩:=h3 k x hx;exact⟨(x,fv),hx,i1,⟨g,off,e,c0,c1⟩,p⟩)
 refine⟨M,?_,fun x hx=>?_,rd_cells (size:=2) (by rw[ob2s_len,hl]) (by decide) (fun k u hk=>?_)⟩
 ·apply List.ext_getElem?;intro k;rw[List.getElem?_map];cases hx:M[k]? with
  | none =>
   have:L.length≤k:=by rw[← hl];exact List.getElem?_eq_none_iff.1 hx
   rw[List.getElem?_eq_none this];rfl
  | some x=>exact (hM k x hx).1.symm
 ·obtain⟨k,hk⟩:=List.getElem?_of_mem hx;obtain⟨_,i1,_,p⟩:=hM k x hk;exact⟨i1,p⟩
 ·obtain⟨q,r,hr,rfl⟩:∃ q r,r < 2∧k=q*2+r:=⟨k / 2,k % 2,by omega,by omega⟩
  have hq:q < M.length:=by have:=(List.getElem?_eq_some_iff.1 hk).1;rw[ob2s_len] at this;omega
  obtain⟨x,hx⟩:∃ x,M[q]?=some x:=⟨M[q],by simp⟩
  obtain⟨_,_,⟨g,off,e,c0,c1⟩,_⟩:=hM q x hx;obtain⟨p0,p1⟩:=ob2s_get M q x hx;refine⟨g,off,e,?_⟩;rcases (show r=0∨r=1 by omega) with rfl | rfl
  ·rw[Nat.add_zero] at hk ⊢;rw[p0] at hk;cases hk;exact c0
  ·rw[p1] at hk;cases hk;exact c1
theorem PrV.far {w w1:World} {v:Value} {L:List (Int × Int)} {F:Nat→Prop} (h:PrV w v L) (c:Cg F w w1) (hF:0 < L.length→∀ k,v.ownBlock=some k→¬ F k):PrV w1 v L:=by
 obtain⟨ad,cap,rfl,h1,h2,h3⟩:=h.ex;refine⟨ad,cap,rfl,h1,h2,fun k x hx=>?_⟩;obtain⟨i1,i2,g,off,e,c0,c1⟩:=h3 k x hx;have hg:¬ F g:=hF (by have:=(List.getElem?_eq_some_iff.1 hx).1;omega) g (by rw[e];rfl);exact⟨i1,i2,g,off,e,(World.cell?_of_block (a:=⟨g,off+k*2,none⟩) (c.block g (World.block_lt_of_cell? w _ c0) hg)).trans c0,(World.cell?_of_block (a:=⟨g,off+k*2+1,none⟩) (c.block g (World.block_lt_of_cell? w _ c1) hg)).trans c1⟩
theorem ByV.far {w w1:World} {v:Value} {L:List Int} {F:Nat→Prop} (h:ByV w v L) (c:Cg F w w1) (hF:0 < L.length→∀ k,v.ownBlock=some k→¬ F k):ByV w1 v L:=by
 obtain⟨ad,cap,rfl,h1,h2,h3⟩:=h.ex;refine⟨ad,cap,rfl,h1,h2,fun k x hx=>?_⟩;obtain⟨i1,g,off,e,c0⟩:=h3 k x hx;have hg:¬ F g:=hF (by have:=(List.getElem?_eq_some_iff.1 hx).1;omega) g (by rw[e];rfl);exact⟨i1,g,off,e,(World.cell?_of_block (a:=⟨g,off+k,none⟩) (c.block g (World.block_lt_of_cell? w _ c0) hg)).trans c0⟩
def StP (s:Nat) (I:Nat→Prop) (w:World) (v:Value) (L:List (Int × Int)):Prop:=∀ w2,Cg (fun k=>s≤k∧¬ I k) w w2→PrV w2 v L
def StB (s:Nat) (I:Nat→Prop) (w:World) (v:Value) (L:List Int):Prop:=∀ w2,Cg (fun k=>s≤k∧¬ I k) w w2→ByV w2 v L
section
variable {s:Nat} {I I':Nat→Prop} {w w1 w2:World} {v:Value} {L:List (Int × Int)} {C:List Int} {F:Nat→Prop}
theorem StP.cg (h:StP s I w v L) (c:Cg F w w1) (hF:∀ k,F k→s≤k∧¬ I k):StP s I w1 v L:=fun w2 c2=>h w2 ((c.mono hF).trans c2)
theorem StB.cg (h:StB s I w v C) (c:Cg F w w1) (hF:∀ k,F k→s≤k∧¬ I k):StB s I w1 v C:=fun w2 c2=>h w2 ((c.mono hF).trans c2)
theorem StP.more (h:StP s I w v L) (hI:∀ k,I k→I' k):StP s I' w v L:=fun w2 c=>h w2 (c.mono (fun k hk=>⟨hk.1,fun hi=>hk.2 (hI k hi)⟩))
theorem StB.more (h:StB s I w v C) (hI:∀ k,I k→I' k):StB s I' w v C:=fun w2 c=>h w2 (c.mono (fun k hk=>⟨hk.1,fun hi=>hk.2 (hI k hi)⟩))
theorem StP.view (h:StP s I w v L):PrV w v L:=h w (Cg.refl _ _)
theorem StB.view (h:StB s I w v C):ByV w v C:=h w (Cg.refl _ _)
theorem below_cg {w0:World} (b:Below w0.heap.size w0 w) (c:Cg F w w2) (hF:∀ k,F k→w0.heap.size≤k):Below w0.heap.size w0 w2 :=
 ⟨c.os.trans b.os,c.tape.trans b.tape,c.output.trans b.output,Nat.le_trans b.size c.size,fun k hk=>(c.block k (Nat.lt_of_lt_of_le hk b.size) (fun hf=>by have:=hF k hf;omega)).trans (b.block k hk)⟩
theorem StP.old {w0:World} (h:PrV w0 v L) (b:Below w0.heap.size w0 w):StP w0.heap.size I w v L:=fun w2 c=>h.up (below_cg b c (fun k hk=>hk.1))
theorem StB.old {w0:World} (h:ByV w0 v C) (b:Below w0.heap.size w0 w):StB w0.heap.size I w v C:=fun w2 c=>h.up (below_cg b c (fun k hk=>hk.1))
theorem StP.new (h:PrV w v L) (hI:∀ k,v.ownBlock=some k→I k):StP s I w v L:=fun w2 c=>h.far c (fun _ k hk hF=>hF.2 (hI k hk))
theorem StB.new (h:ByV w v C) (hI:∀ k,v.ownBlock=some k→I k):StB s I w v C:=fun w2 c=>h.far c (fun _ k hk hF=>hF.2 (hI k hk))
end
structure Zb (b:Nat) (U:UnitA):Prop where
 n:U.names.length≤b
 c1:1≤U.classes.length
 c:U.classes.length≤b
 m1:1≤U.methods.length
 m:U.methods.length≤b
 o1:1≤U.objects.length
 o:U.objects.length≤b
 cb:∀ x∈U.classes,x.binds.length≤b
 mb:∀ x∈U.methods,x.lits.length≤b∧x.code.length≤b
 ob:∀ x∈U.objects,x.flds.length≤b
 ns:∀ x∈U.names,x.size≤140737488355328
 cs:∀ x∈U.classes,x.nm.size≤140737488355328
abbrev uz5:Obj:=.cells #[.slice none 0 0,.slice none 0 0,.slice none 0 0,.slice none 0 0,.int .i64 0] 27 (0,0)
structure OB (w0 wr:World) (x0 x1 x2 x3:Value) (main:Int):Prop where
 c0:wr.cell? ⟨w0.heap.size,0,none⟩=some x0
 c1:wr.cell? ⟨w0.heap.size,1,none⟩=some x1
 c2:wr.cell? ⟨w0.heap.size,2,none⟩=some x2
 c3:wr.cell? ⟨w0.heap.size,3,none⟩=some x3
 c4:wr.cell? ⟨w0.heap.size,4,none⟩=some (.int .i64 main)
 z:∀ j,wr.frozen? ⟨w0.heap.size,j,none⟩=false
 r:wr.heap[w0.heap.size+1]?=some uz5
 bel:Below w0.heap.size w0 wr
section
variable {w0 wr w1:World} {x0 x1 x2 x3 x:Value} {main:Int} {F:Nat→Prop}
theorem OB.sz (h:OB w0 wr x0 x1 x2 x3 main):w0.heap.size+2≤wr.heap.size:=by have:=(Array.getElem?_eq_some_iff.1 h.r).1;omega
theorem OB.cg (h:OB w0 wr x0 x1 x2 x3 main) (c:Cg F wr w1) (hF:∀ k,F k→w0.heap.size+2≤k):OB w0 w1 x0 x1 x2 x3 main:=by
 have hs:=h.sz;have hb:=c.block w0.heap.size (by omega) (fun hf=>by have:=hF _ hf;omega);have hr:=c.block (w0.heap.size+1) (by omega) (fun hf=>by have:=hF _ hf;omega);exact⟨(World.cell?_of_block (a:=⟨w0.heap.size,0,none⟩) hb).trans h.c0,(World.cell?_of_block (a:=⟨w0.heap.size,1,none⟩) hb).trans h.c1,(World.cell?_of_block (a:=⟨w0.heap.size,2,none⟩) hb).trans h.c2,(World.cell?_of_block (a:=⟨w0.heap.size,3,none⟩) hb).trans h.c3,(World.cell?_of_block (a:=⟨w0.heap.size,4,none⟩) hb).trans h.c4,fun j=>(World.frozen?_of_block (a:=⟨w0.heap.size,j,none⟩) hb).trans (h.z j),hr.trans h.r,below_cg h.bel c (fun k hk=>by have:=hF k hk;omega)⟩
theorem OB.up (h:OB w0 wr x0 x1 x2 x3 main) (b:Below wr.heap.size wr w1):OB w0 w1 x0 x1 x2 x3 main:=h.cg (F:=fun _=>False) (Cg.below _ b) (fun _ e=>e.elim)
theorem OB.oth {i j:Nat} {v:Value} (hij:i≠j) (h:wr.cell? ⟨w0.heap.size,j,none⟩=some v):(wr.setCell ⟨w0.heap.size,i,none⟩ x).cell? ⟨w0.heap.size,j,none⟩=some v:=(World.cell?_setCell_other _ _ _ _ (by intro e;injection e with _ h2;omega)).trans h
theorem OB.set0 (h:OB w0 wr x0 x1 x2 x3 main) (x:Value):OB w0 (wr.setCell ⟨w0.heap.size,0,none⟩ x) x x1 x2 x3 main :=
 ⟨World.cell?_setCell_same _ _ _ h.c0,OB.oth (by decide) h.c1,OB.oth (by decide) h.c2,OB.oth (by decide) h.c3,OB.oth (by decide) h.c4,fun j=>(World.frozen?_setCell _ _ _ _).trans (h.z j),(Below.heap_setCell _ _ _ _ (by simp only;omega)).trans h.r,h.bel.setCell (Nat.le_refl _) _⟩
theorem OB.set1 (h:OB w0 wr x0 x1 x2 x3 main) (x:Value):OB w0 (wr.setCell ⟨w0.heap.size,1,none⟩ x) x0 x x2 x3 main :=
 ⟨OB.oth (by decide) h.c0,World.cell?_setCell_same _ _ _ h.c1,OB.oth (by decide) h.c2,OB.oth (by decide) h.c3,OB.oth (by decide) h.c4,fun j=>(World.frozen?_setCell _ _ _ _).trans (h.z j),(Below.heap_setCell _ _ _ _ (by simp only;omega)).trans h.r,h.bel.setCell (Nat.le_refl _) _⟩
theorem OB.set2 (h:OB w0 wr x0 x1 x2 x3 main) (x:Value):OB w0 (wr.setCell ⟨w0.heap.size,2,none⟩ x) x0 x1 x x3 main :=
 ⟨OB.oth (by decide) h.c0,OB.oth (by decide) h.c1,World.cell?_setCell_same _ _ _ h.c2,OB.oth (by decide) h.c3,OB.oth (by decide) h.c4,fun j=>(World.frozen?_setCell _ _ _ _).trans (h.z j),(Below.heap_setCell _ _ _ _ (by simp only;omega)).trans h.r,h.bel.setCell (Nat.le_refl _) _⟩
theorem OB.set3 (h:OB w0 wr x0 x1 x2 x3 main) (x:Value):OB w0 (wr.setCell ⟨w0.heap.size,3,none⟩ x) x0 x1 x2 x main :=
 ⟨OB.oth (by decide) h.c0,OB.oth (by decide) h.c1,OB.oth (by decide) h.c2,World.cell?_setCell_same _ _ _ h.c3,OB.oth (by decide) h.c4,fun j=>(World.frozen?_setCell _ _ _ _).trans (h.z j),(Below.heap_setCell _ _ _ _ (by simp only;omega)).trans h.r,h.bel.setCell (Nat.le_refl _) _⟩
theorem OB.set4 (h:OB w0 wr x0 x1 x2 x3 main) (m:Int):OB w0 (wr.setCell ⟨w0.heap.size,4,none⟩ (.int .i64 m)) x0 x1 x2 x3 m :=
 ⟨OB.oth (by decide) h.c0,OB.oth (by decide) h.c1,OB.oth (by decide) h.c2,OB.oth (by decide) h.c3,World.cell?_setCell_same _ _ _ h.c4,fun j=>(World.frozen?_setCell _ _ _ _).trans (h.z j),(Below.heap_setCell _ _ _ _ (by simp only;omega)).trans h.r,h.bel.setCell (Nat.le_refl _) _⟩
end
structure OU (w0 wr:World) (I:Nat→Prop) (b:Nat) (N:List ByteArray) (T:List (ClassA × Value)) (M:List (MethA × Value × Value)) (O:List (ObjA × Value)) (nv cv mv ov:Value) (main:Int):Prop where
 bx:OB w0 wr nv cv mv ov main
 on:wr.ownsRow (w0.heap.size+2) 9 1 nv N.length (strs N)
 oc:wr.ownsRow (w0.heap.size+2) 60 4 cv T.length (cl4s T)
 om:wr.ownsRow (w0.heap.size+2) 63 4 mv M.length (mt4s M)
 oo:wr.ownsRow (w0.heap.size+2) 55 2 ov O.length (ob2s O)
 ic:∀ x∈T,In64 x.1.super∧In64 x.1.fields∧x.1.binds.length≤b∧StP w0.heap.size I wr x.2 x.1.binds
 im:∀ x∈M,In64 x.1.args∧In64 x.1.temps∧x.1.lits.length≤b∧x.1.code.length≤b∧StP w0.heap.size I wr x.2.1 x.1.lits∧StB w0.heap.size I wr x.2.2 x.1.code
 io:∀ x∈O,In64 x.1.cls∧x.1.flds.length≤b∧StP w0.heap.size I wr x.2 x.1.flds
 ap:(∀ k,nv.ownBlock=some k→cv.ownBlock≠some k∧mv.ownBlock≠some k∧ov.ownBlock≠some k∧¬ I k)∧(∀ k,cv.ownBlock=some k→mv.ownBlock≠some k∧ov.ownBlock≠some k∧¬ I k)∧(∀ k,mv.ownBlock=some k→ov.ownBlock≠some k∧¬ I k)∧(∀ k,ov.ownBlock=some k→¬ I k)
 iI:∀ k,I k→w0.heap.size+2≤k
 ct:1≤T.length∧1≤M.length∧1≤O.length
 cn:N.length≤b∧T.length≤b∧M.length≤b∧O.length≤b
 ns:∀ x∈N,x.size≤140737488355328
 cs:∀ x∈T,x.1.nm.size≤140737488355328
section
variable {w0 wr w1 w2:World} {I I':Nat→Prop} {b b':Nat} {N:List ByteArray} {T:List (ClassA × Value)} {M:List (MethA × Value × Value)} {O:List (ObjA × Value)} {nv cv mv ov:Value} {main:Int} {F:Nat→Prop}
theorem OU.cg (h:OU w0 wr I b N T M O nv cv mv ov main) (c:Cg F wr w1) (hF:∀ k,F k→w0.heap.size+2≤k∧¬ I k∧nv.ownBlock≠some k∧cv.ownBlock≠some k∧mv.ownBlock≠some k∧ov.ownBlock≠some k):OU w0 w1 I b N T M O nv cv mv ov main:=by
 have hi:∀ k,F k→w0.heap.size≤k∧¬ I k:=fun k hk=>⟨by have:=(hF k hk).1;omega,(hF k hk).2.1⟩
 exact⟨h.bx.cg c (fun k hk=>(hF k hk).1),row_cg h.on c (fun k e hf=>(hF k hf).2.2.1 e),row_cg h.oc c (fun k e hf=>(hF k hf).2.2.2.1 e),row_cg h.om c (fun k e hf=>(hF k hf).2.2.2.2.1 e),row_cg h.oo c (fun k e hf=>(hF k hf).2.2.2.2.2 e),fun x hx=>by obtain⟨a,d,e,f⟩:=h.ic x hx;exact⟨a,d,e,f.cg c hi⟩,fun x hx=>by obtain⟨a,d,e,f,g,k⟩:=h.im x hx;exact⟨a,d,e,f,g.cg c hi,k.cg c hi⟩,fun x hx=>by obtain⟨a,d,e⟩:=h.io x hx;exact⟨a,d,e.cg c hi⟩,h.ap,h.iI,h.ct,h.cn,h.ns,h.cs⟩
theorem OU.up (h:OU w0 wr I b N T M O nv cv mv ov main) (bl:Below wr.heap.size wr w1):OU w0 w1 I b N T M O nv cv mv ov main:=h.cg (F:=fun _=>False) (Cg.below _ bl) (fun _ e=>e.elim)
theorem OU.more (h:OU w0 wr I b N T M O nv cv mv ov main) (hb:b≤b') (hI:∀ k,I k→I' k) (hI':∀ k,I' k→I k∨wr.heap.size≤k):OU w0 wr I' b' N T M O nv cv mv ov main:=by
 have hs:=h.bx.sz;have lt:∀ {v:Value} {e:TypeId} {sz n:Nat} {xs:List Value},wr.ownsRow (w0.heap.size+2) e sz v n xs→∀ k,v.ownBlock=some k→¬ I k→¬ I' k:=fun hr k hk hn hi=>by
  rcases hI' k hi with h1 | h1
  ·exact hn h1
  ·have:=(hr.lt k hk).2;omega
 obtain⟨a1,a2,a3,a4⟩:=h.ap;exact⟨h.bx,h.on,h.oc,h.om,h.oo,fun x hx=>by obtain⟨a,d,e,f⟩:=h.ic x hx;exact⟨a,d,Nat.le_trans e hb,f.more hI⟩,fun x hx=>by obtain⟨a,d,e,f,g,k⟩:=h.im x hx;exact⟨a,d,Nat.le_trans e hb,Nat.le_trans f hb,g.more hI,k.more hI⟩,fun x hx=>by obtain⟨a,d,e⟩:=h.io x hx;exact⟨a,Nat.le_trans d hb,e.more hI⟩,
  ⟨fun k hk=>⟨(a1 k hk).1,(a1 k hk).2.1,(a1 k hk).2.2.1,lt h.on k hk (a1 k hk).2.2.2⟩,fun k hk=>⟨(a2 k hk).1,(a2 k hk).2.1,lt h.oc k hk (a2 k hk).2.2⟩,fun k hk=>⟨(a3 k hk).1,lt h.om k hk (a3 k hk).2⟩,fun k hk=>lt h.oo k hk (a4 k hk)⟩,
  fun k hk=>by rcases hI' k hk with h1 | h1;exact h.iI k h1;omega,h.ct,by obtain⟨p,q,r,t⟩:=h.cn;exact⟨Nat.le_trans p hb,Nat.le_trans q hb,Nat.le_trans r hb,Nat.le_trans t hb⟩,h.ns,h.cs⟩
theorem OU.setm (h:OU w0 wr I b N T M O nv cv mv ov main) (m:Int):OU w0 (wr.setCell ⟨w0.heap.size,4,none⟩ (.int .i64 m)) I b N T M O nv cv mv ov m:=by
 have ne:∀ {v:Value} {e:TypeId} {sz n:Nat} {xs:List Value},wr.ownsRow (w0.heap.size+2) e sz v n xs→v.ownBlock≠some w0.heap.size:=fun hr e=>by have:=(hr.lt _ e).1;omega
 have c:Cg (fun k=>k=w0.heap.size) wr (wr.setCell ⟨w0.heap.size,4,none⟩ (.int .i64 m)):=(Cg.refl (fun k=>k=w0.heap.size) wr).set ⟨w0.heap.size,4,none⟩ rfl _;have hi:∀ k,k=w0.heap.size→w0.heap.size≤k∧¬ I k:=fun k hk=>⟨by omega,fun hI=>by have:=h.iI k hI;omega⟩
 exact⟨h.bx.set4 m,row_set h.on _ _ (ne h.on),row_set h.oc _ _ (ne h.oc),row_set h.om _ _ (ne h.om),row_set h.oo _ _ (ne h.oo),fun x hx=>by obtain⟨a,d,e,f⟩:=h.ic x hx;exact⟨a,d,e,f.cg c hi⟩,fun x hx=>by obtain⟨a,d,e,f,g,k⟩:=h.im x hx;exact⟨a,d,e,f,g.cg c hi,k.cg c hi⟩,fun x hx=>by obtain⟨a,d,e⟩:=h.io x hx;exact⟨a,d,e.cg c hi⟩,h.ap,h.iI,h.ct,h.cn,h.ns,h.cs⟩
theorem OU.cls {g n cp k j:Nat} {y:ClassA × Value} {u:Value} (h:OU w0 wr I b N T M O nv (.slice (some ⟨g,0,none⟩) n cp) mv ov main) (hn:T.length=n) (hc:cl4s (T.set k y)=(cl4s T).set (k*4+j) u) (hy:In64 y.1.super∧In64 y.1.fields∧y.1.binds.length≤b∧StP w0.heap.size I wr y.2 y.1.binds) (hyn:y.1.nm.size≤140737488355328):OU w0 (wr.setCell ⟨g,k*4+j,none⟩ u) I b N (T.set k y) M O nv (.slice (some ⟨g,0,none⟩) n cp) mv ov main:=by
 have hg:=(h.oc.lt g rfl).1;have c:Cg (fun q=>q=g) wr (wr.setCell ⟨g,k*4+j,none⟩ u):=(Cg.refl (fun q=>q=g) wr).set ⟨g,k*4+j,none⟩ rfl u;obtain⟨a1,a2,a3,a4⟩:=h.ap;have hi:∀ q,q=g→w0.heap.size≤q∧¬ I q:=fun q hq=>⟨by omega,by subst hq;exact (a2 q rfl).2.2⟩
 have ho:=h.oc;rw[hn] at ho;have hst:=(ho.stored (k*4+j) u).1;rw[← hc] at hst;have hl:(T.set k y).length=T.length:=List.length_set;refine⟨h.bx.cg c (fun q hq=>by omega),row_set h.on _ _ (fun e=>?_),by rw[hl,hn];exact hst,row_set h.om _ _ (fun e=>?_),row_set h.oo _ _ (fun e=>?_),?_,?_,?_,h.ap,h.iI,by rw[hl];exact h.ct,by rw[hl];exact h.cn,h.ns,fun x hx=>(List.mem_or_eq_of_mem_set hx).elim (fun m=>h.cs x m) (fun e=>by rw[e];exact hyn)⟩
 ·exact (a1 g e).1 rfl
 ·exact (a2 g rfl).1 e
 ·exact (a2 g rfl).2.1 e
 ·intro x hx;have hx':=(List.mem_or_eq_of_mem_set hx).elim (fun m=>h.ic x m) (fun e=>by rw[e];exact hy);obtain⟨a,d,e,f⟩:=hx';exact⟨a,d,e,f.cg c hi⟩
 ·intro x hx;obtain⟨a,d,e,f,p,q⟩:=h.im x hx;exact⟨a,d,e,f,p.cg c hi,q.cg c hi⟩
 ·intro x hx;obtain⟨a,d,e⟩:=h.io x hx;exact⟨a,d,e.cg c hi⟩
theorem OU.met {g n cp k j:Nat} {y:MethA × Value × Value} {u:Value} (h:OU w0 wr I b N T M O nv cv (.slice (some ⟨g,0,none⟩) n cp) ov main) (hn:M.length=n) (hc:mt4s (M.set k y)=(mt4s M).set (k*4+j) u) (hy:In64 y.1.args∧In64 y.1.temps∧y.1.lits.length≤b∧y.1.code.length≤b∧StP w0.heap.size I wr y.2.1 y.1.lits∧StB w0.heap.size I wr y.2.2 y.1.code):OU w0 (wr.setCell ⟨g,k*4+j,none⟩ u) I b N T (M.set k y) O nv cv (.slice (some ⟨g,0,none⟩) n cp) ov main:=by
 have hg:=(h.om.lt g rfl).1;have c:Cg (fun q=>q=g) wr (wr.setCell ⟨g,k*4+j,none⟩ u):=(Cg.refl (fun q=>q=g) wr).set ⟨g,k*4+j,none⟩ rfl u;obtain⟨a1,a2,a3,a4⟩:=h.ap;have hi:∀ q,q=g→w0.heap.size≤q∧¬ I q:=fun q hq=>⟨by omega,by subst hq;exact (a3 q rfl).2⟩
 have ho:=h.om;rw[hn] at ho;have hst:=(ho.stored (k*4+j) u).1;rw[← hc] at hst;have hl:(M.set k y).length=M.length:=List.length_set;refine⟨h.bx.cg c (fun q hq=>by omega),row_set h.on _ _ (fun e=>?_),row_set h.oc _ _ (fun e=>?_),by rw[hl,hn];exact hst,row_set h.oo _ _ (fun e=>?_),?_,?_,?_,h.ap,h.iI,by rw[hl];exact h.ct,by rw[hl];exact h.cn,h.ns,h.cs⟩
 ·exact (a1 g e).2.1 rfl
 ·exact (a2 g e).1 rfl
 ·exact (a3 g rfl).1 e
 ·intro x hx;obtain⟨a,d,e,f⟩:=h.ic x hx;exact⟨a,d,e,f.cg c hi⟩
 ·intro x hx;have hx':=(List.mem_or_eq_of_mem_set hx).elim (fun m=>h.im x m) (fun e=>by rw[e];exact hy);obtain⟨a,d,e,f,p,q⟩:=hx';exact⟨a,d,e,f,p.cg c hi,q.cg c hi⟩
 ·intro x hx;obtain⟨a,d,e⟩:=h.io x hx;exact⟨a,d,e.cg c hi⟩
theorem OU.obj {g n cp k j:Nat} {y:ObjA × Value} {u:Value} (h:OU w0 wr I b N T M O nv cv mv (.slice (some ⟨g,0,none⟩) n cp) main) (hn:O.length=n) (hc:ob2s (O.set k y)=(ob2s O).set (k*2+j) u) (hy:In64 y.1.cls∧y.1.flds.length≤b∧StP w0.heap.size I wr y.2 y.1.flds):OU w0 (wr.setCell ⟨g,k*2+j,none⟩ u) I b N T M (O.set k y) nv cv mv (.slice (some ⟨g,0,none⟩) n cp) main:=by
 have hg:=(h.oo.lt g rfl).1;have c:Cg (fun q=>q=g) wr (wr.setCell ⟨g,k*2+j,none⟩ u):=(Cg.refl (fun q=>q=g) wr).set ⟨g,k*2+j,none⟩ rfl u;obtain⟨a1,a2,a3,a4⟩:=h.ap;have hi:∀ q,q=g→w0.heap.size≤q∧¬ I q:=fun q hq=>⟨by omega,by subst hq;exact (a4 q rfl)⟩
 have ho:=h.oo;rw[hn] at ho;have hst:=(ho.stored (k*2+j) u).1;rw[← hc] at hst;have hl:(O.set k y).length=O.length:=List.length_set;refine⟨h.bx.cg c (fun q hq=>by omega),row_set h.on _ _ (fun e=>?_),row_set h.oc _ _ (fun e=>?_),row_set h.om _ _ (fun e=>?_),by rw[hl,hn];exact hst,?_,?_,?_,h.ap,h.iI,by rw[hl];exact h.ct,by rw[hl];exact h.cn,h.ns,h.cs⟩
 ·exact (a1 g e).2.2.1 rfl
 ·exact (a2 g e).2.1 rfl
 ·exact (a3 g e).1 rfl
 ·intro x hx;obtain⟨a,d,e,f⟩:=h.ic x hx;exact⟨a,d,e,f.cg c hi⟩
 ·intro x hx;obtain⟨a,d,e,f,p,q⟩:=h.im x hx;exact⟨a,d,e,f,p.cg c hi,q.cg c hi⟩
 ·intro x hx;have hx':=(List.mem_or_eq_of_mem_set hx).elim (fun m=>h.io x m) (fun e=>by rw[e];exact hy);obtain⟨a,d,e⟩:=hx';exact⟨a,d,e.cg c hi⟩
end
theorem strs_app (A B:List ByteArray):strs (A++B)=strs A++strs B:=by simp[strs]
theorem NmV.own2 {w:World} {base:Nat} {e:TypeId} {v:Value} {T:List ByteArray} (h:w.ownsRow base e 1 v T.length (strs T)):NmV w v T:=by
 rcases h.2 with ⟨rfl,h0⟩ | ⟨g,cap,cur,rfl,h1,h2,h3,h4,_⟩
 ·have:T=[]:=List.length_eq_zero_iff.1 h0;subst this;exact⟨none,0,rfl,by simp,by decide,fun k x hx=>by simp at hx⟩
 ·refine⟨_,cap,rfl,h3,h4,fun k x hx=>⟨g,0,rfl,?_⟩⟩;have hk:=(List.getElem?_eq_some_iff.1 hx).1;rw[Nat.zero_add];exact (h.cellAt k (by omega)).trans (by simp[strs,hx])
theorem NmV.take {w:World} {ad:Option Addr} {n cap:Nat} {L:List ByteArray} (h:NmV w (.slice ad n cap) L) (k:Nat) (hk:k≤L.length):NmV w (.slice ad k cap) (L.take k):=by
 obtain⟨ad',cap',e,h1,h2,h3⟩:=h.ex;cases e;have hl:(L.take k).length=k:=by rw[List.length_take];omega
 refine⟨ad,cap,by rw[hl],by omega,h2,fun j x hx=>h3 j x ?_⟩;rw[List.getElem?_take] at hx
 split at hx
 ·exact hx
 ·cases hx
theorem mt4s_up:∀ (T:List (MethA × Value × Value)) (c:Nat) (x:MethA × Value × Value),T[c]?=some x→∀ (a t:Int),mt4s (T.set c (⟨a,x.1.temps,x.1.lits,x.1.code⟩,x.2))=(mt4s T).set (c*4) (.int .i64 a)∧mt4s (T.set c (⟨x.1.args,t,x.1.lits,x.1.code⟩,x.2))=(mt4s T).set (c*4+1) (.int .i64 t)
 | [],c,x,h,_,_=>by simp at h
 | s :: T,0,x,h,_,_=>by simp at h;subst h;simp[mt4s,mt4]
 | s :: T,c+1,x,h,a,t=>by
  obtain⟨p,q⟩:=mt4s_up T c x (by simpa using h) a t;simp only[List.set_cons_succ,mt4s,p,q];refine⟨?_,?_⟩
  ·rw[show (c+1)*4=4+c*4 by omega,List.set_append_right _ _ (by simp[mt4])];simp[mt4]
  ·rw[show (c+1)*4+1=4+(c*4+1) by omega,List.set_append_right _ _ (by simp[mt4])];simp[mt4]
theorem mt4s_row:∀ (T:List (MethA × Value × Value)) (c:Nat) (x:MethA × Value × Value),T[c]?=some x→∀ (L:List (Int × Int)) (C:List Int) (v:Value),mt4s (T.set c (⟨x.1.args,x.1.temps,L,x.1.code⟩,v,x.2.2))=(mt4s T).set (c*4+2) v∧mt4s (T.set c (⟨x.1.args,x.1.temps,x.1.lits,C⟩,x.2.1,v))=(mt4s T).set (c*4+3) v
 | [],c,x,h,_,_,_=>by simp at h
 | s :: T,0,x,h,_,_,_=>by simp at h;subst h;simp[mt4s,mt4]
 | s :: T,c+1,x,h,L,C,v=>by
  obtain⟨p,q⟩:=mt4s_row T c x (by simpa using h) L C v;simp only[List.set_cons_succ,mt4s,p,q];refine⟨?_,?_⟩
  ·rw[show (c+1)*4+2=4+(c*4+2) by omega,List.set_append_right _ _ (by simp[mt4])];simp[mt4]
  ·rw[show (c+1)*4+3=4+(c*4+3) by omega,List.set_append_right _ _ (by simp[mt4])];simp[mt4]
theorem ob2s_up:∀ (T:List (ObjA × Value)) (c:Nat) (x:ObjA × Value),T[c]?=some x→∀ (a:Int) (L:List (Int × Int)) (v:Value),ob2s (T.set c (⟨a,x.1.flds⟩,x.2))=(ob2s T).set (c*2) (.int .i64 a)∧ob2s (T.set c (⟨x.1.cls,L⟩,v))=(ob2s T).set (c*2+1) v
 | [],c,x,h,_,_,_=>by simp at h
 | s :: T,0,x,h,_,_,_=>by simp at h;subst h;simp[ob2s]
 | s :: T,c+1,x,h,a,L,v=>by
  obtain⟨p,q⟩:=ob2s_up T c x (by simpa using h) a L v;simp only[List.set_cons_succ,ob2s,p,q];refine⟨?_,?_⟩
  ·rw[show (c+1)*2=c*2+2 by omega];simp
  ·rw[show (c+1)*2=c*2+1+1 by omega];simp
theorem cl4s_up:∀ (T:List (ClassA × Value)) (c:Nat) (x:ClassA × Value),T[c]?=some x→∀ (s f:Int),cl4s (T.set c (⟨x.1.nm,s,x.1.fields,x.1.binds⟩,x.2))=(cl4s T).set (c*4+1) (.int .i64 s)∧cl4s (T.set c (⟨x.1.nm,x.1.super,f,x.1.binds⟩,x.2))=(cl4s T).set (c*4+2) (.int .i64 f)
 | [],c,x,h,_,_=>by simp at h
 | s :: T,0,x,h,_,_=>by simp at h;subst h;simp[cl4s,cl4]
 | s :: T,c+1,x,h,s',f=>by
  obtain⟨b,d⟩:=cl4s_up T c x (by simpa using h) s' f;simp only[List.set_cons_succ,cl4s,b,d];refine⟨?_,?_⟩
  ·rw[show (c+1)*4+1=4+(c*4+1) by omega,List.set_append_right _ _ (by simp[cl4])];simp[cl4]
  ·rw[show (c+1)*4+2=4+(c*4+2) by omega,List.set_append_right _ _ (by simp[cl4])];simp[cl4]
structure OUf (w0 wx:World) (b:Nat):Prop where
 mk ::
 ex:∃ nv cv mv ov U,OB w0 wx nv cv mv ov U.main∧(∀ w2,Cg (fun k=>k=w0.heap.size+1) wx w2→UnV w2 nv cv mv ov U)∧Zb b U
section
variable {w0 wr w1 w2:World} {I I':Nat→Prop} {b b':Nat} {N:List ByteArray} {T:List (ClassA × Value)} {M:List (MethA × Value × Value)} {O:List (ObjA × Value)} {nv cv mv ov:Value} {main:Int} {F:Nat→Prop}
theorem OU.lst (h:OU w0 wr I b N T M O nv cv mv ov main) {w2:World} (c:Cg (fun k=>k=w0.heap.size+1) wr w2):UnV w2 nv cv mv ov ⟨N,T.map (·.1),M.map (·.1),O.map (·.1),main⟩:=by
 have hF:∀ {v:Value} {e:TypeId} {sz n:Nat} {xs:List Value},wr.ownsRow (w0.heap.size+2) e sz v n xs→∀ k,v.ownBlock=some k→¬ k=w0.heap.size+1:=fun hr k hk e=>by have:=(hr.lt k hk).1;omega
 have hi:∀ k,k=w0.heap.size+1→w0.heap.size≤k∧¬ I k:=fun k hk=>⟨by omega,fun hI=>by have:=h.iI k hI;omega⟩
 exact⟨NmV.own2 (row_cg h.on c (hF h.on)),ClV.own (row_cg h.oc c (hF h.oc)) (fun x hx=>by obtain⟨a,d,_,f⟩:=h.ic x hx;exact⟨a,d,(f.cg c hi).view⟩),MtV.own (row_cg h.om c (hF h.om)) (fun x hx=>by obtain⟨a,d,_,_,f,g⟩:=h.im x hx;exact⟨a,d,(f.cg c hi).view,(g.cg c hi).view⟩),ObV.own (row_cg h.oo c (hF h.oo)) (fun x hx=>by obtain⟨a,_,f⟩:=h.io x hx;exact⟨a,(f.cg c hi).view⟩)⟩
theorem OU.zb (h:OU w0 wr I b N T M O nv cv mv ov main):Zb b ⟨N,T.map (·.1),M.map (·.1),O.map (·.1),main⟩:=by
 obtain⟨p,q,r⟩:=h.ct;obtain⟨n1,n2,n3,n4⟩:=h.cn;exact⟨n1,by simpa using p,by simpa using n2,by simpa using q,by simpa using n3,by simpa using r,by simpa using n4,fun x hx=>by obtain⟨y,hy,rfl⟩:=List.mem_map.1 hx;exact (h.ic y hy).2.2.1,fun x hx=>by obtain⟨y,hy,rfl⟩:=List.mem_map.1 hx;exact⟨(h.im y hy).2.2.1,(h.im y hy).2.2.2.1⟩,fun x hx=>by obtain⟨y,hy,rfl⟩:=List.mem_map.1 hx;exact (h.io y hy).2.1,h.ns,fun x hx=>by obtain⟨y,hy,rfl⟩:=List.mem_map.1 hx;exact h.cs y hy⟩
theorem Zb.le {U:UnitA} (h:Zb b U) (hb:b≤b'):Zb b' U:=⟨Nat.le_trans h.n hb,h.c1,Nat.le_trans h.c hb,h.m1,Nat.le_trans h.m hb,h.o1,Nat.le_trans h.o hb,fun x hx=>Nat.le_trans (h.cb x hx) hb,fun x hx=>⟨Nat.le_trans (h.mb x hx).1 hb,Nat.le_trans (h.mb x hx).2 hb⟩,fun x hx=>Nat.le_trans (h.ob x hx) hb,h.ns,h.cs⟩
theorem OU.fin (h:OU w0 wr I b N T M O nv cv mv ov main) (hb:b≤b'):OUf w0 wr b':=⟨nv,cv,mv,ov,⟨N,T.map (·.1),M.map (·.1),O.map (·.1),main⟩,h.bx,fun w2 c=>h.lst c,h.zb.le hb⟩
theorem OU.cutn {a:Option Addr} {n cp:Nat} (h:OU w0 wr I b N T M O (.slice a n cp) cv mv ov main) (k:Nat) (hk:k≤N.length) (hb:b≤b'):OUf w0 (wr.setCell ⟨w0.heap.size,0,none⟩ (.slice a k cp)) b':=by
 have hs:=h.bx.sz;refine⟨.slice a k cp,cv,mv,ov,⟨N.take k,T.map (·.1),M.map (·.1),O.map (·.1),main⟩,h.bx.set0 _,fun w2 c=>?_,?_⟩
 ·have c0:Cg (fun k=>k=w0.heap.size+1∨k=w0.heap.size) wr w2:=((Cg.refl (fun k=>k=w0.heap.size+1∨k=w0.heap.size) wr).set ⟨w0.heap.size,0,none⟩ (Or.inr rfl) (.slice a k cp)).trans (c.mono (fun k hk=>Or.inl hk));have hF:∀ {v:Value} {e:TypeId} {sz n:Nat} {xs:List Value},wr.ownsRow (w0.heap.size+2) e sz v n xs→∀ k,v.ownBlock=some k→¬ (k=w0.heap.size+1∨k=w0.heap.size):=fun hr k hk e=>by have:=(hr.lt k hk).1;omega
  have hi:∀ k,(k=w0.heap.size+1∨k=w0.heap.size)→w0.heap.size≤k∧¬ I k:=fun k hk=>⟨by omega,fun hI=>by have:=h.iI k hI;omega⟩
  exact⟨(NmV.own2 (row_cg h.on c0 (hF h.on))).take k hk,ClV.own (row_cg h.oc c0 (hF h.oc)) (fun x hx=>by obtain⟨a,d,_,f⟩:=h.ic x hx;exact⟨a,d,(f.cg c0 hi).view⟩),MtV.own (row_cg h.om c0 (hF h.om)) (fun x hx=>by obtain⟨a,d,_,_,f,g⟩:=h.im x hx;exact⟨a,d,(f.cg c0 hi).view,(g.cg c0 hi).view⟩),ObV.own (row_cg h.oo c0 (hF h.oo)) (fun x hx=>by obtain⟨a,_,f⟩:=h.io x hx;exact⟨a,(f.cg c0 hi).view⟩)⟩
 ·have z:=h.zb.le hb;exact⟨by simp only[List.length_take];have:=z.n;simp only at this;omega,z.c1,z.c,z.m1,z.m,z.o1,z.o,z.cb,z.mb,z.ob,fun x hx=>z.ns x (List.mem_of_mem_take hx),z.cs⟩
theorem OU.pushn {wA w5:World} {nv':Value} {x:ByteArray} (h:OU w0 wr I b N T M O nv cv mv ov main) (hA:Below wr.heap.size wr wA) (ho:w5.ownsRow (w0.heap.size+2) 9 1 nv' (N.length+1) (strs N++strs [x])) (hg:wA.grownBy w5 nv.ownBlock) (hat:∀ k,nv'.ownBlock=some k→nv.ownBlock=some k∨k=wA.heap.size) (hI:∀ k,I k→k < wA.heap.size) (hle:N.length+1≤b) (hxs:x.size≤140737488355328):OU w0 (w5.setCell ⟨w0.heap.size,0,none⟩ nv') I b (N++[x]) T M O nv' cv mv ov main:=by
 have h1:=h.up hA;obtain⟨a1,a2,a3,a4⟩:=h1.ap;have hs:=h1.bx.sz;have c5:Cg (fun k=>nv.ownBlock=some k) wA w5:=(Cg.refl (fun k=>nv.ownBlock=some k) wA).grown hg (fun k hk=>Or.inl hk);have g5:∀ k,nv.ownBlock=some k→w0.heap.size+2≤k∧k < wA.heap.size:=fun k hk=>h1.on.lt k hk;have hl5:=hg.size;have cs:Cg (fun k=>nv.ownBlock=some k∨k=w0.heap.size) wA (w5.setCell ⟨w0.heap.size,0,none⟩ nv'):=Cg.set (F:=fun k=>nv.ownBlock=some k∨k=w0.heap.size) (c5.mono (fun k hk=>Or.inl hk)) ⟨w0.heap.size,0,none⟩ (Or.inr rfl) _;have hi:∀ k,nv.ownBlock=some k∨k=w0.heap.size→w0.heap.size≤k∧¬ I k:=fun k hk=>by
  rcases hk with hk | rfl
  ·exact⟨by have:=(g5 k hk).1;omega,(a1 k hk).2.2.2⟩
  ·exact⟨Nat.le_refl _,fun hI9=>by have:=h1.iI _ hI9;omega⟩
 have n0:∀ k,nv.ownBlock=some k∨k=w0.heap.size→cv.ownBlock≠some k:=fun k hk=>by
  rcases hk with hk | rfl
  ·exact (a1 k hk).1
  ·exact fun e=>by have:=(h1.oc.lt _ e).1;omega
 have n1:∀ k,nv.ownBlock=some k∨k=w0.heap.size→mv.ownBlock≠some k:=fun k hk=>by
  rcases hk with hk | rfl
  ·exact (a1 k hk).2.1
  ·exact fun e=>by have:=(h1.om.lt _ e).1;omega
 have n2:∀ k,nv.ownBlock=some k∨k=w0.heap.size→ov.ownBlock≠some k:=fun k hk=>by
  rcases hk with hk | rfl
  ·exact (a1 k hk).2.2.1
  ·exact fun e=>by have:=(h1.oo.lt _ e).1;omega
 have m0:∀ k,nv'.ownBlock=some k→cv.ownBlock≠some k:=fun k hk=>by
  rcases hat k hk with e | e
  ·exact n0 k (Or.inl e)
  ·exact fun e2=>by have:=(h1.oc.lt _ e2).2;omega
 have m1:∀ k,nv'.ownBlock=some k→mv.ownBlock≠some k:=fun k hk=>by
  rcases hat k hk with e | e
  ·exact n1 k (Or.inl e)
  ·exact fun e2=>by have:=(h1.om.lt _ e2).2;omega
 have m2:∀ k,nv'.ownBlock=some k→ov.ownBlock≠some k:=fun k hk=>by
  rcases hat k hk with e | e
  ·exact n2 k (Or.inl e)
  ·exact fun e2=>by have:=(h1.oo.lt _ e2).2;omega
 have mI:∀ k,nv'.ownBlock=some k→¬ I k:=fun k hk=>by
  rcases hat k hk with e | e
  ·exact (hi k (Or.inl e)).2
  ·exact fun e2=>by have:=hI k e2;omega
 refine⟨(h1.bx.cg c5 (fun k hk=>(g5 k hk).1)).set0 _,by rw[List.length_append,List.length_singleton,strs_app];exact row_set ho _ _ (fun e=>by have:=(ho.lt _ e).1;simp only at this;omega),row_cg h1.oc cs (fun k e hf=>n0 k hf e),row_cg h1.om cs (fun k e hf=>n1 k hf e),row_cg h1.oo cs (fun k e hf=>n2 k hf e),?_,?_,?_,⟨fun k hk=>⟨m0 k hk,m1 k hk,m2 k hk,mI k hk⟩,a2,a3,a4⟩,h1.iI,?_,?_,fun y hy=>(List.mem_append.1 hy).elim (fun m=>h1.ns y m) (fun m=>by rw[List.mem_singleton.1 m];exact hxs),h1.cs⟩
 ·intro x hx;obtain⟨a,d,e,f⟩:=h1.ic x hx;exact⟨a,d,e,f.cg cs hi⟩
 ·intro x hx;obtain⟨a,d,e,f,p,q⟩:=h1.im x hx;exact⟨a,d,e,f,p.cg cs hi,q.cg cs hi⟩
 ·intro y hy;obtain⟨a,d,e⟩:=h1.io y hy;exact⟨a,d,e.cg cs hi⟩
 ·exact h1.ct
 ·obtain⟨p,q,r,t⟩:=h1.cn;exact⟨by rw[List.length_append,List.length_singleton];omega,by omega,by omega,by omega⟩
theorem OU.pusho {wA w5:World} {ov':Value} {x:ObjA × Value} (h:OU w0 wr I b N T M O nv cv mv ov main) (hA:Below wr.heap.size wr wA) (ho:w5.ownsRow (w0.heap.size+2) 55 2 ov' (O.length+1) (ob2s O++ob2s [x])) (hg:wA.grownBy w5 ov.ownBlock) (hat:∀ k,ov'.ownBlock=some k→ov.ownBlock=some k∨k=wA.heap.size) (hI:∀ k,I k→k < wA.heap.size) (hle:O.length+1≤b) (hx:In64 x.1.cls∧x.1.flds.length≤b∧StP w0.heap.size I wr x.2 x.1.flds):OU w0 (w5.setCell ⟨w0.heap.size,3,none⟩ ov') I b N T M (O++[x]) nv cv mv ov' main:=by
 have h1:=h.up hA;obtain⟨a1,a2,a3,a4⟩:=h1.ap;have hs:=h1.bx.sz;have c5:Cg (fun k=>ov.ownBlock=some k) wA w5:=(Cg.refl (fun k=>ov.ownBlock=some k) wA).grown hg (fun k hk=>Or.inl hk);have g5:∀ k,ov.ownBlock=some k→w0.heap.size+2≤k∧k < wA.heap.size:=fun k hk=>h1.oo.lt k hk;have hl5:=hg.size;have cs:Cg (fun k=>ov.ownBlock=some k∨k=w0.heap.size) wA (w5.setCell ⟨w0.heap.size,3,none⟩ ov'):=Cg.set (F:=fun k=>ov.ownBlock=some k∨k=w0.heap.size) (c5.mono (fun k hk=>Or.inl hk)) ⟨w0.heap.size,3,none⟩ (Or.inr rfl) _;have hi:∀ k,ov.ownBlock=some k∨k=w0.heap.size→w0.heap.size≤k∧¬ I k:=fun k hk=>by
  rcases hk with hk | rfl
  ·exact⟨by have:=(g5 k hk).1;omega,a4 k hk⟩
  ·exact⟨Nat.le_refl _,fun hI9=>by have:=h1.iI _ hI9;omega⟩
 have n0:∀ k,ov.ownBlock=some k∨k=w0.heap.size→nv.ownBlock≠some k:=fun k hk=>by
  rcases hk with hk | rfl
  ·exact fun e=>(a1 _ e).2.2.1 hk
  ·exact fun e=>by have:=(h1.on.lt _ e).1;omega
 have n1:∀ k,ov.ownBlock=some k∨k=w0.heap.size→cv.ownBlock≠some k:=fun k hk=>by
  rcases hk with hk | rfl
  ·exact fun e=>(a2 _ e).2.1 hk
  ·exact fun e=>by have:=(h1.oc.lt _ e).1;omega
 have n2:∀ k,ov.ownBlock=some k∨k=w0.heap.size→mv.ownBlock≠some k:=fun k hk=>by
  rcases hk with hk | rfl
  ·exact fun e=>(a3 _ e).1 hk
  ·exact fun e=>by have:=(h1.om.lt _ e).1;omega
 have m0:∀ k,ov'.ownBlock=some k→nv.ownBlock≠some k:=fun k hk=>by
  rcases hat k hk with e | e
  ·exact n0 k (Or.inl e)
  ·exact fun e2=>by have:=(h1.on.lt _ e2).2;omega
 have m1:∀ k,ov'.ownBlock=some k→cv.ownBlock≠some k:=fun k hk=>by
  rcases hat k hk with e | e
  ·exact n1 k (Or.inl e)
  ·exact fun e2=>by have:=(h1.oc.lt _ e2).2;omega
 have m2:∀ k,ov'.ownBlock=some k→mv.ownBlock≠some k:=fun k hk=>by
  rcases hat k hk with e | e
  ·exact n2 k (Or.inl e)
  ·exact fun e2=>by have:=(h1.om.lt _ e2).2;omega
 have mI:∀ k,ov'.ownBlock=some k→¬ I k:=fun k hk=>by
  rcases hat k hk with e | e
  ·exact (hi k (Or.inl e)).2
  ·exact fun e2=>by have:=hI k e2;omega
 refine⟨(h1.bx.cg c5 (fun k hk=>(g5 k hk).1)).set3 _,row_cg h1.on cs (fun k e hf=>n0 k hf e),row_cg h1.oc cs (fun k e hf=>n1 k hf e),row_cg h1.om cs (fun k e hf=>n2 k hf e),by rw[List.length_append,List.length_singleton,ob2s_app];exact row_set ho _ _ (fun e=>by have:=(ho.lt _ e).1;simp only at this;omega),?_,?_,?_,⟨fun k hk=>⟨(a1 k hk).1,(a1 k hk).2.1,fun e=>m0 k e hk,(a1 k hk).2.2.2⟩,fun k hk=>⟨(a2 k hk).1,fun e=>m1 k e hk,(a2 k hk).2.2⟩,fun k hk=>⟨fun e=>m2 k e hk,(a3 k hk).2⟩,mI⟩,h1.iI,?_,?_,h1.ns,h1.cs⟩
 ·intro x hx;obtain⟨a,d,e,f⟩:=h1.ic x hx;exact⟨a,d,e,f.cg cs hi⟩
 ·intro x hx;obtain⟨a,d,e,f,p,q⟩:=h1.im x hx;exact⟨a,d,e,f,p.cg cs hi,q.cg cs hi⟩
 ·intro y hy;rcases List.mem_append.1 hy with hy | hy
  ·obtain⟨a,d,e⟩:=h1.io y hy;exact⟨a,d,e.cg cs hi⟩
  ·rw[List.mem_singleton.1 hy];exact⟨hx.1,hx.2.1,(hx.2.2.cg (F:=fun _=>False) (Cg.below _ hA) (fun _ e=>e.elim)).cg cs hi⟩
 ·obtain⟨p,q,r⟩:=h1.ct;exact⟨p,q,by rw[List.length_append];omega⟩
 ·obtain⟨p,q,r,t⟩:=h1.cn;exact⟨by omega,by omega,by omega,by rw[List.length_append,List.length_singleton];omega⟩
theorem UnV.forms {w:World} {nv cv mv ov:Value} {U:UnitA} (h:UnV w nv cv mv ov U):∃ na nc ca cc ma mc oa oc,nv=.slice na U.names.length nc∧cv=.slice ca U.classes.length cc∧mv=.slice ma U.methods.length mc∧ov=.slice oa U.objects.length oc:=by
 obtain⟨na,nc,e1,_⟩:=h.n.ex;obtain⟨ca,cc,e2,_⟩:=h.c.form;obtain⟨ma,mc,e3,_⟩:=h.m.ex;obtain⟨oa,oc,e4,_⟩:=h.o.form;exact⟨na,nc,ca,cc,ma,mc,oa,oc,e1,e2,e3,e4⟩
theorem UnV.unk {w:World} {nv cv mv ov:Value} {U:UnitA} (h:UnV w nv cv mv ov U):UnK w (.agg #[nv,cv,mv,ov,.int .i64 U.main]) U:=by
 obtain⟨na,nc,ca,cc,ma,mc,oa,oc,rfl,rfl,rfl,rfl⟩:=h.forms;exact⟨⟨na,nc,ca,cc,ma,mc,oa,oc,rfl,h⟩⟩
theorem OUf.last {w0 wx:World} {nv cv mv ov:Value} {U:UnitA} (hO:OB w0 wx nv cv mv ov U.main) (hU:∀ w2,Cg (fun k=>k=w0.heap.size+1) wx w2→UnV w2 nv cv mv ov U) (u0 u1 u2 u3 u4:Value):UnV (set5 wx (w0.heap.size+1) u0 u1 u2 u3 u4) nv cv mv ov U∧Below w0.heap.size w0 (set5 wx (w0.heap.size+1) u0 u1 u2 u3 u4):=by
 have c:Cg (fun k=>k=w0.heap.size+1) wx (set5 wx (w0.heap.size+1) u0 u1 u2 u3 u4):=by
  unfold set5 set4;exact (((((Cg.refl (fun k=>k=w0.heap.size+1) wx).set ⟨w0.heap.size+1,0,none⟩ rfl u0).set ⟨w0.heap.size+1,1,none⟩ rfl u1).set ⟨w0.heap.size+1,2,none⟩ rfl u2).set ⟨w0.heap.size+1,3,none⟩ rfl u3).set ⟨w0.heap.size+1,4,none⟩ rfl u4
 exact⟨hU _ c,below_cg hO.bel c (fun k hk=>by omega)⟩
theorem row_own {w:World} {base size n k:Nat} {e:TypeId} {v:Value} {xs:List Value} (h:w.ownsRow base e size v n xs) (hk:v.ownBlock=some k):∃ c,v=.slice (some ⟨k,0,none⟩) n c:=by
 rcases h.2 with ⟨rfl,h0⟩ | ⟨g,cap,cur,rfl,_⟩
 ·cases hk
 ·have:g=k:=by simpa [Value.ownBlock] using hk
  subst this;exact⟨cap,rfl⟩
end
def Stay (I:Nat→Prop) (w:World) (P:World→Prop):Prop:=∀ w2,Cg (fun k=>¬ I k) w w2→P w2
section
variable {I I' F:Nat→Prop} {w w1:World} {P Q:World→Prop}
theorem Stay.now (h:Stay I w P):P w:=h w (Cg.refl _ _)
theorem Stay.cg (h:Stay I w P) (c:Cg F w w1) (hF:∀ k,F k→¬ I k):Stay I w1 P:=fun w2 c2=>h w2 ((c.mono hF).trans c2)
theorem Stay.more (h:Stay I w P) (hI:∀ k,I k→I' k):Stay I' w P:=fun w2 c=>h w2 (c.mono (fun k hk hi=>hk (hI k hi)))
theorem Stay.imp (h:Stay I w P) (hQ:∀ w2,P w2→Q w2):Stay I w Q:=fun w2 c=>hQ w2 (h w2 c)
theorem Stay.and (h:Stay I w P) (g:Stay I w Q):Stay I w (fun w2=>P w2∧Q w2):=fun w2 c=>⟨h w2 c,g w2 c⟩
theorem Stay.const {p:Prop} (h:p):Stay I w (fun _=>p):=fun _ _=>h
theorem stay_prv {v:Value} {L:List (Int × Int)} (h:PrV w v L):Stay (fun k=>v.ownBlock=some k) w (fun w2=>PrV w2 v L):=fun w2 c=>h.far c (fun _ k hk hn=>hn hk)
theorem stay_byv {v:Value} {L:List Int} (h:ByV w v L):Stay (fun k=>v.ownBlock=some k) w (fun w2=>ByV w2 v L):=fun w2 c=>h.far c (fun _ k hk hn=>hn hk)
end
structure GrX {α:Type} (T:TypeId) (sz:Nat) (f:List α→List Value) (Q:α→World→Prop) (b:Nat) (wr:World) (I:Nat→Prop) (v:Value) (A:List α):Prop where
 own:wr.ownsRow b T sz v A.length (f A)
 inn:∀ x∈A,Stay I wr (Q x)
 ap:∀ k,v.ownBlock=some k→¬ I k
 lo:∀ k,I k→b≤k∧k < wr.heap.size
section
variable {α:Type} {T:TypeId} {sz:Nat} {f:List α→List Value} {Q:α→World→Prop} {b:Nat} {wr w1 w2 w5:World} {I F:Nat→Prop} {v v':Value} {A:List α} {x:α}
theorem GrX.nil (hf:f []=[]):GrX T sz f Q b wr (fun _=>False) (.slice none 0 0) [] :=
 ⟨⟨(by rw[hf];simp),Or.inl ⟨rfl,rfl⟩⟩,(fun x hx=>by cases hx),(fun k _ h=>h),(fun k h=>False.elim h)⟩
theorem GrX.cg (h:GrX T sz f Q b wr I v A) (c:Cg F wr w1) (hF:∀ k,F k→k < b):GrX T sz f Q b w1 I v A :=
 ⟨row_cg h.own c (fun k hk hf=>by have:=(h.own.lt k hk).1;have:=hF k hf;omega),(fun x hx=>(h.inn x hx).cg c (fun k hf hi=>by have:=(h.lo k hi).1;have:=hF k hf;omega)),h.ap,fun k hi=>⟨(h.lo k hi).1,Nat.lt_of_lt_of_le (h.lo k hi).2 c.size⟩⟩
theorem GrX.up (h:GrX T sz f Q b wr I v A) (c:Below wr.heap.size wr w1):GrX T sz f Q b w1 I v A:=h.cg (F:=fun _=>False) (Cg.below _ c) (fun _ e=>e.elim)
theorem GrX.push {J:Nat→Prop} {s:Nat} (h:GrX T sz f Q b w1 I v A) (hx:Stay J w1 (Q x)) (hJ:∀ k,J k→s≤k∧k < w1.heap.size) (hs:∀ k,v.ownBlock=some k→k < s) (hbs:b≤s)
  {wA:World} (hA:Below w1.heap.size w1 wA)
  (ho:w5.ownsRow b T sz v' (A.length+1) (f A++f [x])) (hg:wA.grownBy w5 v.ownBlock) (hat:∀ k,v'.ownBlock=some k→v.ownBlock=some k∨k=wA.heap.size) (hf:f (A++[x])=f A++f [x]) :
  GrX T sz f Q b w5 (fun k=>I k∨J k) v' (A++[x]):=by
 have c:Cg (fun k=>v.ownBlock=some k) w1 w5:=(Cg.below (fun k=>v.ownBlock=some k) hA).grown hg (fun k e=>Or.inl e);have hJv:∀ k,v.ownBlock=some k→¬ J k:=fun k hk hj=>by have:=hs k hk;have:=(hJ k hj).1;omega
 have hA':=hA.size;refine⟨by rw[hf,List.length_append];exact ho,fun y hy=>?_,fun k hk hi=>?_,fun k hi=>?_⟩
 ·rcases List.mem_append.1 hy with hy | hy
  ·exact ((h.inn y hy).cg c (fun k hk=>h.ap k hk)).more (fun k e=>Or.inl e)
  ·obtain rfl:=List.mem_singleton.1 hy;exact (hx.cg c (fun k hk=>hJv k hk)).more (fun k e=>Or.inr e)
 ·rcases hat k hk with e | e
  ·rcases hi with hi | hi
   ·exact h.ap k e hi
   ·exact hJv k e hi
  ·rcases hi with hi | hi
   ·have:=(h.lo k hi).2;omega
   ·have:=(hJ k hi).2;omega
 ·have:=c.size;rcases hi with hi | hi
  ·exact⟨(h.lo k hi).1,Nat.lt_of_lt_of_le (h.lo k hi).2 this⟩
  ·exact⟨Nat.le_trans hbs (hJ k hi).1,Nat.lt_of_lt_of_le (hJ k hi).2 this⟩
theorem GrX.stay {P:World→Prop} (h:GrX T sz f Q b wr I v A) (hP:∀ w2,w2.ownsRow b T sz v A.length (f A)→(∀ x∈A,Q x w2)→P w2):Stay (fun k=>I k∨v.ownBlock=some k) wr P:=fun w2 c =>
 hP w2 (row_cg h.own c (fun k hk hn=>hn (Or.inr hk))) (fun x hx=>h.inn x hx w2 (c.mono (fun k hk hi=>hk (Or.inl hi))))
theorem GrX.lo2 (h:GrX T sz f Q b wr I v A):∀ k,(I k∨v.ownBlock=some k)→b≤k∧k < wr.heap.size:=fun k hk=>hk.elim (h.lo k) (h.own.lt k)
end
def Qn (x:ByteArray) (w:World):Prop:=True
def Qp (x:Int × Int) (w:World):Prop:=In64 x.1∧In64 x.2
def Qc (x:ClassA × Value) (w:World):Prop:=In64 x.1.super∧In64 x.1.fields∧PrV w x.2 x.1.binds
def Qm (x:MethA × Value × Value) (w:World):Prop:=In64 x.1.args∧In64 x.1.temps∧PrV w x.2.1 x.1.lits∧ByV w x.2.2 x.1.code
def Qo (x:ObjA × Value) (w:World):Prop:=In64 x.1.cls∧PrV w x.2 x.1.flds
abbrev GrN:=GrX 9 1 strs Qn
abbrev GrV:=GrX 68 2 pr2 Qp
abbrev GrB:=GrX 66 2 pr2 Qp
abbrev GrC:=GrX 60 4 cl4s Qc
abbrev GrM:=GrX 63 4 mt4s Qm
abbrev GrO:=GrX 55 2 ob2s Qo
section
variable {b:Nat} {wr:World} {I:Nat→Prop} {v:Value}
theorem GrX.nmv {A:List ByteArray} (h:GrN b wr I v A):Stay (fun k=>I k∨v.ownBlock=some k) wr (fun w=>NmV w v A):=h.stay (fun w2 ho _=>NmV.own2 ho)
theorem GrX.prv {T:TypeId} {A:List (Int × Int)} (h:GrX T 2 pr2 Qp b wr I v A):Stay (fun k=>I k∨v.ownBlock=some k) wr (fun w=>PrV w v A):=h.stay (fun w2 ho hq=>PrV.own ho hq)
theorem GrX.clv {A:List (ClassA × Value)} (h:GrC b wr I v A):Stay (fun k=>I k∨v.ownBlock=some k) wr (fun w=>ClV w v (A.map (·.1))):=h.stay (fun w2 ho hq=>ClV.own ho hq)
theorem GrX.mtv {A:List (MethA × Value × Value)} (h:GrM b wr I v A):Stay (fun k=>I k∨v.ownBlock=some k) wr (fun w=>MtV w v (A.map (·.1))):=h.stay (fun w2 ho hq=>MtV.own ho hq)
theorem GrX.obv {A:List (ObjA × Value)} (h:GrO b wr I v A):Stay (fun k=>I k∨v.ownBlock=some k) wr (fun w=>ObV w v (A.map (·.1))):=h.stay (fun w2 ho hq=>ObV.own ho hq)
end
def Few (N:Nat) (n:Nat) (s:Rd8):Prop:=n≤N+1∧(s.2=false→n+s.1.length≤N)
theorem Few.start (s:Rd8):Few s.1.length 0 s:=⟨by omega,fun _=>by omega⟩
theorem Few.next {N n:Nat} {s s':Rd8} (h:Few N n s) (hs:s.2=false) (h1:s'.2=true∨s'.1.length < s.1.length):Few N (n+1) s':=by
 have:=h.2 hs;refine⟨by omega,fun e=>?_⟩;rcases h1 with h1 | h1
 ·rw[h1] at e;cases e
 ·omega
theorem bx_set {W:World} {E o:Nat} {C:Array Value} {T:TypeId} (h:W.heap[E]?=some (.cells C T (0,0))) (v:Value):(W.setCell ⟨E,o,none⟩ v).heap[E]?=some (.cells (C.setIfInBounds o v) T (0,0)):=by
 rw[setCell_eq_setRow W E o _ _ _ _ h];exact setRow_heap W E _ _ _ _ h
theorem bx_far {W:World} {E E' o:Nat} (hE:E'≠E) (v:Value):(W.setCell ⟨E,o,none⟩ v).heap[E']?=W.heap[E']?:=Below.heap_setCell _ _ _ _ (by simpa using hE)
structure EL (w y W:World) (p:Nat) (v:Value) (s:Rd8) (T:TypeId) (C2 C3:Array Value):Prop where
 r:RI w W p v s
 plt:p < y.heap.size
 cg:Cg (fun k=>k=p) y W
 b2:W.heap[y.heap.size]?=some (.cells C2 T (0,0))
 b3:W.heap[y.heap.size+1]?=some (.cells C3 T (0,0))
section
variable {w y W W1:World} {p:Nat} {v v1:Value} {s s1:Rd8} {T:TypeId} {C2 C3:Array Value}
theorem EL.lt (h:EL w y W p v s T C2 C3):y.heap.size+1 < W.heap.size:=(Array.getElem?_eq_some_iff.1 h.b3).1
theorem EL.born (h:RI w y p v s):EL w y ((y.alloc (.cells C2 T)).alloc (.cells C3 T)) p v s T C2 C3:=by
 have b1:=(Below.refl y.heap.size y).alloc (Nat.le_refl _) (.cells C2 T);have b2:=b1.alloc b1.size (.cells C3 T);refine⟨h.up b2,h.lt,((Cg.refl _ y).alloc _).alloc _,?_,?_⟩
 ·exact (((Below.refl (y.alloc (.cells C2 T)).heap.size _).alloc (Nat.le_refl _) (.cells C3 T)).block y.heap.size (by simp)).trans (heap_alloc_new _ _)
 ·have:=heap_alloc_new (y.alloc (.cells C2 T)) (.cells C3 T);rw[World.size_alloc] at this;exact this
theorem EL.call (h:EL w y W p v s T C2 C3) (r:RI w W1 p v1 s1) (c:Cg (fun k=>k=p) W W1):EL w y W1 p v1 s1 T C2 C3:=by
 have:=h.plt;have:=h.lt;exact⟨r,h.plt,h.cg.trans c,(c.block _ (by omega) (by omega)).trans h.b2,(c.block _ (by omega) (by omega)).trans h.b3⟩
theorem EL.set3 (h:EL w y W p v s T C2 C3) (o:Nat) (x:Value):EL w y (W.setCell ⟨y.heap.size+1,o,none⟩ x) p v s T C2 (C3.setIfInBounds o x):=by
 have c:=(Cg.refl (fun k=>k=y.heap.size+1) W).set ⟨y.heap.size+1,o,none⟩ rfl x;have hp:=h.plt;have hb:=h.r.bel.size;have hlo:=h.r.lo;exact⟨h.r.cg c (fun k e=>⟨by omega,by omega⟩),h.plt,h.cg.trans' c (fun k e=>Or.inr (by omega)),(bx_far (by omega) x).trans h.b2,bx_set h.b3 x⟩
theorem EL.set2 (h:EL w y W p v s T C2 C3) (o:Nat) (x:Value):EL w y (W.setCell ⟨y.heap.size,o,none⟩ x) p v s T (C2.setIfInBounds o x) C3:=by
 have c:=(Cg.refl (fun k=>k=y.heap.size) W).set ⟨y.heap.size,o,none⟩ rfl x;have hp:=h.plt;have hlo:=h.r.lo;exact⟨h.r.cg c (fun k e=>⟨by omega,by omega⟩),h.plt,h.cg.trans' c (fun k e=>Or.inr (by omega)),bx_set h.b2 x,(bx_far (by omega) x).trans h.b3⟩
theorem EL.e2 (h:EL w y W p v s T C2 C3) {o:Nat} {x:Value} (hx:C2[o]?=some x):W.cell? ⟨y.heap.size,o,none⟩=some x:=cells_at h.b2 hx
theorem EL.e3 (h:EL w y W p v s T C2 C3) {o:Nat} {x:Value} (hx:C3[o]?=some x):W.cell? ⟨y.heap.size+1,o,none⟩=some x:=cells_at h.b3 hx
theorem EL.z2 (h:EL w y W p v s T C2 C3) (o:Nat):W.frozen? ⟨y.heap.size,o,none⟩=false:=loose_at h.b2 o
theorem EL.z3 (h:EL w y W p v s T C2 C3) (o:Nat):W.frozen? ⟨y.heap.size+1,o,none⟩=false:=loose_at h.b3 o
end
def Lies (b:Nat) (J:Nat→Prop) (W:World) (P:World→Prop):Prop:=Stay J W P∧∀ k,J k→b≤k∧k < W.heap.size
theorem Lies.cg {b:Nat} {J F:Nat→Prop} {W W1:World} {P:World→Prop} (h:Lies b J W P) (c:Cg F W W1) (hF:∀ k,F k→k < b):Lies b J W1 P :=
 ⟨h.1.cg c (fun k hf hj=>by have:=(h.2 k hj).1;have:=hF k hf;omega),fun k hj=>⟨(h.2 k hj).1,Nat.lt_of_lt_of_le (h.2 k hj).2 c.size⟩⟩
theorem Lies.set {b E o:Nat} {J:Nat→Prop} {W:World} {P:World→Prop} (h:Lies b J W P) (hE:E < b) (x:Value):Lies b J (W.setCell ⟨E,o,none⟩ x) P :=
 h.cg ((Cg.refl (fun k=>k=E) W).set ⟨E,o,none⟩ rfl x) (fun k e=>by omega)
theorem lies_gr {α:Type} {T:TypeId} {sz:Nat} {f:List α→List Value} {Q:α→World→Prop} {b:Nat} {wr:World} {I:Nat→Prop} {v:Value} {A:List α} {P:World→Prop} (h:GrX T sz f Q b wr I v A) (g:Stay (fun k=>I k∨v.ownBlock=some k) wr P):Lies b (fun k=>I k∨v.ownBlock=some k) wr P:=⟨g,h.lo2⟩
theorem val_g_res {ts:Array Value} {w:World} {q:Nat} {v0 v1:Value} (h8:ts.getD 2 undef=.pointer (some ⟨q,0,none⟩)) (r0:w.cell? ⟨q,0,none⟩=some v0) (r1:w.cell? ⟨q,1,none⟩=some v1) :
  (results Tryz.f100 ts).run Tryz.prog w=.ok (.agg #[v0,v1]) w:=by
 have h8':ts[2]?.getD undef=.pointer (some ⟨q,0,none⟩):=by rw[← Array.getD_eq_getD_getElem?];exact h8
 simp[results,Tryz.results100,go_sem,h8',r0,r1]
set_option maxHeartbeats 16000000 in
theorem val_g {w y:World} {p:Nat} {v:Value} {s:Rd8} (h:RI w y p v s) :
  Calls Tryz.prog 100 #[.pointer (some ⟨p,0,none⟩)] y fun e y'=>e=.returned (.agg #[.int .i64 (prL s).1.1,.int .i64 (prL s).1.2])∧(∃ v',RI w y' p v' (prL s).2)∧Cg (fun k=>k=p) y y':=by
 have hl:prL s=(((numL s).1,(numL (numL s).2).1),(numL (numL s).2).2):=rfl;rw[hl];clear hl;have hE:=HD (EL.born (T:=68) (C2:=#[.int .i64 0,.int .i64 0]) (C3:=#[.int .i64 0,.int .i64 0]) h);have P1:=HD (number_c hE.out.r);generalize numL s=q1 at P1 ⊢;generalize hQ:numL q1.2=q2;replace hQ:=HD hQ;go_enter Tryz.func100,Tryz.ntmps100
 go_wp2_with fail
 with_reducible refine P1.out.mono ?_
 rintro e1 y1 ⟨rfl,⟨v1,hR⟩,hc⟩;replace hE:=HD (hE.out.call hR hc);clear P1 hR hc;have c0:=hE.out.e3 (o:=0) rfl;have z0:=hE.out.z3 0
 go_upto_region 3 with fail
 replace hE:=HD (hE.out.set3 0 (.int .i64 q1.1));generalize y1.setCell ⟨y.heap.size+1,0,none⟩ (.int .i64 q1.1)=W1 at *;clear c0 z0;have P1:=number_c hE.out.r;rw[hQ.out] at P1;replace P1:=HD P1
 go_wp2_with fail
 with_reducible refine P1.out.mono ?_
 rintro e1 y1 ⟨rfl,⟨v2,hR⟩,hc⟩;replace hE:=HD (hE.out.call hR hc);clear P1 hR hc;have c0:=hE.out.e3 (o:=1) rfl;have z0:=hE.out.z3 1
 go_upto_region 4 with fail
 replace hE:=HD (hE.out.set3 1 (.int .i64 q2.1));generalize y1.setCell ⟨y.heap.size+1,1,none⟩ (.int .i64 q2.1)=W2 at *;clear c0 z0;have c0:=hE.out.e3 (o:=0) rfl;have c1:=hE.out.e3 (o:=1) rfl;have d0:=hE.out.e2 (o:=0) rfl;have d1:=hE.out.e2 (o:=1) rfl;have z0:=hE.out.z2 0;have z1:=hE.out.z2 1
 go_wp2
 replace hE:=HD ((hE.out.set2 0 (.int .i64 q1.1)).set2 1 (.int .i64 q2.1));generalize (W2.setCell ⟨y.heap.size,0,none⟩ (.int .i64 q1.1)).setCell ⟨y.heap.size,1,none⟩ (.int .i64 q2.1)=W3 at *;clear c0 c1 d0 d1 z0 z1;have d0:W3.cell? ⟨y.heap.size,0,none⟩=some (.int .i64 q1.1):=hE.out.e2 (o:=0) rfl;have d1:W3.cell? ⟨y.heap.size,1,none⟩=some (.int .i64 q2.1):=hE.out.e2 (o:=1) rfl;refine bodyPost_ret (val_g_res rfl d0 d1) rfl ?_;exact⟨rfl,⟨_,hE.out.r⟩,hE.out.cg⟩
theorem bind_g_res {ts:Array Value} {w:World} {q:Nat} {v0 v1:Value} (h8:ts.getD 2 undef=.pointer (some ⟨q,0,none⟩)) (r0:w.cell? ⟨q,0,none⟩=some v0) (r1:w.cell? ⟨q,1,none⟩=some v1) :
  (results Tryz.f98 ts).run Tryz.prog w=.ok (.agg #[v0,v1]) w:=by
 have h8':ts[2]?.getD undef=.pointer (some ⟨q,0,none⟩):=by rw[← Array.getD_eq_getD_getElem?];exact h8
 simp[results,Tryz.results98,go_sem,h8',r0,r1]
set_option maxHeartbeats 16000000 in
theorem bind_g {w y:World} {p:Nat} {v:Value} {s:Rd8} (h:RI w y p v s) :
  Calls Tryz.prog 98 #[.pointer (some ⟨p,0,none⟩)] y fun e y'=>e=.returned (.agg #[.int .i64 (prL s).1.1,.int .i64 (prL s).1.2])∧(∃ v',RI w y' p v' (prL s).2)∧Cg (fun k=>k=p) y y':=by
 have hl:prL s=(((numL s).1,(numL (numL s).2).1),(numL (numL s).2).2):=rfl;rw[hl];clear hl;have hE:=HD (EL.born (T:=66) (C2:=#[.int .i64 0,.int .i64 0]) (C3:=#[.int .i64 0,.int .i64 0]) h);have P1:=HD (number_c hE.out.r);generalize numL s=q1 at P1 ⊢;generalize hQ:numL q1.2=q2;replace hQ:=HD hQ;go_enter Tryz.func98,Tryz.ntmps98
 go_wp2_with fail
 with_reducible refine P1.out.mono ?_
 rintro e1 y1 ⟨rfl,⟨v1,hR⟩,hc⟩;replace hE:=HD (hE.out.call hR hc);clear P1 hR hc;have c0:=hE.out.e3 (o:=0) rfl;have z0:=hE.out.z3 0
 go_upto_region 3 with fail
 replace hE:=HD (hE.out.set3 0 (.int .i64 q1.1));generalize y1.setCell ⟨y.heap.size+1,0,none⟩ (.int .i64 q1.1)=W1 at *;clear c0 z0;have P1:=number_c hE.out.r;rw[hQ.out] at P1;replace P1:=HD P1
 go_wp2_with fail
 with_reducible refine P1.out.mono ?_
 rintro e1 y1 ⟨rfl,⟨v2,hR⟩,hc⟩;replace hE:=HD (hE.out.call hR hc);clear P1 hR hc;have c0:=hE.out.e3 (o:=1) rfl;have z0:=hE.out.z3 1
 go_upto_region 4 with fail
 replace hE:=HD (hE.out.set3 1 (.int .i64 q2.1));generalize y1.setCell ⟨y.heap.size+1,1,none⟩ (.int .i64 q2.1)=W2 at *;clear c0 z0;have c0:=hE.out.e3 (o:=0) rfl;have c1:=hE.out.e3 (o:=1) rfl;have d0:=hE.out.e2 (o:=0) rfl;have d1:=hE.out.e2 (o:=1) rfl;have z0:=hE.out.z2 0;have z1:=hE.out.z2 1
 go_wp2
 replace hE:=HD ((hE.out.set2 0 (.int .i64 q1.1)).set2 1 (.int .i64 q2.1));generalize (W2.setCell ⟨y.heap.size,0,none⟩ (.int .i64 q1.1)).setCell ⟨y.heap.size,1,none⟩ (.int .i64 q2.1)=W3 at *;clear c0 c1 d0 d1 z0 z1;have d0:W3.cell? ⟨y.heap.size,0,none⟩=some (.int .i64 q1.1):=hE.out.e2 (o:=0) rfl;have d1:W3.cell? ⟨y.heap.size,1,none⟩=some (.int .i64 q2.1):=hE.out.e2 (o:=1) rfl;refine bodyPost_ret (bind_g_res rfl d0 d1) rfl ?_;exact⟨rfl,⟨_,hE.out.r⟩,hE.out.cg⟩
theorem pr2_app' (A:List (Int × Int)) (x:Int × Int):pr2 (A++[x])=pr2 A++pr2 [x]:=pr2_app _ _
theorem R32.i64 {n:Int} (h:R32 n):In64 n:=by obtain⟨a,b⟩:=h;exact⟨by omega,by omega⟩
theorem prL_64 {s:Rd8} (h:Bd8 s.1):Qp (prL s).1 default:=⟨(numL_R h).i64,(numL_R (numL_eat.bd s h)).i64⟩
set_option maxHeartbeats 16000000 in
theorem growv_c {w y:World} {p:Nat} {v:Value} {s:Rd8} (h:RI w y p v s) (hs:s.1.length≤100000) :
  Calls Tryz.prog 99 #[.pointer (some ⟨p,0,none⟩),.func (.func 100) #[.pointer (some ⟨p,0,none⟩)] #[]] y fun e y'=>(∃ u A I,e=.returned u∧GrV y.heap.size y' I u A∧A=(rowL prL s).1)∧(∃ v',RI w y' p v' (rowL prL s).2)∧Cg (fun k=>k=p) y y':=by
 obtain⟨i0,hi0,hz0,hz1,hz2⟩:=info_parts infoVal;have hmx:400000≤maxLen:=by decide
 have P0:=length_c h;have hbd:=lenL_pos s;have hle:=lenL_eat.le s;have hl31:=lenL_R h.bd;have hr:rowL prL s=manyR prL (lenL s).1.toNat [] (lenL s).2:=rfl;generalize rowL prL s=R at hr ⊢;have hpy:=h.lt;generalize lenL s=r at P0 hbd hle hr hl31;obtain⟨x,s0⟩:=r;replace hl31:x < 2147483648:=hl31;replace hbd:0≤x:=hbd;replace hle:s0.1.length≤s.1.length:=hle;obtain⟨n,rfl⟩:∃ k:Nat,x=k:=⟨x.toNat,by omega⟩
 replace hr:R=manyR prL n [] s0:=hr;have hF:=HD (Few.start s0);obtain⟨N,hN⟩:∃ N,s0.1.length=N:=⟨_,rfl⟩
 rw[hN] at hF hle;have hN1:N≤100000:=by omega
 have P1:=HD P0;replace hr:=HD hr;clear P0 h hbd hle hs hN;go_enter Tryz.func99,Tryz.ntmps99
 go_wp2_with (first | (go_at_call 96;((with_reducible refine P1.out.mono ?_);rintro e1 y1 ⟨rfl,⟨v1,hR⟩,hc⟩)))
 clear P1;have hG:Hid (GrV y.heap.size y1 (fun _=>False) (.slice none 0 0) []):=HD (GrX.nil rfl);replace hR:=HD hR;replace hc:=HD hc
 go_loopw [5,6] (fun i5 i6 wr=>∃ (j:Nat) (A:List (Int × Int)) (s':Rd8) (v':Value) (I:Nat→Prop),j≤n∧i6=.int .i64 j∧Hid (Few N A.length s')∧Hid (R=manyR prL j (A) s')∧Hid (RI w wr p v' s')∧Hid (GrV y.heap.size wr I i5 A)∧Hid (Cg (fun k=>k=p) y wr)) (fun _ i6 _=>(intOf i6).toNat)
 case atStart=>exact⟨n,[],s0,_,_,Nat.le_refl _,rfl,hF,hr,hR,hG,hc⟩
 case round =>
  clear hR hc hG hr hF;obtain⟨j,A,s',v',I,hjn,rfl,hF,hr,hR,hG,hc⟩:=hrel;have c1:=hR.out.c1;obtain⟨M,b⟩:=s';simp only at c1;cases j with
  | zero =>
   have d1:decide ((0:Int) < ((0:Nat):Int))=false:=by decide
   have hr':Hid (R=(A,(M,b))):=HD hr.out;clear hr
   go_wp2
   go_ret;rw[hr'.out];exact⟨⟨_,A,I,rfl,hG.out,rfl⟩,⟨_,hR.out⟩,hc.out⟩
  | succ j =>
   have d1:decide ((0:Int) < ((j+1:Nat):Int))=true:=by simp
   cases b with
   | true =>
    have hr':Hid (R=(A,(M,true))):=HD hr.out;clear hr
    go_wp2
    go_ret;rw[hr'.out];exact⟨⟨_,A,I,rfl,hG.out,rfl⟩,⟨_,hR.out⟩,hc.out⟩
   | false =>
    have hr':R=manyR prL j (A++[(prL (M,false)).1]) (prL (M,false)).2:=hr.out;have hF2:=hF.out.next rfl (prL_eat.lt (M,false));have hn:=hF.out.1;have P1:=val_g hR.out;have hq:=prL_64 hR.out.bd;generalize prL (M,false)=q at P1 hr' hF2 hq;obtain⟨⟨a,b⟩,s2⟩:=q;simp only at P1 hr' hF2 hq;replace P1:=HD P1;replace hr':=HD hr';replace hF2:=HD hF2;replace hq:=HD hq;have hlt:=HD (fun k hk=>(hG.out.own.lt k hk).2);have hyr:=hc.out.size;clear hr hF
    go_wp2_with (first | (go_at_call 100;((with_reducible refine P1.out.mono ?_);rintro e1 y2 ⟨rfl,⟨v2,hR2⟩,hc2⟩;replace hG:=HD (hG.out.cg hc2 (fun k e=>by omega));replace hc:=HD (hc.out.trans hc2);have hys:=hc2.size;replace hR2:=HD hR2;clear P1 hc2;have hA2:=(Below.refl y2.heap.size y2).alloc (Nat.le_refl _) (.cells #[.int .i64 a,.int .i64 b] 68);have hOA:=HD (row_bel hG.out.own hA2);replace hA2:=HD hA2)) | (at_builtin;refine wpList_append_lies _ rfl (.tmp 20) (.tmp 23) 53 rfl y.heap.size 68 i0 (.agg #[.int .i64 0,.int .i64 0]) 2 16 Tryz.underlying53 hi0 hz0 hz1 hz2 rfl (by decide) u5 A.length _ (by simp[Act.eval]) hOA.out ⟨y2.heap.size,0,none⟩ 1 1 (pr2 [(a,b)]) (by simp[Act.eval]) rfl (World.news_of_block (alloc_at _ _ _ rfl)) (pr2_one _) (by omega) (by omega) (by omega) (by simp only[World.size_alloc];omega) _ rfl ?_;intro g1 cap1 w7 hown1 hgrow1 hat1 hlt1))
    go_roundw
    case rel =>
     have hP:=hG.out.push (x:=(a,b)) (J:=fun _=>False) (s:=wr.heap.size) (Stay.const hq.out) (fun k e=>e.elim) hlt.out (by omega) hA2.out hown1 hgrow1 (fun k hk=>by
      have e1:g1=k:=by simpa [Value.ownBlock] using hk
      rcases hat1 with e | e
      ·exact Or.inl (by rw[← e1];exact e)
      ·exact Or.inr (by rw[← e1];exact e)) (pr2_app' A (a,b))
     have hc3:Cg (fun k=>(u5:Value).ownBlock=some k) y2 w7:=(Cg.below _ hA2.out).grown hgrow1 (fun k e=>Or.inl e);have hbk:=HD (fun k (e:(u5:Value).ownBlock=some k)=>(hG.out.own.lt k e).1);have hlo:=hR2.out.lo;have hb2:=hR2.out.bel.size;refine⟨j,A++[(a,b)],s2,_,_,by omega,by go_num,HD (by rw[List.length_append];exact hF2.out),HD (hr'.out),HD (hR2.out.cg hc3 (fun k e=>?_)),HD hP,HD (hc.out.trans' hc3 (fun k e=>Or.inr (hbk.out k e)))⟩;have:=hbk.out k e;exact⟨by omega,by omega⟩
    case measure=>simp[intOf]
set_option maxHeartbeats 16000000 in
theorem growb_c {w y:World} {p:Nat} {v:Value} {s:Rd8} (h:RI w y p v s) (hs:s.1.length≤100000) :
  Calls Tryz.prog 97 #[.pointer (some ⟨p,0,none⟩),.func (.func 98) #[.pointer (some ⟨p,0,none⟩)] #[]] y fun e y'=>(∃ u A I,e=.returned u∧GrB y.heap.size y' I u A∧A=(rowL prL s).1)∧(∃ v',RI w y' p v' (rowL prL s).2)∧Cg (fun k=>k=p) y y':=by
 obtain⟨i0,hi0,hz0,hz1,hz2⟩:=info_parts infoBind;have hmx:400000≤maxLen:=by decide
 have P0:=length_c h;have hbd:=lenL_pos s;have hle:=lenL_eat.le s;have hl31:=lenL_R h.bd;have hr:rowL prL s=manyR prL (lenL s).1.toNat [] (lenL s).2:=rfl;generalize rowL prL s=R at hr ⊢;have hpy:=h.lt;generalize lenL s=r at P0 hbd hle hr hl31;obtain⟨x,s0⟩:=r;replace hl31:x < 2147483648:=hl31;replace hbd:0≤x:=hbd;replace hle:s0.1.length≤s.1.length:=hle;obtain⟨n,rfl⟩:∃ k:Nat,x=k:=⟨x.toNat,by omega⟩
 replace hr:R=manyR prL n [] s0:=hr;have hF:=HD (Few.start s0);obtain⟨N,hN⟩:∃ N,s0.1.length=N:=⟨_,rfl⟩
 rw[hN] at hF hle;have hN1:N≤100000:=by omega
 have P1:=HD P0;replace hr:=HD hr;clear P0 h hbd hle hs hN;go_enter Tryz.func97,Tryz.ntmps97
 go_wp2_with (first | (go_at_call 96;((with_reducible refine P1.out.mono ?_);rintro e1 y1 ⟨rfl,⟨v1,hR⟩,hc⟩)))
 clear P1;have hG:Hid (GrB y.heap.size y1 (fun _=>False) (.slice none 0 0) []):=HD (GrX.nil rfl);replace hR:=HD hR;replace hc:=HD hc
 go_loopw [5,6] (fun i5 i6 wr=>∃ (j:Nat) (A:List (Int × Int)) (s':Rd8) (v':Value) (I:Nat→Prop),j≤n∧i6=.int .i64 j∧Hid (Few N A.length s')∧Hid (R=manyR prL j (A) s')∧Hid (RI w wr p v' s')∧Hid (GrB y.heap.size wr I i5 A)∧Hid (Cg (fun k=>k=p) y wr)) (fun _ i6 _=>(intOf i6).toNat)
 case atStart=>exact⟨n,[],s0,_,_,Nat.le_refl _,rfl,hF,hr,hR,hG,hc⟩
 case round =>
  clear hR hc hG hr hF;obtain⟨j,A,s',v',I,hjn,rfl,hF,hr,hR,hG,hc⟩:=hrel;have c1:=hR.out.c1;obtain⟨M,b⟩:=s';simp only at c1;cases j with
  | zero =>
   have d1:decide ((0:Int) < ((0:Nat):Int))=false:=by decide
   have hr':Hid (R=(A,(M,b))):=HD hr.out;clear hr
   go_wp2
   go_ret;rw[hr'.out];exact⟨⟨_,A,I,rfl,hG.out,rfl⟩,⟨_,hR.out⟩,hc.out⟩
  | succ j =>
   have d1:decide ((0:Int) < ((j+1:Nat):Int))=true:=by simp
   cases b with
   | true =>
    have hr':Hid (R=(A,(M,true))):=HD hr.out;clear hr
    go_wp2
    go_ret;rw[hr'.out];exact⟨⟨_,A,I,rfl,hG.out,rfl⟩,⟨_,hR.out⟩,hc.out⟩
   | false =>
    have hr':R=manyR prL j (A++[(prL (M,false)).1]) (prL (M,false)).2:=hr.out;have hF2:=hF.out.next rfl (prL_eat.lt (M,false));have hn:=hF.out.1;have P1:=bind_g hR.out;have hq:=prL_64 hR.out.bd;generalize prL (M,false)=q at P1 hr' hF2 hq;obtain⟨⟨a,b⟩,s2⟩:=q;simp only at P1 hr' hF2 hq;replace P1:=HD P1;replace hr':=HD hr';replace hF2:=HD hF2;replace hq:=HD hq;have hlt:=HD (fun k hk=>(hG.out.own.lt k hk).2);have hyr:=hc.out.size;clear hr hF
    go_wp2_with (first | (go_at_call 98;((with_reducible refine P1.out.mono ?_);rintro e1 y2 ⟨rfl,⟨v2,hR2⟩,hc2⟩;replace hG:=HD (hG.out.cg hc2 (fun k e=>by omega));replace hc:=HD (hc.out.trans hc2);have hys:=hc2.size;replace hR2:=HD hR2;clear P1 hc2;have hA2:=(Below.refl y2.heap.size y2).alloc (Nat.le_refl _) (.cells #[.int .i64 a,.int .i64 b] 66);have hOA:=HD (row_bel hG.out.own hA2);replace hA2:=HD hA2)) | (at_builtin;refine wpList_append_lies _ rfl (.tmp 20) (.tmp 23) 58 rfl y.heap.size 66 i0 (.agg #[.int .i64 0,.int .i64 0]) 2 16 Tryz.underlying58 hi0 hz0 hz1 hz2 rfl (by decide) u5 A.length _ (by simp[Act.eval]) hOA.out ⟨y2.heap.size,0,none⟩ 1 1 (pr2 [(a,b)]) (by simp[Act.eval]) rfl (World.news_of_block (alloc_at _ _ _ rfl)) (pr2_one _) (by omega) (by omega) (by omega) (by simp only[World.size_alloc];omega) _ rfl ?_;intro g1 cap1 w7 hown1 hgrow1 hat1 hlt1))
    go_roundw
    case rel =>
     have hP:=hG.out.push (x:=(a,b)) (J:=fun _=>False) (s:=wr.heap.size) (Stay.const hq.out) (fun k e=>e.elim) hlt.out (by omega) hA2.out hown1 hgrow1 (fun k hk=>by
      have e1:g1=k:=by simpa [Value.ownBlock] using hk
      rcases hat1 with e | e
      ·exact Or.inl (by rw[← e1];exact e)
      ·exact Or.inr (by rw[← e1];exact e)) (pr2_app' A (a,b))
     have hc3:Cg (fun k=>(u5:Value).ownBlock=some k) y2 w7:=(Cg.below _ hA2.out).grown hgrow1 (fun k e=>Or.inl e);have hbk:=HD (fun k (e:(u5:Value).ownBlock=some k)=>(hG.out.own.lt k e).1);have hlo:=hR2.out.lo;have hb2:=hR2.out.bel.size;refine⟨j,A++[(a,b)],s2,_,_,by omega,by go_num,HD (by rw[List.length_append];exact hF2.out),HD (hr'.out),HD (hR2.out.cg hc3 (fun k e=>?_)),HD hP,HD (hc.out.trans' hc3 (fun k e=>Or.inr (hbk.out k e)))⟩;have:=hbk.out k e;exact⟨by omega,by omega⟩
    case measure=>simp[intOf]
theorem Lies.imp {b b':Nat} {J:Nat→Prop} {W:World} {P Q:World→Prop} (h:Lies b J W P) (hb:b'≤b) (hQ:∀ w2,P w2→Q w2):Lies b' J W Q:=⟨h.1.imp hQ,fun k hk=>⟨Nat.le_trans hb (h.2 k hk).1,(h.2 k hk).2⟩⟩
theorem class_g_res {ts:Array Value} {w:World} {q:Nat} {v0 v1 v2 v3:Value} (h8:ts.getD 2 undef=.pointer (some ⟨q,0,none⟩)) (r0:w.cell? ⟨q,0,none⟩=some v0) (r1:w.cell? ⟨q,1,none⟩=some v1) (r2:w.cell? ⟨q,2,none⟩=some v2) (r3:w.cell? ⟨q,3,none⟩=some v3) :
  (results Tryz.f72 ts).run Tryz.prog w=.ok (.agg #[v0,v1,v2,v3]) w:=by
 have h8':ts[2]?.getD undef=.pointer (some ⟨q,0,none⟩):=by rw[← Array.getD_eq_getD_getElem?];exact h8
 simp[results,Tryz.results72,go_sem,h8',r0,r1,r2,r3]
set_option maxHeartbeats 16000000 in
theorem class_g {w y:World} {p:Nat} {v:Value} {s:Rd8} (h:RI w y p v s) (hs:s.1.length≤100000) :
  Calls Tryz.prog 72 #[.pointer (some ⟨p,0,none⟩)] y fun e y'=>(∃ bv J,e=.returned (.agg #[.string (clL s).1.nm,.int .i64 (clL s).1.super,.int .i64 (clL s).1.fields,bv])∧Lies y.heap.size J y' (Qc ((clL s).1,bv))∧∃ a m c,bv=.slice a m c)∧(∃ v',RI w y' p v' (clL s).2)∧Cg (fun k=>k=p) y y':=by
 have hl:clL s=(⟨(nmL s).1,(numL (nmL s).2).1,(numL (numL (nmL s).2).2).1,(rowL prL (numL (numL (nmL s).2).2).2).1⟩,(rowL prL (numL (numL (nmL s).2).2).2).2):=rfl;rw[hl];clear hl;have hl3:(numL (numL (nmL s).2).2).2.1.length≤100000:=Nat.le_trans (numL_eat.le _) (Nat.le_trans (numL_eat.le _) (Nat.le_trans (nmL_eat.le s) hs));have hE:=HD (EL.born (T:=60) (C2:=#[.string ⟨#[]⟩,.int .i64 0,.int .i64 0,.slice none 0 0]) (C3:=#[.string ⟨#[]⟩,.int .i64 0,.int .i64 0,.slice none 0 0]) h);have P1:=HD (itext_c hE.out.r);generalize nmL s=q1 at P1 hl3 ⊢;generalize hQ2:numL q1.2=q2 at hl3;generalize hQ3:numL q2.2=q3 at hl3;generalize hQ4:rowL prL q3.2=q4;replace hQ2:=HD hQ2;replace hQ3:=HD hQ3;replace hQ4:=HD hQ4;have hps:=h.lt;clear hs;have hmf:∀ (fn:Fn) (first cap:Array Value) (w:World),(Instr.makeFunc fn first cap).run Tryz.prog w=.ok (.func fn first cap) w:=fun _ _ _ _=>rfl;go_enter Tryz.func72,Tryz.ntmps72
 go_wp2_with fail
 with_reducible refine P1.out.mono ?_
 rintro e1 y1 ⟨rfl,⟨v1,hR⟩,hc⟩;replace hE:=HD (hE.out.call hR hc);clear P1 hR hc;have c0:=hE.out.e3 (o:=0) rfl;have z0:=hE.out.z3 0
 go_upto_region 3 with fail
 replace hE:=HD (hE.out.set3 0 (.string q1.1));generalize y1.setCell ⟨y.heap.size+1,0,none⟩ (.string q1.1)=W1 at *;clear c0 z0;have P1:=number_c hE.out.r;have n1:=(numL_R hE.out.r.bd).i64;rw[hQ2.out] at P1 n1;replace P1:=HD P1
 go_wp2_with fail
 with_reducible refine P1.out.mono ?_
 rintro e1 y1 ⟨rfl,⟨v2,hR⟩,hc⟩;replace hE:=HD (hE.out.call hR hc);clear P1 hR hc;have c0:=hE.out.e3 (o:=1) rfl;have z0:=hE.out.z3 1
 go_upto_region 4 with fail
 replace hE:=HD (hE.out.set3 1 (.int .i64 q2.1));generalize y1.setCell ⟨y.heap.size+1,1,none⟩ (.int .i64 q2.1)=W2 at *;clear c0 z0;replace n1:=HD n1;have n2:=n1;clear n1;have P1:=number_c hE.out.r;have n1:=(numL_R hE.out.r.bd).i64;rw[hQ3.out] at P1 n1;replace P1:=HD P1
 go_wp2_with fail
 with_reducible refine P1.out.mono ?_
 rintro e1 y1 ⟨rfl,⟨v3,hR⟩,hc⟩;replace hE:=HD (hE.out.call hR hc);clear P1 hR hc;have c0:=hE.out.e3 (o:=2) rfl;have z0:=hE.out.z3 2
 go_upto_region 5 with fail
 replace hE:=HD (hE.out.set3 2 (.int .i64 q3.1));generalize y1.setCell ⟨y.heap.size+1,2,none⟩ (.int .i64 q3.1)=W3 at *;clear c0 z0;replace n1:=HD n1;have hyE:=hE.out.cg.size;have hlE:=hE.out.lt;have P1:=growb_c hE.out.r (by omega);rw[hQ4.out] at P1;replace P1:=HD P1
 go_wp2_with fail
 with_reducible refine P1.out.mono ?_
 rintro e1 y1 ⟨⟨bv,A,I,rfl,hG,hA⟩,⟨v4,hR⟩,hc⟩;have hL:=lies_gr hG hG.prv;rw[hA] at hL;obtain⟨ba,bm,bc,rfl⟩:∃ a m c,bv=.slice a m c:=by
  rcases hG.own.2 with ⟨e,_⟩ | ⟨g,cap,cur,e,_⟩
  ·exact⟨_,_,_,e⟩
  ·exact⟨_,_,_,e⟩
 replace hL:=HD hL;replace hE:=HD (hE.out.call hR hc);clear P1 hR hc hG hA;have c0:=hE.out.e3 (o:=3) rfl;have z0:=hE.out.z3 3
 go_upto_region 6 with fail
 replace hE:=HD (hE.out.set3 3 (.slice ba bm bc));replace hL:=HD (hL.out.set (E:=y.heap.size+1) (o:=3) (by omega) (.slice ba bm bc));generalize y1.setCell ⟨y.heap.size+1,3,none⟩ (.slice ba bm bc)=W4 at *;clear c0 z0;have c0:W4.cell? ⟨y.heap.size+1,0,none⟩=some (.string q1.1):=hE.out.e3 (o:=0) rfl;have c1:W4.cell? ⟨y.heap.size+1,1,none⟩=some (.int .i64 q2.1):=hE.out.e3 (o:=1) rfl;have c2:W4.cell? ⟨y.heap.size+1,2,none⟩=some (.int .i64 q3.1):=hE.out.e3 (o:=2) rfl;have c3:W4.cell? ⟨y.heap.size+1,3,none⟩=some (.slice ba bm bc):=hE.out.e3 (o:=3) rfl;have d0:=hE.out.e2 (o:=0) rfl;have z0:=hE.out.z2 0;have d1:=hE.out.e2 (o:=1) rfl;have z1:=hE.out.z2 1;have d2:=hE.out.e2 (o:=2) rfl;have z2:=hE.out.z2 2;have d3:=hE.out.e2 (o:=3) rfl;have z3:=hE.out.z2 3
 go_wp2
 have hE9:=HD ((((hE.out.set2 0 (.string q1.1)).set2 1 (.int .i64 q2.1)).set2 2 (.int .i64 q3.1)).set2 3 (.slice ba bm bc));have hL9:=HD ((((hL.out.set (E:=y.heap.size) (o:=0) (by omega) (.string q1.1)).set (E:=y.heap.size) (o:=1) (by omega) (.int .i64 q2.1)).set (E:=y.heap.size) (o:=2) (by omega) (.int .i64 q3.1)).set (E:=y.heap.size) (o:=3) (by omega) (.slice ba bm bc));generalize (((W4.setCell ⟨y.heap.size,0,none⟩ (.string q1.1)).setCell ⟨y.heap.size,1,none⟩ (.int .i64 q2.1)).setCell ⟨y.heap.size,2,none⟩ (.int .i64 q3.1)).setCell ⟨y.heap.size,3,none⟩ (.slice ba bm bc)=W9 at *;clear hE hL c0 d0 z0 c1 d1 z1 c2 d2 z2 c3 d3 z3;have d0:W9.cell? ⟨y.heap.size,0,none⟩=some (.string q1.1):=hE9.out.e2 (o:=0) rfl;have d1:W9.cell? ⟨y.heap.size,1,none⟩=some (.int .i64 q2.1):=hE9.out.e2 (o:=1) rfl;have d2:W9.cell? ⟨y.heap.size,2,none⟩=some (.int .i64 q3.1):=hE9.out.e2 (o:=2) rfl;have d3:W9.cell? ⟨y.heap.size,3,none⟩=some (.slice ba bm bc):=hE9.out.e2 (o:=3) rfl;refine bodyPost_ret (class_g_res rfl d0 d1 d2 d3) rfl ?_;exact⟨⟨_,_,rfl,hL9.out.imp (by omega) (fun w2 hp=>⟨n2.out,n1.out,hp⟩),⟨_,_,_,rfl⟩⟩,⟨_,hE9.out.r⟩,hE9.out.cg⟩
theorem obj_g_res {ts:Array Value} {w:World} {q:Nat} {v0 v1:Value} (h8:ts.getD 2 undef=.pointer (some ⟨q,0,none⟩)) (r0:w.cell? ⟨q,0,none⟩=some v0) (r1:w.cell? ⟨q,1,none⟩=some v1) :
  (results Tryz.f76 ts).run Tryz.prog w=.ok (.agg #[v0,v1]) w:=by
 have h8':ts[2]?.getD undef=.pointer (some ⟨q,0,none⟩):=by rw[← Array.getD_eq_getD_getElem?];exact h8
 simp[results,Tryz.results76,go_sem,h8',r0,r1]
set_option maxHeartbeats 16000000 in
theorem obj_g {w y:World} {p:Nat} {v:Value} {s:Rd8} (h:RI w y p v s) (hs:s.1.length≤100000) :
  Calls Tryz.prog 76 #[.pointer (some ⟨p,0,none⟩)] y fun e y'=>(∃ bv J,e=.returned (.agg #[.int .i64 (obL s).1.cls,bv])∧Lies y.heap.size J y' (Qo ((obL s).1,bv))∧∃ a m c,bv=.slice a m c)∧(∃ v',RI w y' p v' (obL s).2)∧Cg (fun k=>k=p) y y':=by
 have hl:obL s=(⟨(numL s).1,(rowL prL (numL s).2).1⟩,(rowL prL (numL s).2).2):=rfl;rw[hl];clear hl;have hl3:(numL s).2.1.length≤100000:=Nat.le_trans (numL_eat.le s) hs;have hE:=HD (EL.born (T:=55) (C2:=#[.int .i64 0,.slice none 0 0]) (C3:=#[.int .i64 0,.slice none 0 0]) h);have P1:=HD (number_c hE.out.r);have n1:=HD (numL_R h.bd).i64;generalize numL s=q1 at P1 hl3 n1 ⊢;generalize hQ4:rowL prL q1.2=q4;replace hQ4:=HD hQ4;have hps:=h.lt;clear hs;have hmf:∀ (fn:Fn) (first cap:Array Value) (w:World),(Instr.makeFunc fn first cap).run Tryz.prog w=.ok (.func fn first cap) w:=fun _ _ _ _=>rfl;go_enter Tryz.func76,Tryz.ntmps76
 go_wp2_with fail
 with_reducible refine P1.out.mono ?_
 rintro e1 y1 ⟨rfl,⟨v1,hR⟩,hc⟩;replace hE:=HD (hE.out.call hR hc);clear P1 hR hc;have c0:=hE.out.e3 (o:=0) rfl;have z0:=hE.out.z3 0
 go_upto_region 3 with fail
 replace hE:=HD (hE.out.set3 0 (.int .i64 q1.1));generalize y1.setCell ⟨y.heap.size+1,0,none⟩ (.int .i64 q1.1)=W1 at *;clear c0 z0;have hyE:=hE.out.cg.size;have hlE:=hE.out.lt;have P1:=growv_c hE.out.r (by omega);rw[hQ4.out] at P1;replace P1:=HD P1
 go_wp2_with fail
 with_reducible refine P1.out.mono ?_
 rintro e1 y1 ⟨⟨bv,A,I,rfl,hG,hA⟩,⟨v4,hR⟩,hc⟩;have hL:=lies_gr hG hG.prv;rw[hA] at hL;obtain⟨ba,bm,bc,rfl⟩:∃ a m c,bv=.slice a m c:=by
  rcases hG.own.2 with ⟨e,_⟩ | ⟨g,cap,cur,e,_⟩
  ·exact⟨_,_,_,e⟩
  ·exact⟨_,_,_,e⟩
 replace hL:=HD hL;replace hE:=HD (hE.out.call hR hc);clear P1 hR hc hG hA;have c0:=hE.out.e3 (o:=1) rfl;have z0:=hE.out.z3 1
 go_upto_region 4 with fail
 replace hE:=HD (hE.out.set3 1 (.slice ba bm bc));replace hL:=HD (hL.out.set (E:=y.heap.size+1) (o:=1) (by omega) (.slice ba bm bc));generalize y1.setCell ⟨y.heap.size+1,1,none⟩ (.slice ba bm bc)=W4 at *;clear c0 z0;have c0:W4.cell? ⟨y.heap.size+1,0,none⟩=some (.int .i64 q1.1):=hE.out.e3 (o:=0) rfl;have c1:W4.cell? ⟨y.heap.size+1,1,none⟩=some (.slice ba bm bc):=hE.out.e3 (o:=1) rfl;have d0:=hE.out.e2 (o:=0) rfl;have z0:=hE.out.z2 0;have d1:=hE.out.e2 (o:=1) rfl;have z1:=hE.out.z2 1
 go_wp2
 have hE9:=HD ((hE.out.set2 0 (.int .i64 q1.1)).set2 1 (.slice ba bm bc));have hL9:=HD ((hL.out.set (E:=y.heap.size) (o:=0) (by omega) (.int .i64 q1.1)).set (E:=y.heap.size) (o:=1) (by omega) (.slice ba bm bc));generalize (W4.setCell ⟨y.heap.size,0,none⟩ (.int .i64 q1.1)).setCell ⟨y.heap.size,1,none⟩ (.slice ba bm bc)=W9 at *;clear hE hL c0 d0 z0 c1 d1 z1;have d0:W9.cell? ⟨y.heap.size,0,none⟩=some (.int .i64 q1.1):=hE9.out.e2 (o:=0) rfl;have d1:W9.cell? ⟨y.heap.size,1,none⟩=some (.slice ba bm bc):=hE9.out.e2 (o:=1) rfl;refine bodyPost_ret (obj_g_res rfl d0 d1) rfl ?_;exact⟨⟨_,_,rfl,hL9.out.imp (by omega) (fun w2 hp=>⟨n1.out,hp⟩),⟨_,_,_,rfl⟩⟩,⟨_,hE9.out.r⟩,hE9.out.cg⟩
theorem step_app_any2 {P:Program} {w:World} {ops:Array Oper} {o:Oper} {a:Act} {K:Act→World→Prop} {Q:Exit→Act→World→Prop} {E:Prop} (hgd:o.guard=none) (s x:Operand) (t:TypeId)
  (ho:o.op=.call { callee:=.builtin .append,args:=#[s,x],argTypes:=#[t,t] })
  (base:Nat) (e:TypeId) (i:TypeInfo) (z:Value) (size bytes:Nat) (ht:P.underlying t=some (.slice e)) (hi:P.info? e=some i) (hz:i.zero=some z)
  (hsize:i.size=size) (hby:i.bytes=bytes) (hzs:z.cells.size=size) (hsz:0 < size)
  (v u:Value) (n m:Nat) (xs news:List Value) (hs:a.eval s=v) (hx:a.eval x=u) (hown:w.ownsRow base e size v n xs) (hu:Rd w u m news) (hl:news.length=m*size) (h1:∀ u∈news,u.oneCell'=true)
  (h63:n+m≤maxLen) (hbytes:(n+m)*bytes≤140737488355328) (hbase:base≤w.heap.size)
  (h:∀ v' w',w'.ownsRow base e size v' (n+m) (xs++news)→w.grownBy w' v.ownBlock→(v'.ownBlock=v.ownBlock∨v'.ownBlock=some w.heap.size)→K (a.put o.dst v') w') :
  if Region.wanted o (yielded ops a.tmps)=true then Oper.wp P o a w K Q else E:=by
 have hw:Region.wanted o (yielded ops a.tmps)=true:=by simp[Region.wanted,hgd]
 rw[if_pos hw];obtain⟨v',w',hr,h2,h3,h5⟩:=run_app_any (P:=P) w base t o.type e i z size bytes ht hi hz hsize hby hzs hsz v u n m xs news hown hu hl h1 h63 hbytes hbase;unfold Oper.wp execOp;simp only[ho,resolve,invoke,builtin,Sem.run_bind,Sem.run_pure,Result.andThen_ok,List.map_toArray,List.map_cons,List.map_nil,hs,hx,hr];exact h v' w' h2 h3 h5
theorem mtL_eq (s:Rd8):mtL s=(⟨(numL s).1,(numL (numL s).2).1,(rowL prL (numL (numL s).2).2).1,(cutR (lenL (rowL prL (numL (numL s).2).2).2).1 (lenL (rowL prL (numL (numL s).2).2).2).2).1⟩,(cutR (lenL (rowL prL (numL (numL s).2).2).2).1 (lenL (rowL prL (numL (numL s).2).2).2).2).2):=rfl
theorem cutR_len (n:Int) (s:Rd8):(cutR n s).1.length≤s.1.length:=by
 unfold cutR
 split
 ·simp
 ·simp only[List.length_take];omega
theorem method_g_res {ts:Array Value} {w:World} {q:Nat} {v0 v1 v2 v3:Value} (h8:ts.getD 2 undef=.pointer (some ⟨q,0,none⟩)) (r0:w.cell? ⟨q,0,none⟩=some v0) (r1:w.cell? ⟨q,1,none⟩=some v1) (r2:w.cell? ⟨q,2,none⟩=some v2) (r3:w.cell? ⟨q,3,none⟩=some v3) :
  (results Tryz.f74 ts).run Tryz.prog w=.ok (.agg #[v0,v1,v2,v3]) w:=by
 have h8':ts[2]?.getD undef=.pointer (some ⟨q,0,none⟩):=by rw[← Array.getD_eq_getD_getElem?];exact h8
 simp[results,Tryz.results74,go_sem,h8',r0,r1,r2,r3]
set_option maxHeartbeats 16000000 in
theorem method_g {w y:World} {p:Nat} {v:Value} {s:Rd8} (h:RI w y p v s) (hs:s.1.length≤100000) :
  Calls Tryz.prog 74 #[.pointer (some ⟨p,0,none⟩)] y fun e y'=>(∃ lv cv J,e=.returned (.agg #[.int .i64 (mtL s).1.args,.int .i64 (mtL s).1.temps,lv,cv])∧Lies y.heap.size J y' (Qm ((mtL s).1,lv,cv))∧(∃ a m c,lv=.slice a m c)∧∃ a m c,cv=.slice a m c)∧(∃ v',RI w y' p v' (mtL s).2)∧Cg (fun k=>k=p) y y':=by
 obtain⟨i0,hi0,hz0,hz1,hz2⟩:=info_parts infoB8;have hmx:400000≤maxLen:=by decide
 rw[mtL_eq];have hl2:(numL (numL s).2).2.1.length≤100000:=Nat.le_trans (numL_eat.le _) (Nat.le_trans (numL_eat.le s) hs);have hb5:=rowP_eat.bd _ (numL_eat.bd _ (numL_eat.bd s h.bd));have hl6:=Nat.le_trans (cutR_len (lenL (rowL prL (numL (numL s).2).2).2).1 (lenL (rowL prL (numL (numL s).2).2).2).2) (Nat.le_trans (lenL_eat.le _) (Nat.le_trans (rowP_eat.le _) hl2));have hb6:=HD ((cutR_all (lenL (rowL prL (numL (numL s).2).2).2).1 (lenL_pos _) (lenL (rowL prL (numL (numL s).2).2).2).2).2.2.1 (lenL_eat.bd _ hb5)).2;have h50:=lenL_pos (rowL prL (numL (numL s).2).2).2;have h51:=lenL_R hb5;have hE:=HD (EL.born (T:=63) (C2:=#[.int .i64 0,.int .i64 0,.slice none 0 0,.slice none 0 0]) (C3:=#[.int .i64 0,.int .i64 0,.slice none 0 0,.slice none 0 0]) h);have P1:=HD (number_c hE.out.r);have n2:=HD (numL_R h.bd).i64;clear hb5;generalize numL s=q1 at P1 hl2 hl6 hb6 h50 h51 n2 ⊢;generalize hQ2:numL q1.2=q2 at hl2 hl6 hb6 h50 h51;generalize hQ4:rowL prL q2.2=q4 at hl6 hb6 h50 h51;generalize hQ5:lenL q4.2=q5 at hl6 hb6 h50 h51;generalize hQ6:cutR q5.1 q5.2=q6 at hl6 hb6;replace hQ2:=HD hQ2;replace hQ4:=HD hQ4;replace hQ5:=HD hQ5;replace hQ6:=HD hQ6;have hps:=h.lt;clear hs;have hmf:∀ (fn:Fn) (first cap:Array Value) (w:World),(Instr.makeFunc fn first cap).run Tryz.prog w=.ok (.func fn first cap) w:=fun _ _ _ _=>rfl;go_enter Tryz.func74,Tryz.ntmps74
 go_wp2_with fail
 with_reducible refine P1.out.mono ?_
 rintro e1 y1 ⟨rfl,⟨v1,hR⟩,hc⟩;replace hE:=HD (hE.out.call hR hc);clear P1 hR hc;have c0:=hE.out.e3 (o:=0) rfl;have z0:=hE.out.z3 0
 go_upto_region 3 with fail
 replace hE:=HD (hE.out.set3 0 (.int .i64 q1.1));generalize y1.setCell ⟨y.heap.size+1,0,none⟩ (.int .i64 q1.1)=W1 at *;clear c0 z0;have P1:=number_c hE.out.r;have n1:=(numL_R hE.out.r.bd).i64;rw[hQ2.out] at P1 n1;replace P1:=HD P1
 go_wp2_with fail
 with_reducible refine P1.out.mono ?_
 rintro e1 y1 ⟨rfl,⟨v2,hR⟩,hc⟩;replace hE:=HD (hE.out.call hR hc);clear P1 hR hc;have c0:=hE.out.e3 (o:=1) rfl;have z0:=hE.out.z3 1
 go_upto_region 4 with fail
 replace hE:=HD (hE.out.set3 1 (.int .i64 q2.1));generalize y1.setCell ⟨y.heap.size+1,1,none⟩ (.int .i64 q2.1)=W2 at *;clear c0 z0;replace n1:=HD n1;have hyE:=hE.out.cg.size;have hlE:=hE.out.lt;have P1:=growv_c hE.out.r (by omega);rw[hQ4.out] at P1;replace P1:=HD P1
 go_wp2_with fail
 with_reducible refine P1.out.mono ?_
 rintro e1 y1 ⟨⟨bv,A,I,rfl,hG,hA⟩,⟨v4,hR⟩,hc⟩;have hL:=lies_gr hG hG.prv;rw[hA] at hL;obtain⟨ba,bm,bc,rfl⟩:∃ a m c,bv=.slice a m c:=by
  rcases hG.own.2 with ⟨e,_⟩ | ⟨g,cap,cur,e,_⟩
  ·exact⟨_,_,_,e⟩
  ·exact⟨_,_,_,e⟩
 replace hL:=HD hL;replace hE:=HD (hE.out.call hR hc);clear P1 hR hc hG hA;have c0:=hE.out.e3 (o:=2) rfl;have z0:=hE.out.z3 2
 go_upto_region 5 with fail
 replace hE:=HD (hE.out.set3 2 (.slice ba bm bc));replace hL:=HD (hL.out.set (E:=y.heap.size+1) (o:=2) (by omega) (.slice ba bm bc));generalize y1.setCell ⟨y.heap.size+1,2,none⟩ (.slice ba bm bc)=W4 at *;clear c0 z0;replace hE:=HD (hE.out.call (hE.out.r.up (Below.refl _ _).drew) ((Cg.refl (fun k=>k=p) W4).drew));replace hL:=HD (hL.out.cg ((Cg.refl (fun k=>k=p) W4).drew) (fun k e=>by omega));refine wp_region_last (d:=8) (fuel:=8) (S:=(fun W=>W.cell? ⟨y.heap.size+1,3,none⟩=some (.slice none 0 0))) (by kernel_rfl) (by kernel_rfl) rfl ?_ (fun hHeld=>?_)
 ·(try dsimp only);exact hE.out.e3 (o:=3) rfl
 try simp only[nA]
 generalize W4.drew=y0 at *;have P1:=length_c hE.out.r;rw[hQ5.out] at P1;replace P1:=HD P1;refine tk (i:=0) (oi:=⟨some 15,.fieldAddr 63 (.tmp 3) 3,0,"get.go:87",#[],none⟩) ?_
 try simp only[nA]
 refine tk (i:=1) (oi:=⟨some 16,.load 36 (.tmp 15),36,"get.go:87",#[⟨0,.data⟩],none⟩) ?_
 try simp only[nA]
 refine tk (i:=2) (oi:=⟨some 17,.move (.tmp 0),83,"get.go:87",#[],none⟩) ?_
 try simp only[nA]
 refine tk (i:=3) (oi:=⟨some 18,.move (.tmp 0),83,"get.go:87",#[],none⟩) ?_
 try simp only[nA]
 refine wpAnyH_ready (rs:=[4]) (by kernel_rfl) (by simp) ?_;refine AllReadyH.cons (o:=⟨some 19,.call { callee:=.value (.func 96),args:=#[.tmp 18],argTypes:=#[83] },3,"get.go:87",#[⟨3,.data⟩],none⟩) rfl (fun K9 hK=>?_) AllReadyH.nil;go_simp
 with_reducible refine P1.out.mono ?_
 rintro e y1 ⟨rfl,⟨v5,hR⟩,hc⟩;replace hL:=HD (hL.out.cg hc (fun k e=>by omega));replace hE:=HD (hE.out.call hR hc);clear P1 hR hc;have P1:=take_i hE.out.r q5.1 h50 (by omega);rw[hQ6.out] at P1;replace P1:=HD P1
 go_wp2_with fail
 refine hK.out _ _ ?_ ?_
 ·(try dsimp only);exact hE.out.e3 (o:=3) rfl
 clear hK K9 hHeld;intro hHeld
 try simp only[nA]
 refine wpAnyH_ready (rs:=[5]) (by kernel_rfl) (by simp) ?_;refine AllReadyH.cons (o:=⟨some 20,.call { callee:=.value (.func 68),args:=#[.tmp 17,.tmp 19],argTypes:=#[83,3] },36,"get.go:87",#[⟨2,.data⟩,⟨4,.data⟩,⟨4,.chain⟩],none⟩) rfl (fun K9 hK=>?_) AllReadyH.nil;go_simp
 with_reducible refine P1.out.mono ?_
 rintro e y2 ⟨⟨t,rfl,hft,ht⟩,⟨v6,hR⟩,hc⟩;replace hL:=HD (hL.out.cg hc (fun k e=>by omega));replace hE:=HD (hE.out.call hR hc);clear P1 hR hc hft;have hyE:=hE.out.cg.size;have hlE:=hE.out.lt;have hT:=(ht.up hE.out.r.bel).rd;have hown:y2.ownsRow y2.heap.size 5 1 (.slice none 0 0) 0 (bys []):=⟨rfl,Or.inl ⟨rfl,rfl⟩⟩
 replace hT:=HD hT;replace ht:=HD ht
 go_wp2_with fail
 refine hK.out _ _ ?_ ?_
 ·(try dsimp only);exact hE.out.e3 (o:=3) rfl
 clear hK K9 hHeld;intro hHeld
 try simp only[nA]
 refine wpAnyH_ready (rs:=[6]) (by kernel_rfl) (by simp) ?_;refine AllReadyH.cons (o:=⟨some 21,.call { callee:=.builtin .append,args:=#[.tmp 16,.tmp 20],argTypes:=#[36,36] },36,"get.go:87",#[⟨1,.data⟩,⟨5,.data⟩,⟨5,.chain⟩],none⟩) rfl (fun K9 hK=>?_) AllReadyH.nil;refine step_app_any2 rfl (.tmp 16) (.tmp 20) 36 rfl y2.heap.size 5 i0 (.int .u8 0) 1 1 Tryz.underlying36 hi0 hz0 hz1 hz2 rfl (by decide) (.slice none 0 0) t 0 q6.1.length (bys []) (bys q6.1) rfl rfl hown hT.out (by rw[bys_ln,Nat.mul_one]) (bys_one _) (by omega) (by omega) (Nat.le_refl _) ?_;intro v7 y3 hown3 hgrow3 hat3;have hcv:=ByV.own (T:=q6.1) (by simpa [bys] using hown3) hb6.out;have hL2:=HD (show Lies y2.heap.size (fun k=>v7.ownBlock=some k) y3 (fun w2=>ByV w2 v7 q6.1) from ⟨stay_byv hcv,hown3.lt⟩);obtain⟨ca,cm,cc,rfl⟩:∃ a m c,v7=.slice a m c:=by
  rcases hown3.2 with ⟨e,_⟩ | ⟨g,cap,cur,e,_⟩
  ·exact⟨_,_,_,e⟩
  ·exact⟨_,_,_,e⟩
 have c3:Cg (fun _=>False) y2 y3:=(Cg.refl (fun _=>False) y2).grown hgrow3 (fun k e=>by cases e);replace hL:=HD (hL.out.cg c3 (fun k e=>e.elim));replace hE:=HD (hE.out.call (hE.out.r.cg c3 (fun k e=>e.elim)) (c3.mono (fun k e=>e.elim)));clear hown hown3 hgrow3 hat3 hcv hT c3;refine hK.out _ _ ?_ ?_
 ·(try dsimp only);exact hE.out.e3 (o:=3) rfl
 clear hK K9 hHeld;intro hHeld
 try simp only[nA]
 refine tk (i:=7) (oi:=⟨some 22,.fieldAddr 63 (.tmp 3) 3,0,"get.go:87",#[⟨0,.phase⟩,⟨1,.phase⟩,⟨2,.phase⟩,⟨3,.phase⟩,⟨4,.phase⟩,⟨5,.phase⟩,⟨6,.phase⟩],none⟩) ?_
 try simp only[nA]
 have c0:=hE.out.e3 (o:=3) rfl;have z0:=hE.out.z3 3;refine last_step (o:=⟨none,.store 36 (.tmp 22) (.tmp 21),0,"get.go:87",#[⟨7,.data⟩,⟨6,.data⟩,⟨6,.chain⟩,⟨0,.phase⟩,⟨1,.phase⟩,⟨2,.phase⟩,⟨3,.phase⟩,⟨4,.phase⟩,⟨5,.phase⟩,⟨6,.phase⟩],none⟩) rfl (by kernel_rfl) (fun K hK=>?_);go_simp;refine hK.out _ _ ?_;clear hK K
 try simp only[nA]
 replace hE:=HD (hE.out.set3 3 (.slice ca cm cc));replace hL:=HD (hL.out.set (E:=y.heap.size+1) (o:=3) (by omega) (.slice ca cm cc));replace hL2:=HD (hL2.out.set (E:=y.heap.size+1) (o:=3) (by omega) (.slice ca cm cc));generalize y3.setCell ⟨y.heap.size+1,3,none⟩ (.slice ca cm cc)=W5 at *;clear c0 z0;replace hL:=HD (show Lies (y.heap.size+2) (fun k=>_∨(Value.slice ca cm cc).ownBlock=some k) W5 (fun w2=>PrV w2 (.slice ba bm bc) q4.1∧ByV w2 (.slice ca cm cc) q6.1) from ⟨(hL.out.1.more (fun k e=>Or.inl e)).and (hL2.out.1.more (fun k e=>Or.inr e)),fun k hk=>by
  rcases hk with hk | hk
  ·have:=hL.out.2 k hk;omega
  ·have:=hL2.out.2 k hk;omega⟩)
 clear hL2;have c0:W5.cell? ⟨y.heap.size+1,0,none⟩=some (.int .i64 q1.1):=hE.out.e3 (o:=0) rfl;have c1:W5.cell? ⟨y.heap.size+1,1,none⟩=some (.int .i64 q2.1):=hE.out.e3 (o:=1) rfl;have c2:W5.cell? ⟨y.heap.size+1,2,none⟩=some (.slice ba bm bc):=hE.out.e3 (o:=2) rfl;have c3:W5.cell? ⟨y.heap.size+1,3,none⟩=some (.slice ca cm cc):=hE.out.e3 (o:=3) rfl;have d0:=hE.out.e2 (o:=0) rfl;have z0:=hE.out.z2 0;have d1:=hE.out.e2 (o:=1) rfl;have z1:=hE.out.z2 1;have d2:=hE.out.e2 (o:=2) rfl;have z2:=hE.out.z2 2;have d3:=hE.out.e2 (o:=3) rfl;have z3:=hE.out.z2 3
 go_wp2
 have hE9:=HD ((((hE.out.set2 0 (.int .i64 q1.1)).set2 1 (.int .i64 q2.1)).set2 2 (.slice ba bm bc)).set2 3 (.slice ca cm cc));have hL9:=HD ((((hL.out.set (E:=y.heap.size) (o:=0) (by omega) (.int .i64 q1.1)).set (E:=y.heap.size) (o:=1) (by omega) (.int .i64 q2.1)).set (E:=y.heap.size) (o:=2) (by omega) (.slice ba bm bc)).set (E:=y.heap.size) (o:=3) (by omega) (.slice ca cm cc));generalize (((W5.setCell ⟨y.heap.size,0,none⟩ (.int .i64 q1.1)).setCell ⟨y.heap.size,1,none⟩ (.int .i64 q2.1)).setCell ⟨y.heap.size,2,none⟩ (.slice ba bm bc)).setCell ⟨y.heap.size,3,none⟩ (.slice ca cm cc)=W9 at *;clear hE hL c0 d0 z0 c1 d1 z1 c2 d2 z2 c3 d3 z3;have d0:W9.cell? ⟨y.heap.size,0,none⟩=some (.int .i64 q1.1):=hE9.out.e2 (o:=0) rfl;have d1:W9.cell? ⟨y.heap.size,1,none⟩=some (.int .i64 q2.1):=hE9.out.e2 (o:=1) rfl;have d2:W9.cell? ⟨y.heap.size,2,none⟩=some (.slice ba bm bc):=hE9.out.e2 (o:=2) rfl;have d3:W9.cell? ⟨y.heap.size,3,none⟩=some (.slice ca cm cc):=hE9.out.e2 (o:=3) rfl;refine bodyPost_ret (method_g_res rfl d0 d1 d2 d3) rfl ?_;exact⟨⟨_,_,_,rfl,hL9.out.imp (by omega) (fun w2 hp=>⟨n2.out,n1.out,hp⟩),⟨_,_,_,rfl⟩,⟨_,_,_,rfl⟩⟩,⟨_,hE9.out.r⟩,hE9.out.cg⟩
end Wd
end Go.Proofs.YtgfnelhbdhbklaaGreat
