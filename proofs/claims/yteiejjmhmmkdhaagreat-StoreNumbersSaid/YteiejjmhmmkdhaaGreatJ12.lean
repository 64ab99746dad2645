/- Texts joined: CC, CB, CE, CF, VD, VI, VJ, WL, WM. -/
import Derived.Test.YteiejjmhmmkdhaaGreatJ8
import Derived.Test.YteiejjmhmmkdhaaGreatJ9
import Derived.Test.YteiejjmhmmkdhaaGreatJ11
import Derived.StillTailTactics
import Derived.Defers
import Derived.Recover
/- The landed instructions: slots, the end, literals. -/
namespace Go.Proofs.YteiejjmhmmkdhaaGreat
open Go.RowKit
set_option linter.unusedVariables false
set_option maxRecDepth 20000
namespace Wd
def slR (m:MethA):Bool:=decide (0≤m.args) && decide (0≤m.temps) && decide (m.temps≤8 - m.args)
set_option maxHeartbeats 8000000 in
theorem kslots_c {w:World} {v:Value} {m:MethA} (h:MeV w v m):Calls Tryz.prog 98 #[v] w fun e w'=>e=.returned (.bool (slR m))∧Below w.heap.size w w':=by
 obtain⟨la,lc,ca,cc,rfl,hl,hc⟩:=h.ex
 have hB:=Lib.hid (MeB.born h)
 have hW:=Lib.hid ((Below.refl w.heap.size w).alloc (Nat.le_refl _) (.cells #[.int .i64 m.args,.int .i64 m.temps,.slice la m.lits.length lc,.slice ca m.code.length cc] 75))
 obtain⟨p0,p1⟩:=h.a64
 obtain⟨p2,p3⟩:=h.t64
 have a0:=hB.out.c0
 have a1:=hB.out.c1
 go_enter Tryz.func98,Tryz.ntmps98
 go_upto_region 1 with fail
 clear h hl hc
 generalize w.alloc (.cells #[.int .i64 m.args,.int .i64 m.temps,.slice la m.lits.length lc,.slice ca m.code.length cc] 75)=W at *
 by_cases h0:0≤m.args
 ·have d0:decide (m.args ≥ 0)=true:=by simpa using h0
  have wk:IntKind.i64.wrap (8 - m.args)=8 - m.args:=by rw [IntKind.wrap_i64];omega
  by_cases h1:0≤m.temps
  ·have d1:decide (m.temps ≥ 0)=true:=by simpa using h1
   have e:Hid (slR m=decide (m.temps≤8 - m.args)):=Lib.hid (by unfold slR;rw [decide_eq_true h0,decide_eq_true h1];rfl)
   go_wp2
   go_ret
   exact⟨by rw [e.out];rfl,hW.out⟩
  ·have d1:decide (m.temps ≥ 0)=false:=by simpa using h1
   have e:Hid (slR m=false):=Lib.hid (by unfold slR;rw [decide_eq_true h0,decide_eq_false h1];rfl)
   go_wp2
   go_ret
   exact⟨by rw [e.out];rfl,hW.out⟩
 ·have d0:decide (m.args ≥ 0)=false:=by simpa using h0
  have e:Hid (slR m=false):=Lib.hid (by unfold slR;rw [decide_eq_false h0];rfl)
  go_wp2
  go_ret
  exact⟨by rw [e.out];rfl,hW.out⟩
def endB (x:Int):Bool:=decide (x=14) || decide (x=19) || decide (x=16)
def endR (C:List Int):Bool:=if C.length < 2∨C.length % 2≠0 then false else endB (byAt C (C.length - 2))
set_option maxHeartbeats 8000000 in
theorem kend_c {w:World} {v:Value} {C:List Int} (h:ByV w v C):Calls Tryz.prog 99 #[v] w fun e w'=>e=.returned (.bool (endR C))∧w'=w:=by
 obtain⟨ca,cc,rfl,hcc,hcm⟩:=h.form
 have hle:=len_le h.le
 go_enter Tryz.func99,Tryz.ntmps99
 go_upto_region 1 with fail
 by_cases h2:C.length < 2
 ·have d2:decide ((C.length:Int) < 2)=true:=by simp;omega
  have e:Hid (endR C=false):=Lib.hid (if_pos (Or.inl h2))
  go_wp2
  go_ret
  exact⟨by rw [e.out];rfl,rfl⟩
 have d2:decide ((C.length:Int) < 2)=false:=by simp;omega
 have hm:=mod2 (n:=C.length)
 rcases (show C.length % 2=1∨C.length % 2=0 by omega) with h1 | h1
 ·have e:Hid (endR C=false):=Lib.hid (if_pos (Or.inr (by omega)))
  rw [h1] at hm
  replace hm:Int.tmod (C.length:Int) 2=1:=hm
  go_wp2
  go_ret
  exact⟨by rw [e.out];rfl,rfl⟩
 rw [h1] at hm
 replace hm:Int.tmod (C.length:Int) 2=0:=hm
 have e:endR C=endB (byAt C (C.length - 2)):=if_neg (by omega)
 obtain⟨k,hk⟩:∃ k,k=C.length - 2:=⟨_,rfl⟩
 have wm:IntKind.i64.wrap ((C.length:Int) - 2)=(k:Int):=by rw [IntKind.wrap_i64];omega
 have k0:(0:Int)≤(k:Int):=by omega
 have k1:(k:Int) < (C.length:Int):=by omega
 obtain⟨bb,g,off,rfl,c0⟩:=h.at (byAt_some (C:=C) (k:=k) (by omega))
 rw [← hk] at e
 generalize byAt C k=x at *
 replace e:=Lib.hid e
 clear hk
 go_upto_region 4 with fail
 clear d2 hm h1 h2
 by_cases h14:x=14
 ·subst h14
  go_wp2
  go_ret
  exact⟨by rw [e.out];rfl,rfl⟩
 by_cases h19:x=19
 ·subst h19
  go_wp2
  go_ret
  exact⟨by rw [e.out];rfl,rfl⟩
 by_cases h16:x=16
 ·subst h16
  go_wp2
  go_ret
  exact⟨by rw [e.out];rfl,rfl⟩
 have f14:(x == 14)=false:=by simpa using h14
 have f19:(x == 19)=false:=by simpa using h19
 have f16:(x == 16)=false:=by simpa using h16
 have e':Hid (endB x=false):=Lib.hid (by unfold endB;rw [decide_eq_false h14,decide_eq_false h19,decide_eq_false h16];rfl)
 clear h14 h19 h16
 go_wp2
 go_ret
 exact⟨by rw [e.out,e'.out];rfl,rfl⟩
set_option maxHeartbeats 8000000 in
theorem krightLit_c {w:World} {u:Value} {U:UnitA} (h:UnK w u U) (k x:Int) :
  Calls Tryz.prog 112 #[.agg #[.int .i64 k,.int .i64 x],u] w fun e w'=>e=.returned (.bool (litR (k,x) U.names.length U.classes.length U.methods.length))∧Below w.heap.size w w':=by
 obtain⟨na,nc,ca,cc,ma,mc,oa,oc,rfl,hu⟩:=h.ex
 clear h hu
 generalize U.names.length=nn at *
 generalize U.classes.length=nk at *
 generalize U.methods.length=nm at *
 generalize U.objects.length=no at *
 generalize U.main=um at *
 have hW:=Lib.hid (((Below.refl w.heap.size w).alloc (Nat.le_refl _) (.cells #[.int .i64 k,.int .i64 x] 80)).alloc (by simp only [World.size_alloc];omega) (.cells #[.slice na nn nc,.slice ca nk cc,.slice ma nm mc,.slice oa no oc,.int .i64 um] 32))
 by_cases h3:k=3
 ·subst h3
  by_cases h0:-1073741824≤x
  ·have d0:decide (x ≥ -1073741824)=true:=by simpa using h0
   have e:Hid (litR (3,x) nn nk nm=decide (x≤1073741823)):=Lib.hid ((lit_num x nn nk nm).trans (by unfold num30;rw [decide_eq_true h0];rfl))
   go_enter Tryz.func112,Tryz.ntmps112
   go_wp2
   go_ret
   exact⟨by rw [e.out];rfl,hW.out⟩
  ·have d0:decide (x ≥ -1073741824)=false:=by simp;omega
   have e:Hid (litR (3,x) nn nk nm=false):=Lib.hid ((lit_num x nn nk nm).trans (by unfold num30;rw [decide_eq_false h0];rfl))
   go_enter Tryz.func112,Tryz.ntmps112
   go_wp2
   go_ret
   exact⟨by rw [e.out];rfl,hW.out⟩
 by_cases h5:k=5
 ·subst h5
  have PN:=Lib.hid (fun w=>kisOne_c x (nn:Int) w)
  have e:Hid (litR (5,x) nn nk nm=(decide (0≤x) && decide (x < (nn:Int)))):=Lib.hid (lit_sel x nn nk nm)
  go_enter Tryz.func112,Tryz.ntmps112
  go_wp2_with fail
  refine (PN.out _).mono ?_
  rintro e1 w1 ⟨rfl,hw⟩
  subst w1
  go_wp2
  go_ret
  exact⟨by rw [e.out];rfl,hW.out⟩
 by_cases h6:k=6
 ·subst h6
  have PN:=Lib.hid (fun w=>kisOne_c x (nk:Int) w)
  have e:Hid (litR (6,x) nn nk nm=(decide (0≤x) && decide (x < (nk:Int)))):=Lib.hid (lit_cls x nn nk nm)
  go_enter Tryz.func112,Tryz.ntmps112
  go_wp2_with fail
  refine (PN.out _).mono ?_
  rintro e1 w1 ⟨rfl,hw⟩
  subst w1
  go_wp2
  go_ret
  exact⟨by rw [e.out];rfl,hW.out⟩
 by_cases h7:k=7
 ·subst h7
  have PN:=Lib.hid (fun w=>kisOne_c x (nm:Int) w)
  have e:Hid (litR (7,x) nn nk nm=(decide (0≤x) && decide (x < (nm:Int)))):=Lib.hid (lit_blk x nn nk nm)
  go_enter Tryz.func112,Tryz.ntmps112
  go_wp2_with fail
  refine (PN.out _).mono ?_
  rintro e1 w1 ⟨rfl,hw⟩
  subst w1
  go_wp2
  go_ret
  exact⟨by rw [e.out];rfl,hW.out⟩
 have e:Hid (litR (k,x) nn nk nm=false):=Lib.hid (lit_no nn nk nm h3 h5 h6 h7)
 have f3:(k == 3)=false:=by simpa using h3
 have f5:(k == 5)=false:=by simpa using h5
 have f6:(k == 6)=false:=by simpa using h6
 have f7:(k == 7)=false:=by simpa using h7
 clear h3 h5 h6 h7
 go_enter Tryz.func112,Tryz.ntmps112
 go_wp2
 go_ret
 exact⟨by rw [e.out];rfl,hW.out⟩
structure LiS (w0 wr:World) (q:Nat) (v u:Value) (L:List (Int × Int)) (U:UnitA) (na ka ma oa:Option Addr) (nc kc mc oc:Nat):Prop where
 l:PrV wr v L
 u:UnB wr q u U na ka ma oa nc kc mc oc
 bel:Below w0.heap.size w0 wr
theorem LiS.up {w0 w w1:World} {q:Nat} {v u:Value} {L:List (Int × Int)} {U:UnitA} {na ka ma oa:Option Addr} {nc kc mc oc:Nat} (h:LiS w0 w q v u L U na ka ma oa nc kc mc oc) (b:Below w.heap.size w w1):LiS w0 w1 q v u L U na ka ma oa nc kc mc oc :=
 ⟨h.l.up b,h.u.up b,h.bel.trans (b.mono h.bel.size)⟩
set_option maxHeartbeats 16000000 in
theorem klits_c {w:World} {v u:Value} {L:List (Int × Int)} {U:UnitA} (h:PrV w v L) (hu:UnK w u U) :
  Calls Tryz.prog 100 #[v,u] w fun e w'=>e=.returned (.bool (L.all (fun x=>litR x U.names.length U.classes.length U.methods.length)))∧Below w.heap.size w w':=by
 obtain⟨la,lc,rfl,hlc,hlm,_⟩:=h.ex
 obtain⟨na,nc,ka,kc,ma,mc,oa,oc,rfl,_⟩:=hu.ex
 have hw1:=(Below.refl w.heap.size w).alloc (Nat.le_refl _) (.cells #[.slice na U.names.length nc,.slice ka U.classes.length kc,.slice ma U.methods.length mc,.slice oa U.objects.length oc,.int .i64 U.main] 32)
 have S0:Hid (LiS w (w.alloc (.cells #[.slice na U.names.length nc,.slice ka U.classes.length kc,.slice ma U.methods.length mc,.slice oa U.objects.length oc,.int .i64 U.main] 32)) w.heap.size _ _ L U na ka ma oa nc kc mc oc):=Lib.hid ⟨h.up hw1,UnB.born hu,hw1⟩
 have hle:=len_le h.le
 clear h hu hw1
 have hst:Hid (L.all (fun x=>litR x U.names.length U.classes.length U.methods.length)=(L.drop 0).all (fun x=>litR x U.names.length U.classes.length U.methods.length)):=Lib.hid (by rw [List.drop_zero])
 go_enter Tryz.func100,Tryz.ntmps100
 go_upto_region 1 with fail
 generalize w.alloc (.cells #[.slice na U.names.length nc,.slice ka U.classes.length kc,.slice ma U.methods.length mc,.slice oa U.objects.length oc,.int .i64 U.main] 32)=W at *
 go_wp2
 go_loopw [9] (fun i9 wr=>∃ k:Nat,k≤L.length∧i9=.int .i64 k∧Hid (L.all (fun x=>litR x U.names.length U.classes.length U.methods.length)=(L.drop k).all (fun x=>litR x U.names.length U.classes.length U.methods.length))∧Hid (LiS w wr w.heap.size (.slice la L.length lc) (.agg #[.slice na U.names.length nc,.slice ka U.classes.length kc,.slice ma U.methods.length mc,.slice oa U.objects.length oc,.int .i64 U.main]) L U na ka ma oa nc kc mc oc)) (fun i9 _=>L.length - (intOf i9).toNat)
 case atStart=>exact⟨0,by omega,rfl,hst,S0⟩
 case round =>
  clear hst S0
  obtain⟨j,hj,rfl,hA,S⟩:=hrel
  by_cases hlt:j < L.length
  ·have d1:decide ((j:Int) < (L.length:Int))=true:=by simp;omega
   have j0:(0:Int)≤(j:Int):=by omega
   have j1:(j:Int) < (L.length:Int):=by omega
   obtain⟨⟨lk,lx⟩,hx⟩:∃ x,L[j]?=some x:=⟨L[j]'hlt,by simp⟩
   obtain⟨_,_,g',off',rfl,l0,l1⟩:=S.out.l.at hx
   have hnx:=all_next (f:=fun x=>litR x U.names.length U.classes.length U.methods.length) hx
   have hS1:=S.out.up ((Below.refl _ _).alloc (Nat.le_refl _) (.cells #[.int .i64 lk,.int .i64 lx] 80))
   have PL:=Lib.hid (krightLit_c hS1.u.un lk lx)
   replace hS1:=Lib.hid hS1
   have u0:=hS1.out.u.c0
   have u1:=hS1.out.u.c1
   have u2':=hS1.out.u.c2
   have u3:=hS1.out.u.c3
   have u4':=hS1.out.u.c4
   clear hx S
   cases hb:litR (lk,lx) U.names.length U.classes.length U.methods.length with
   | true =>
    rw [hb,Bool.true_and] at hnx
    rw [hb] at PL
    have hA':=Lib.hid (hA.out.trans hnx)
    clear hnx hb hA
    go_wp2_with fail
    with_reducible refine PL.out.mono ?_
    rintro e1 w2 ⟨rfl,hb2⟩
    go_wp2
    go_roundw
    case rel=>exact⟨j+1,by omega,by go_num,hA',Lib.hid (hS1.out.up hb2)⟩
    case measure=>simp [intOf];omega
   | false =>
    rw [hb,Bool.false_and] at hnx
    rw [hb] at PL
    have eT:=Lib.hid (hA.out.trans hnx)
    clear hnx hb hA
    go_wp2_with fail
    with_reducible refine PL.out.mono ?_
    rintro e1 w2 ⟨rfl,hb2⟩
    go_wp2
    go_ret
    exact⟨by rw [eT.out];rfl,(hS1.out.up hb2).bel⟩
  ·have d1:decide ((j:Int) < (L.length:Int))=false:=by simp;omega
   have hall:=hA.out
   rw [show j=L.length by omega,List.drop_length] at hall
   replace hall:=Lib.hid hall
   clear hA
   go_wp2
   go_ret
   exact⟨by rw [hall.out];rfl,S.out.bel⟩
end Wd
end Go.Proofs.YteiejjmhmmkdhaaGreat

/- The landed instructions: Fetch. -/
namespace Go.Proofs.YteiejjmhmmkdhaaGreat
open Go.RowKit
set_option linter.unusedVariables false
set_option maxRecDepth 20000
namespace Wd
theorem two_at {w:World} {q:Nat} {v0 v1 u0 u1:Value} (c0:w.cell? ⟨q,0,none⟩=some u0) (c1:w.cell? ⟨q,1,none⟩=some u1):((w.setCell ⟨q,0,none⟩ v0).setCell ⟨q,1,none⟩ v1).cell? ⟨q,0,none⟩=some v0∧((w.setCell ⟨q,0,none⟩ v0).setCell ⟨q,1,none⟩ v1).cell? ⟨q,1,none⟩=some v1 :=
 ⟨(World.cell?_setCell_other _ _ _ _ (by simp)).trans (World.cell?_setCell_same _ _ _ c0),World.cell?_setCell_same _ _ _ ((World.cell?_setCell_other _ _ _ _ (by simp)).trans c1)⟩
set_option maxHeartbeats 8000000 in
theorem kfetch_c {w:World} {v:Value} {m:MethA} (h:MeV w v m) (pc:Int) (hp:In64 pc) :
  Calls Tryz.prog 119 #[v,.int .i64 pc] w fun e w'=>e=.returned (.tuple #[.agg #[.int .i64 (fetR m.code pc).1,.int .i64 (fetR m.code pc).2.1],.bool (fetR m.code pc).2.2])∧Below w.heap.size w w':=by
 obtain⟨la,lc,ca,cc,rfl,hl,hc⟩:=h.ex
 have hB0:=MeB.born h
 have hW0:=(Below.refl w.heap.size w).alloc (Nat.le_refl _) (.cells #[.int .i64 m.args,.int .i64 m.temps,.slice la m.lits.length lc,.slice ca m.code.length cc] 75)
 have hle:=len_le hc.le
 obtain⟨p0,p1⟩:=hp
 have wl:IntKind.i64.wrap ((m.code.length:Int) - 1)=(m.code.length:Int) - 1:=by rw [IntKind.wrap_i64];omega
 have hB1:=hB0.up ((Below.refl _ _).alloc (Nat.le_refl _) (.cells #[.int .i64 0,.int .i64 0] 181))
 have hW1:=hW0.trans (((Below.refl _ _).alloc (Nat.le_refl _) (.cells #[.int .i64 0,.int .i64 0] 181)).mono hW0.size)
 have x0:((w.alloc (.cells #[.int .i64 m.args,.int .i64 m.temps,.slice la m.lits.length lc,.slice ca m.code.length cc] 75)).alloc (.cells #[.int .i64 0,.int .i64 0] 181)).cell? ⟨(w.alloc (.cells #[.int .i64 m.args,.int .i64 m.temps,.slice la m.lits.length lc,.slice ca m.code.length cc] 75)).heap.size,0,none⟩=some (.int .i64 0):=by simp
 have x1:((w.alloc (.cells #[.int .i64 m.args,.int .i64 m.temps,.slice la m.lits.length lc,.slice ca m.code.length cc] 75)).alloc (.cells #[.int .i64 0,.int .i64 0] 181)).cell? ⟨(w.alloc (.cells #[.int .i64 m.args,.int .i64 m.temps,.slice la m.lits.length lc,.slice ca m.code.length cc] 75)).heap.size,1,none⟩=some (.int .i64 0):=by simp
 have hs:(w.alloc (.cells #[.int .i64 m.args,.int .i64 m.temps,.slice la m.lits.length lc,.slice ca m.code.length cc] 75)).heap.size=w.heap.size+1:=by simp
 rw [hs] at x0 x1
 have a3:=hB1.c3
 have fz:∀ k,((w.alloc (.cells #[.int .i64 m.args,.int .i64 m.temps,.slice la m.lits.length lc,.slice ca m.code.length cc] 75)).alloc (.cells #[.int .i64 0,.int .i64 0] 181)).frozen? ⟨w.heap.size+1,k,none⟩=false:=fun k=>by rw [← hs];simp
 replace hB0:=Lib.hid hB1
 replace hW0:=Lib.hid hW1
 go_enter Tryz.func119,Tryz.ntmps119
 go_upto_region 1 with fail
 clear h hB1 hW1 hs
 generalize (w.alloc (.cells #[.int .i64 m.args,.int .i64 m.temps,.slice la m.lits.length lc,.slice ca m.code.length cc] 75)).alloc (.cells #[.int .i64 0,.int .i64 0] 181)=W at *
 obtain⟨Q,hQ⟩:∃ Q,Q=w.heap.size+1:=⟨_,rfl⟩
 rw [← hQ] at x0 x1 fz ⊢
 have fz0:=fz 0
 have fz1:=fz 1
 have hQ1:=Lib.hid (show w.heap.size≤Q by omega)
 clear hQ
 by_cases h0:pc < 0
 ·have d1:decide (pc < 0)=true:=by simpa using h0
  have e:=Lib.hid (fet_no (C:=m.code) (Or.inl h0))
  go_wp2
  obtain⟨r0,r1⟩:=two_at (v0:=.int .i64 0) (v1:=.int .i64 0) x0 x1
  refine bodyPost_ret (by simp [results,Tryz.results119,go_sem,r0,r1];try rfl) rfl ?_
  refine⟨by rw [e.out],?_⟩
  exact (hW0.out.setCell hQ1.out _).setCell hQ1.out _
 ·have d1:decide (pc < 0)=false:=by simpa using h0
  obtain⟨k,rfl⟩:∃ k:Nat,pc=k:=⟨pc.toNat,by omega⟩
  have hm:=mod2 (n:=k)
  rcases (show k % 2=1∨k % 2=0 by omega) with h1 | h1
  ·have e:=Lib.hid (fet_no (C:=m.code) (pc:=(k:Int)) (Or.inr (Or.inl (by omega))))
   rw [h1] at hm
   replace hm:Int.tmod (k:Int) 2=1:=hm
   go_wp2
   obtain⟨r0,r1⟩:=two_at (v0:=.int .i64 0) (v1:=.int .i64 0) x0 x1
   refine bodyPost_ret (by simp [results,Tryz.results119,go_sem,r0,r1];try rfl) rfl ?_
   refine⟨by rw [e.out],?_⟩
   exact (hW0.out.setCell hQ1.out _).setCell hQ1.out _
  ·rw [h1] at hm
   replace hm:Int.tmod (k:Int) 2=0:=hm
   by_cases h2:(k:Int) > (m.code.length:Int) - 2
   ·have e:=Lib.hid (fet_no (C:=m.code) (pc:=(k:Int)) (Or.inr (Or.inr h2)))
    have d2:decide ((k:Int) ≥ (m.code.length:Int) - 1)=true:=by simp;omega
    go_wp2
    obtain⟨r0,r1⟩:=two_at (v0:=.int .i64 0) (v1:=.int .i64 0) x0 x1
    refine bodyPost_ret (by simp [results,Tryz.results119,go_sem,r0,r1];try rfl) rfl ?_
    refine⟨by rw [e.out],?_⟩
    exact (hW0.out.setCell hQ1.out _).setCell hQ1.out _
   ·have e:=fet_yes (C:=m.code) (pc:=(k:Int)) (by omega) (by omega) (by omega)
    have d2:decide ((k:Int) ≥ (m.code.length:Int) - 1)=false:=by simp;omega
    rw [Int.toNat_natCast] at e
    replace e:=Lib.hid e
    have k0:(0:Int)≤(k:Int):=by omega
    have k1:(k:Int) < (m.code.length:Int):=by omega
    have k2:(0:Int)≤(k:Int)+1:=by omega
    have k3:(k:Int)+1 < (m.code.length:Int):=by omega
    have wk:IntKind.i64.wrap ((k:Int)+1)=(k:Int)+1:=by rw [IntKind.wrap_i64];omega
    obtain⟨b0,g,off,rfl,c0⟩:=hB0.out.py.2.at (byAt_some (C:=m.code) (k:=k) (by omega))
    obtain⟨b1,g',off',eg,c1⟩:=hB0.out.py.2.at (byAt_some (C:=m.code) (k:=k+1) (by omega))
    cases eg
    generalize byAt m.code k=x at *
    generalize byAt m.code (k+1)=y at *
    have wx:IntKind.i64.wrap x=x:=by rw [IntKind.wrap_i64];omega
    have wy:IntKind.i64.wrap y=y:=by rw [IntKind.wrap_i64];omega
    go_upto_region 3 with fail
    go_still_tail 14,(by kernel_rfl)
    change wpList _ _ _ _ _ (World.drew _)
    go_wp2
    obtain⟨r0,r1⟩:=two_at (v0:=.int .i64 x) (v1:=.int .i64 y) x0 x1
    replace hW0:=Lib.hid ((hW0.out.setCell hQ1.out (a:=w) (p:=⟨Q,0,none⟩) (.int .i64 x)).setCell hQ1.out (p:=⟨Q,1,none⟩) (.int .i64 y))
    generalize (W.setCell ⟨Q,0,none⟩ (.int .i64 x)).setCell ⟨Q,1,none⟩ (.int .i64 y)=W9 at *
    replace r0:W9.drew.cell? ⟨Q,0,none⟩=_:=r0
    replace r1:W9.drew.cell? ⟨Q,1,none⟩=_:=r1
    refine bodyPost_ret (by simp [results,Tryz.results119,go_sem,r0,r1];try rfl) rfl ?_
    exact⟨by rw [e.out],hW0.out.drew⟩
end Wd
end Go.Proofs.YteiejjmhmmkdhaaGreat

/- The landed instructions: is one right where it stands? -/
namespace Go.Proofs.YteiejjmhmmkdhaaGreat
open Go.RowKit
set_option linter.unusedVariables false
set_option maxRecDepth 20000
namespace Wd
theorem tak_ne {a:Int} (h0:0≤a) (h1:a≤255):(takR a != -1)=decide (a≤23):=by
 by_cases h:a≤23
 ·rcases (show a=0∨a=1∨a=2∨a=3∨a=4∨a=5∨a=6∨a=7∨a=8∨a=9∨a=10∨a=11∨a=12∨a=13∨a=14∨a=15∨a=16∨a=17∨a=18∨a=19∨a=20∨a=21∨a=22∨a=23 by omega) with rfl | rfl | rfl | rfl | rfl | rfl | rfl | rfl | rfl | rfl | rfl | rfl | rfl | rfl | rfl | rfl | rfl | rfl | rfl | rfl | rfl | rfl | rfl | rfl <;> decide +kernel
 ·rw [decide_eq_false h,show takR a=-1 from if_pos (Or.inr (by omega))];rfl
structure InS (w0 wr:World) (q q2:Nat) (v:Value) (m:MethA) (la ca:Option Addr) (lc cc:Nat) (op arg:Int):Prop where
 b:MeB wr q v m la ca lc cc
 x0:wr.cell? ⟨q2,0,none⟩=some (.int .i64 op)
 x1:wr.cell? ⟨q2,1,none⟩=some (.int .i64 arg)
 bel:Below w0.heap.size w0 wr
theorem InS.up {w0 w w1:World} {q q2:Nat} {v:Value} {m:MethA} {la ca:Option Addr} {lc cc:Nat} {op arg:Int} (h:InS w0 w q q2 v m la ca lc cc op arg) (b:Below w.heap.size w w1):InS w0 w1 q q2 v m la ca lc cc op arg :=
 ⟨h.b.up b,cell_up b h.x0,cell_up b h.x1,h.bel.trans (b.mono h.bel.size)⟩
set_option maxHeartbeats 16000000 in
theorem krightAt_c {w:World} {v:Value} {m:MethA} (h:MeV w v m) (pc:Nat) (h128:m.code.length≤128) (hp:pc+2≤m.code.length) (he:pc % 2=0) (ha:0≤m.args∧m.args≤8) (ht:0≤m.temps∧m.temps≤8) :
  Calls Tryz.prog 113 #[v,.int .i64 (pc:Int)] w fun e w'=>e=.returned (.bool (insR m (pc:Int) (byAt m.code pc) (byAt m.code (pc+1))))∧Below w.heap.size w w':=by
 obtain⟨la,lc,ca,cc,rfl,hl,hc⟩:=h.ex
 obtain⟨b0,_⟩:=hc.at (byAt_some (C:=m.code) (k:=pc) (by omega))
 obtain⟨b1,_⟩:=hc.at (byAt_some (C:=m.code) (k:=pc+1) (by omega))
 have hf:=fet_yes (C:=m.code) (pc:=(pc:Int)) (by omega) (by omega) (by omega)
 rw [Int.toNat_natCast] at hf
 generalize byAt m.code pc=op at *
 generalize byAt m.code (pc+1)=arg at *
 have wa:IntKind.i64.wrap (m.args+m.temps)=m.args+m.temps:=by rw [IntKind.wrap_i64];omega
 have wp:IntKind.i64.wrap ((pc:Int)+2)=(pc:Int)+2:=by rw [IntKind.wrap_i64];omega
 have w2:IntKind.i64.wrap (2*arg)=2*arg:=by rw [IntKind.wrap_i64];omega
 have w3:IntKind.i64.wrap ((pc:Int)+2+2*arg)=(pc:Int)+2+2*arg:=by rw [IntKind.wrap_i64];omega
 have hB:=MeB.born h
 have hW:=(Below.refl w.heap.size w).alloc (Nat.le_refl _) (.cells #[.int .i64 m.args,.int .i64 m.temps,.slice la m.lits.length lc,.slice ca m.code.length cc] 75)
 have PF:=kfetch_c hB.me (pc:Int) ⟨by omega,by omega⟩
 rw [hf] at PF
 replace PF:=Lib.hid PF
 replace hB:=Lib.hid hB
 replace hW:=Lib.hid hW
 clear hf hl hc h
 have a0:=hB.out.c0
 have a1:=hB.out.c1
 have a2:=hB.out.c2
 have a3:=hB.out.c3
 go_enter Tryz.func113,Tryz.ntmps113
 go_upto_region 1 with fail
 generalize w.alloc (.cells #[.int .i64 m.args,.int .i64 m.temps,.slice la m.lits.length lc,.slice ca m.code.length cc] 75)=W at *
 go_wp2_with fail
 with_reducible refine PF.out.mono ?_
 rintro e1 w1 ⟨rfl,hb⟩
 have S:Hid (InS w (w1.alloc (.cells #[.int .i64 op,.int .i64 arg] 181)) w.heap.size w1.heap.size _ m la ca lc cc op arg):=Lib.hid ⟨(hB.out.up hb).up ((Below.refl _ _).alloc (Nat.le_refl _) _),by simp,by simp,(hW.out.trans (hb.mono hW.out.size)).trans (((Below.refl _ _).alloc (Nat.le_refl _) _).mono (hW.out.trans (hb.mono hW.out.size)).size)⟩
 clear hb PF a0 a1 a2 a3 hB hW
 go_upto_region 2 with fail
 generalize w1.alloc (.cells #[.int .i64 op,.int .i64 arg] 181)=W1 at *
 obtain⟨Q,hQ⟩:∃ Q,Q=w1.heap.size:=⟨_,rfl⟩
 rw [← hQ] at S ⊢
 replace hQ:=Lib.hid hQ
 have a0:=S.out.b.c0
 have a1:=S.out.b.c1
 have a2:=S.out.b.c2
 have a3:=S.out.b.c3
 have x0:=S.out.x0
 have x1:=S.out.x1
 by_cases hop:op≤21
 ·rcases (show op=0∨op=1∨op=2∨op=3∨op=4∨op=5∨op=6∨op=7∨op=8∨op=9∨op=10∨op=11∨op=12∨op=13∨op=14∨op=15∨op=16∨op=17∨op=18∨op=19∨op=20∨op=21 by omega) with rfl | rfl | rfl | rfl | rfl | rfl | rfl | rfl | rfl | rfl | rfl | rfl | rfl | rfl | rfl | rfl | rfl | rfl | rfl | rfl | rfl | rfl
  ·have e:Hid (insR m (pc:Int) 0 arg=decide (arg < m.args+m.temps)):=Lib.hid rfl
   go_wp2
   go_ret
   exact⟨by rw [e.out];rfl,S.out.bel⟩
  ·have e:Hid (insR m (pc:Int) 1 arg=decide (arg < 62)):=Lib.hid rfl
   go_wp2
   go_ret
   exact⟨by rw [e.out];rfl,S.out.bel⟩
  ·have e:Hid (insR m (pc:Int) 2 arg=hasLit m.lits arg 3):=Lib.hid rfl
   have PL:=Lib.hid (khasLit_c S.out.b.me arg 3 b1.1 b1.2)
   go_wp2_with fail
   with_reducible refine PL.out.mono ?_
   rintro e2 w2' ⟨rfl,hb⟩
   go_wp2
   go_ret
   exact⟨by rw [e.out];rfl,(S.out.up hb).bel⟩
  ·have e:Hid (insR m (pc:Int) 3 arg=true):=Lib.hid rfl
   go_wp2
   go_ret
   exact⟨by rw [e.out];rfl,S.out.bel⟩
  ·have e:Hid (insR m (pc:Int) 4 arg=true):=Lib.hid rfl
   go_wp2
   go_ret
   exact⟨by rw [e.out];rfl,S.out.bel⟩
  ·have e:Hid (insR m (pc:Int) 5 arg=true):=Lib.hid rfl
   go_wp2
   go_ret
   exact⟨by rw [e.out];rfl,S.out.bel⟩
  ·have e:Hid (insR m (pc:Int) 6 arg=true):=Lib.hid rfl
   go_wp2
   go_ret
   exact⟨by rw [e.out];rfl,S.out.bel⟩
  ·have e:Hid (insR m (pc:Int) 7 arg=true):=Lib.hid rfl
   go_wp2
   go_ret
   exact⟨by rw [e.out];rfl,S.out.bel⟩
  ·have e:Hid (insR m (pc:Int) 8 arg=true):=Lib.hid rfl
   go_wp2
   go_ret
   exact⟨by rw [e.out];rfl,S.out.bel⟩
  ·have e:Hid (insR m (pc:Int) 9 arg=true):=Lib.hid rfl
   go_wp2
   go_ret
   exact⟨by rw [e.out];rfl,S.out.bel⟩
  ·have e:Hid (insR m (pc:Int) 10 arg=decide (arg < m.args+m.temps)):=Lib.hid rfl
   go_wp2
   go_ret
   exact⟨by rw [e.out];rfl,S.out.bel⟩
  ·have e:Hid (insR m (pc:Int) 11 arg=decide (arg < 62)):=Lib.hid rfl
   go_wp2
   go_ret
   exact⟨by rw [e.out];rfl,S.out.bel⟩
  ·have e:Hid (insR m (pc:Int) 12 arg=hasLit m.lits arg 5):=Lib.hid rfl
   have PL:=Lib.hid (khasLit_c S.out.b.me arg 5 b1.1 b1.2)
   go_wp2_with fail
   with_reducible refine PL.out.mono ?_
   rintro e2 w2' ⟨rfl,hb⟩
   go_wp2
   go_ret
   exact⟨by rw [e.out];rfl,(S.out.up hb).bel⟩
  ·have e:Hid (insR m (pc:Int) 13 arg=hasLit m.lits arg 5):=Lib.hid rfl
   have PL:=Lib.hid (khasLit_c S.out.b.me arg 5 b1.1 b1.2)
   go_wp2_with fail
   with_reducible refine PL.out.mono ?_
   rintro e2 w2' ⟨rfl,hb⟩
   go_wp2
   go_ret
   exact⟨by rw [e.out];rfl,(S.out.up hb).bel⟩
  ·have e:Hid (insR m (pc:Int) 14 arg=true):=Lib.hid rfl
   go_wp2
   go_ret
   exact⟨by rw [e.out];rfl,S.out.bel⟩
  ·have e:Hid (insR m (pc:Int) 15 arg=decide ((pc:Int)+2+2*arg < (m.code.length:Int))):=Lib.hid rfl
   go_wp2
   go_ret
   exact⟨by rw [e.out];rfl,S.out.bel⟩
  ·have e:Hid (insR m (pc:Int) 16 arg=decide (2*arg≤(pc:Int))):=Lib.hid rfl
   go_wp2
   go_ret
   exact⟨by rw [e.out];rfl,S.out.bel⟩
  ·have e:Hid (insR m (pc:Int) 17 arg=decide ((pc:Int)+2+2*arg < (m.code.length:Int))):=Lib.hid rfl
   go_wp2
   go_ret
   exact⟨by rw [e.out];rfl,S.out.bel⟩
  ·have e:Hid (insR m (pc:Int) 18 arg=hasLit m.lits arg 7):=Lib.hid rfl
   have PL:=Lib.hid (khasLit_c S.out.b.me arg 7 b1.1 b1.2)
   go_wp2_with fail
   with_reducible refine PL.out.mono ?_
   rintro e2 w2' ⟨rfl,hb⟩
   go_wp2
   go_ret
   exact⟨by rw [e.out];rfl,(S.out.up hb).bel⟩
  ·have e:Hid (insR m (pc:Int) 19 arg=true):=Lib.hid rfl
   go_wp2
   go_ret
   exact⟨by rw [e.out];rfl,S.out.bel⟩
  ·have e:Hid (insR m (pc:Int) 20 arg=(hasLit m.lits arg 6 && decide ((litAt m.lits arg).2 > 1))):=Lib.hid rfl
   obtain⟨k,rfl⟩:∃ k:Nat,arg=k:=⟨arg.toNat,by omega⟩
   have PL:=Lib.hid (khasLit_c S.out.b.me (k:Int) 6 b1.1 b1.2)
   cases hh:hasLit m.lits (k:Int) 6 with
   | true =>
    have hk:k < m.lits.length:=by
     unfold hasLit at hh
     simp only [Bool.and_eq_true,decide_eq_true_eq] at hh
     omega
    have k0:(0:Int)≤(k:Int):=by omega
    have k1:(k:Int) < (m.lits.length:Int):=by omega
    obtain⟨_,_,g,off,rfl,c0,c1⟩:=S.out.b.py.1.at (litAt_some hk)
    rw [hh] at e PL
    clear hh
    have d2:decide ((litAt m.lits (k:Int)).2 > 1)=decide ((litAt m.lits (k:Int)).2 ≥ 2):=decide_eq_decide.2 (by omega)
    rw [d2] at e
    clear d2
    generalize (litAt m.lits (k:Int)).2=x at *
    go_wp2_with fail
    with_reducible refine PL.out.mono ?_
    rintro e2 w2' ⟨rfl,hb⟩
    have a0:=cell_up hb a0
    have a1:=cell_up hb a1
    have a2:=cell_up hb a2
    have a3:=cell_up hb a3
    have x0:=cell_up hb x0
    have x1:=cell_up hb x1
    have c1:=cell_up hb c1
    go_wp2
    go_ret
    exact⟨by rw [e.out];rfl,(S.out.up hb).bel⟩
   | false =>
    rw [hh] at e PL
    clear hh
    go_wp2_with fail
    with_reducible refine PL.out.mono ?_
    rintro e2 w2' ⟨rfl,hb⟩
    go_wp2
    go_ret
    exact⟨by rw [e.out];rfl,(S.out.up hb).bel⟩
  ·have e:Hid (insR m (pc:Int) 21 arg=decide (arg≤23)):=Lib.hid rfl
   have hn:=tak_ne b1.1 b1.2
   have PT:=Lib.hid (ktakes_c arg (in64_of (by omega) (by omega)) W1)
   generalize takR arg=tk at *
   go_wp2_with fail
   with_reducible refine PT.out.mono ?_
   rintro e2 w2' ⟨rfl,hb⟩
   go_wp2
   go_ret
   exact⟨by rw [e.out];rfl,(S.out.up hb).bel⟩
 ·have e:Hid (insR m (pc:Int) op arg=false):=Lib.hid ((ins_other (by omega)).trans (decide_eq_false hop))
  have f0:(op == 0)=false:=by simp;omega
  have f1:(op == 1)=false:=by simp;omega
  have f2:(op == 2)=false:=by simp;omega
  have f3:(op == 3)=false:=by simp;omega
  have f4:(op == 4)=false:=by simp;omega
  have f5:(op == 5)=false:=by simp;omega
  have f6:(op == 6)=false:=by simp;omega
  have f7:(op == 7)=false:=by simp;omega
  have f8:(op == 8)=false:=by simp;omega
  have f9:(op == 9)=false:=by simp;omega
  have f10:(op == 10)=false:=by simp;omega
  have f11:(op == 11)=false:=by simp;omega
  have f12:(op == 12)=false:=by simp;omega
  have f13:(op == 13)=false:=by simp;omega
  have f14:(op == 14)=false:=by simp;omega
  have f15:(op == 15)=false:=by simp;omega
  have f16:(op == 16)=false:=by simp;omega
  have f17:(op == 17)=false:=by simp;omega
  have f18:(op == 18)=false:=by simp;omega
  have f19:(op == 19)=false:=by simp;omega
  have f20:(op == 20)=false:=by simp;omega
  have f21:(op == 21)=false:=by simp;omega
  clear hop
  go_wp2
  go_ret
  exact⟨by rw [e.out];rfl,S.out.bel⟩
end Wd
end Go.Proofs.YteiejjmhmmkdhaaGreat

/- The landed instructions: is a method right? -/
namespace Go.Proofs.YteiejjmhmmkdhaaGreat
open Go.RowKit
set_option linter.unusedVariables false
set_option maxRecDepth 20000
namespace Wd
structure MeS (w0 wr:World) (q:Nat) (v:Value) (m:MethA) (la ca:Option Addr) (lc cc:Nat):Prop where
 b:MeB wr q v m la ca lc cc
 bel:Below w0.heap.size w0 wr
theorem MeS.up {w0 w w1:World} {q:Nat} {v:Value} {m:MethA} {la ca:Option Addr} {lc cc:Nat} (h:MeS w0 w q v m la ca lc cc) (b:Below w.heap.size w w1):MeS w0 w1 q v m la ca lc cc :=
 ⟨h.b.up b,h.bel.trans (b.mono h.bel.size)⟩
set_option maxHeartbeats 16000000 in
theorem krightCode_c {w:World} {v:Value} {m:MethA} (h:MeV w v m) (h128:m.code.length≤128) (hev:m.code.length % 2=0) (ha:0≤m.args∧m.args≤8) (ht:0≤m.temps∧m.temps≤8) :
  Calls Tryz.prog 101 #[v] w fun e w'=>e=.returned (.bool (insF m (m.code.length / 2) 0))∧Below w.heap.size w w':=by
 obtain⟨la,lc,ca,cc,rfl,hl,hc⟩:=h.ex
 have S0:Hid (MeS w (w.alloc (.cells #[.int .i64 m.args,.int .i64 m.temps,.slice la m.lits.length lc,.slice ca m.code.length cc] 75)) w.heap.size _ m la ca lc cc):=Lib.hid ⟨MeB.born h,(Below.refl w.heap.size w).alloc (Nat.le_refl _) _⟩
 have hle:=len_le hc.le
 obtain⟨N,hN⟩:∃ N,N=m.code.length / 2:=⟨_,rfl⟩
 have hN2:m.code.length=2*N:=by omega
 have hst2:Hid (insF m (m.code.length / 2) 0=insF m (N - 0) (2*0)):=Lib.hid (by rw [hN];rfl)
 replace hN2:=Lib.hid hN2
 replace h128:=Lib.hid h128
 clear hN hev hl hc h
 go_enter Tryz.func101,Tryz.ntmps101
 go_upto_region 1 with fail
 generalize w.alloc (.cells #[.int .i64 m.args,.int .i64 m.temps,.slice la m.lits.length lc,.slice ca m.code.length cc] 75)=W at *
 go_wp2
 go_loopw [3] (fun i3 wr=>∃ t:Nat,t≤N∧i3=.int .i64 ((2*t:Nat):Int)∧Hid (insF m (m.code.length / 2) 0=insF m (N - t) (2*t))∧Hid (MeS w wr w.heap.size (.agg #[.int .i64 m.args,.int .i64 m.temps,.slice la m.lits.length lc,.slice ca m.code.length cc]) m la ca lc cc)) (fun i3 _=>2*N - (intOf i3).toNat)
 case atStart=>exact⟨0,by omega,rfl,hst2,S0⟩
 case round =>
  clear hst2 S0
  obtain⟨t,ht2,rfl,hI,S⟩:=hrel
  have q0:=S.out.b.c0
  have q1:=S.out.b.c1
  have q2:=S.out.b.c2
  have q3:=S.out.b.c3
  by_cases hlt2:t < N
  ·have d2':decide (((2*t:Nat):Int) < (m.code.length:Int))=true:=by have:=hN2.out;simp;omega
   have d3':((2*t:Nat):Int) < (m.code.length:Int):=by have:=hN2.out;omega
   have wt:IntKind.i64.wrap (((2*t:Nat):Int)+2)=((2*(t+1):Nat):Int):=by have:=h128.out;have:=hN2.out;rw [IntKind.wrap_i64];omega
   have PI:=Lib.hid (krightAt_c S.out.b.me (2*t) h128.out (by have:=hN2.out;omega) (by omega) ha ht)
   have hnx:=ins_next (m:=m) hlt2
   cases hb:insR m ((2*t:Nat):Int) (byAt m.code (2*t)) (byAt m.code (2*t+1)) with
   | true =>
    rw [hb,Bool.true_and] at hnx
    rw [hb] at PI
    have hI':=Lib.hid (hI.out.trans hnx)
    clear hnx hb hI
    generalize hTT:((2*t:Nat):Int)=tt at *
    go_wp2_with fail
    with_reducible refine PI.out.mono ?_
    rintro e1 w2 ⟨rfl,hb2⟩
    go_wp2
    go_roundw
    case rel=>exact⟨t+1,by omega,rfl,hI',Lib.hid (S.out.up hb2)⟩
    case measure=>subst hTT;simp [intOf];have:=hN2.out;omega
   | false =>
    rw [hb,Bool.false_and] at hnx
    rw [hb] at PI
    have eT:=Lib.hid (hI.out.trans hnx)
    clear hnx hb hI
    generalize hTT:((2*t:Nat):Int)=tt at *
    go_wp2_with fail
    with_reducible refine PI.out.mono ?_
    rintro e1 w2 ⟨rfl,hb2⟩
    go_wp2
    go_ret
    exact⟨by rw [eT.out];rfl,(S.out.up hb2).bel⟩
  ·have d2':decide (((2*t:Nat):Int) < (m.code.length:Int))=false:=by have:=hN2.out;simp;omega
   have d3':¬ ((2*t:Nat):Int) < (m.code.length:Int):=by have:=hN2.out;omega
   have hI':=hI.out
   rw [show N - t=0 by omega,insF] at hI'
   replace hI':=Lib.hid hI'
   clear hI
   generalize hTT:((2*t:Nat):Int)=tt at *
   go_wp2
   go_ret
   exact⟨by rw [hI'.out];rfl,S.out.bel⟩
theorem sl_no {m:MethA} (h:slR m=false):m.args < 0∨m.temps < 0∨m.args > 8∨m.temps > 8 - m.args:=by
 unfold slR at h
 simp only [Bool.and_eq_false_iff,decide_eq_false_iff_not] at h
 omega
theorem sl_yes {m:MethA} (h:slR m=true):0≤m.args∧0≤m.temps∧m.temps≤8 - m.args:=by
 unfold slR at h
 simp only [Bool.and_eq_true,decide_eq_true_eq] at h
 omega
theorem end_no {C:List Int} (h:endR C=false):(C.length < 2∨C.length % 2≠0)∨¬ (C.length < 2∨C.length % 2≠0)∧(byAt C (C.length - 2)≠14∧byAt C (C.length - 2)≠19∧byAt C (C.length - 2)≠16):=by
 unfold endR at h
 split at h
 ·next g=>exact Or.inl g
 ·next g =>
  unfold endB at h
  simp only [Bool.or_eq_false_iff,decide_eq_false_iff_not] at h
  exact Or.inr ⟨g,h.1.1,h.1.2,h.2⟩
theorem end_yes {C:List Int} (h:endR C=true):¬ (C.length < 2∨C.length % 2≠0)∧¬ (byAt C (C.length - 2)≠14∧byAt C (C.length - 2)≠19∧byAt C (C.length - 2)≠16):=by
 unfold endR at h
 split at h
 ·cases h
 ·next g =>
  unfold endB at h
  simp only [Bool.or_eq_true,decide_eq_true_eq] at h
  exact⟨g,by omega⟩
set_option maxHeartbeats 32000000 in
theorem kright_c {w:World} {v u:Value} {m:MethA} {U:UnitA} (h:MeV w v m) (hu:UnK w u U) :
  Calls Tryz.prog 81 #[v,u] w fun e w'=>e=.returned (.int .i64 (metR m U.names.length U.classes.length U.methods.length))∧Below w.heap.size w w':=by
 obtain⟨la,lc,ca,cc,rfl,hl,hc⟩:=h.ex
 obtain⟨na,nc,ka,kc,ma,mc,oa,oc,rfl,_⟩:=hu.ex
 have hw1:=(Below.refl w.heap.size w).alloc (Nat.le_refl _) (.cells #[.int .i64 m.args,.int .i64 m.temps,.slice la m.lits.length lc,.slice ca m.code.length cc] 75)
 have S0:Hid (MSt w ((w.alloc (.cells #[.int .i64 m.args,.int .i64 m.temps,.slice la m.lits.length lc,.slice ca m.code.length cc] 75)).alloc (.cells #[.slice na U.names.length nc,.slice ka U.classes.length kc,.slice ma U.methods.length mc,.slice oa U.objects.length oc,.int .i64 U.main] 32)) w.heap.size (w.alloc (.cells #[.int .i64 m.args,.int .i64 m.temps,.slice la m.lits.length lc,.slice ca m.code.length cc] 75)).heap.size _ _ m U la ca na ka ma oa lc cc nc kc mc oc):=Lib.hid ⟨(MeB.born h).up ((Below.refl _ _).alloc (Nat.le_refl _) _),UnB.born (hu.up hw1),hw1.trans (((Below.refl _ _).alloc (Nat.le_refl _) _).mono hw1.size)⟩
 have hle:=len_le hc.le
 have hle2:=len_le hl.le
 have i1:(w.alloc (.cells #[.int .i64 m.args,.int .i64 m.temps,.slice la m.lits.length lc,.slice ca m.code.length cc] 75)).heap.size=w.heap.size+1:=by simp
 rw [i1] at S0
 clear hl hc h hu hw1 i1
 have a0:=S0.out.b.c0
 have a1:=S0.out.b.c1
 have a2:=S0.out.b.c2
 have a3:=S0.out.b.c3
 obtain⟨n,hn⟩:∃ n,n=m.code.length:=⟨_,rfl⟩
 obtain⟨nl,hnl⟩:∃ n,n=m.lits.length:=⟨_,rfl⟩
 go_enter Tryz.func81,Tryz.ntmps81
 go_upto_region 1 with fail
 generalize (w.alloc (.cells #[.int .i64 m.args,.int .i64 m.temps,.slice la m.lits.length lc,.slice ca m.code.length cc] 75)).alloc (.cells #[.slice na U.names.length nc,.slice ka U.classes.length kc,.slice ma U.methods.length mc,.slice oa U.objects.length oc,.int .i64 U.main] 32)=W at *
 by_cases g1:m.code.length > 128
 ·have dg1:decide ((m.code.length:Int) > 128)=true:=by simp;omega
  have e:=Lib.hid (met_long (m:=m) (nn:=U.names.length) (nc:=U.classes.length) (nm:=U.methods.length) (Or.inl g1))
  go_wp2
  go_ret
  exact⟨by rw [e.out];rfl,S0.out.bel⟩
 have dg1:decide ((m.code.length:Int) > 128)=false:=by simp;omega
 by_cases g2:m.lits.length > 16
 ·have dg2:decide ((m.lits.length:Int) > 16)=true:=by simp;omega
  have e:=Lib.hid (met_long (m:=m) (nn:=U.names.length) (nc:=U.classes.length) (nm:=U.methods.length) (Or.inr (Or.inl g2)))
  go_wp2
  go_ret
  exact⟨by rw [e.out];rfl,S0.out.bel⟩
 have dg2:decide ((m.lits.length:Int) > 16)=false:=by simp;omega
 have PS:=kslots_c S0.out.b.me
 cases hsl:slR m with
 | false =>
  have e:=Lib.hid (met_long (m:=m) (nn:=U.names.length) (nc:=U.classes.length) (nm:=U.methods.length) (Or.inr (Or.inr (sl_no hsl))))
  rw [hsl] at PS
  replace PS:=Lib.hid PS
  clear hsl
  go_wp2_with fail
  with_reducible refine PS.out.mono ?_
  rintro e1 w1 ⟨rfl,hb⟩
  go_wp2
  go_ret
  exact⟨by rw [e.out];rfl,(S0.out.up hb).bel⟩
 | true =>
  have hys:=sl_yes hsl
  have G:¬ (m.code.length > 128∨m.lits.length > 16∨m.args < 0∨m.temps < 0∨m.args > 8∨m.temps > 8 - m.args):=by omega
  have ha:0≤m.args∧m.args≤8:=by omega
  have ht:0≤m.temps∧m.temps≤8:=by omega
  have h128:m.code.length≤128:=by omega
  rw [hsl] at PS
  replace PS:=Lib.hid PS
  clear hsl hys
  go_wp2_with fail
  with_reducible refine PS.out.mono ?_
  rintro e1 w1 ⟨rfl,hb⟩
  replace S0:=Lib.hid (S0.out.up hb)
  clear hb PS a0 a1 a2 a3
  have a0:=S0.out.b.c0
  have a1:=S0.out.b.c1
  have a2:=S0.out.b.c2
  have a3:=S0.out.b.c3
  have u0:=S0.out.u.c0
  have u1':=S0.out.u.c1
  have u2':=S0.out.u.c2
  have u3':=S0.out.u.c3
  have u4':=S0.out.u.c4
  go_upto_region 3 with fail
  clear dg1 dg2 g1 g2
  have PE:=kend_c S0.out.b.py.2
  cases hen:endR m.code with
  | false =>
   have e:Hid (metR m U.names.length U.classes.length U.methods.length=12):=Lib.hid (by
    rcases end_no hen with g | ⟨g,g'⟩
    ·exact met_len G g
    ·exact met_last G g g')
   rw [hen] at PE
   replace PE:=Lib.hid PE
   clear hen G
   go_wp2_with fail
   with_reducible refine PE.out.mono ?_
   rintro e2 w2 ⟨rfl,hw2⟩
   subst w2
   go_wp2
   go_ret
   exact⟨by rw [e.out];rfl,S0.out.bel⟩
  | true =>
   obtain⟨H2,H3⟩:=end_yes hen
   have e:=Lib.hid (met_t (nn:=U.names.length) (nc:=U.classes.length) (nm:=U.methods.length) G H2 H3)
   have hev:m.code.length % 2=0:=by omega
   rw [hen] at PE
   replace PE:=Lib.hid PE
   clear hen G H2 H3
   go_wp2_with fail
   with_reducible refine PE.out.mono ?_
   rintro e2 w2 ⟨rfl,hw2⟩
   subst w2
   have PL:=klits_c S0.out.b.py.1 S0.out.u.un
   cases hli:m.lits.all (fun x=>litR x U.names.length U.classes.length U.methods.length) with
   | false =>
    have eT:=Lib.hid (metT_lit (m:=m) hli)
    rw [hli] at PL
    replace PL:=Lib.hid PL
    clear hli
    go_wp2_with fail
    with_reducible refine PL.out.mono ?_
    rintro e3 w3 ⟨rfl,hb⟩
    go_wp2
    go_ret
    exact⟨by rw [e.out,eT.out];rfl,(S0.out.up hb).bel⟩
   | true =>
    rw [hli] at PL
    replace PL:=Lib.hid PL
    replace hli:=Lib.hid hli
    go_wp2_with fail
    with_reducible refine PL.out.mono ?_
    rintro e3 w3 ⟨rfl,hb⟩
    replace S0:=Lib.hid (S0.out.up hb)
    clear hb PL a0 a1 a2 a3 PE u0 u1' u2' u3' u4'
    have a0:=S0.out.b.c0
    have a1:=S0.out.b.c1
    have a2:=S0.out.b.c2
    have a3:=S0.out.b.c3
    have PC:=krightCode_c S0.out.b.me h128 hev ha ht
    cases hin:insF m (m.code.length / 2) 0 with
    | false =>
     have eT:=Lib.hid (metT_ins (m:=m) hli.out hin)
     rw [hin] at PC
     replace PC:=Lib.hid PC
     clear hin
     go_wp2_with fail
     with_reducible refine PC.out.mono ?_
     rintro e4 w4 ⟨rfl,hb⟩
     go_wp2
     go_ret
     exact⟨by rw [e.out,eT.out];rfl,(S0.out.up hb).bel⟩
    | true =>
     have eT:=Lib.hid (metT_ok (m:=m) hli.out hin)
     rw [hin] at PC
     replace PC:=Lib.hid PC
     clear hin
     go_wp2_with fail
     with_reducible refine PC.out.mono ?_
     rintro e4 w4 ⟨rfl,hb⟩
     go_wp2
     go_ret
     exact⟨by rw [e.out,eT.out];rfl,(S0.out.up hb).bel⟩
end Wd
end Go.Proofs.YteiejjmhmmkdhaaGreat

/- The landed programs: what is wrong with the methods, with what they are bound to; the objects. -/
namespace Go.Proofs.YteiejjmhmmkdhaaGreat
open Go.RowKit
set_option linter.unusedVariables false
set_option maxRecDepth 20000
namespace Wd
structure ArR (U:UnitA) (B:List (Int × Int)) (k:Nat):Prop where
 mk ::
 all:∀ x∈B.take k,eArg U x=0
theorem ArR.start (U:UnitA) (B:List (Int × Int)):ArR U B 0:=⟨by simp⟩
theorem ArR.step {U:UnitA} {B:List (Int × Int)} {k:Nat} {x:Int × Int} (h:ArR U B k) (hx:B[k]?=some x) (e:eArg U x=0):ArR U B (k+1):=by
 refine⟨fun y hy=>?_⟩
 rw [take_next hx] at hy
 rcases List.mem_append.1 hy with hy | hy
 ·exact h.all y hy
 ·rw [List.mem_singleton.1 hy];exact e
def argsB (U:UnitA) (B:List (Int × Int)):Bool:=B.all (fun b=>decide (eArg U b=0))
theorem ArR.last {U:UnitA} {B:List (Int × Int)} (h:ArR U B B.length):argsB U B=true:=by
 have:=h.all
 rw [List.take_length] at this
 exact List.all_eq_true.2 (fun x hx=>decide_eq_true (this x hx))
theorem ar_bad {U:UnitA} {B:List (Int × Int)} {k:Nat} {x:Int × Int} (hx:B[k]?=some x) (e:¬ eArg U x=0):argsB U B=false:=by
 cases h:argsB U B with
 | false=>rfl
 | true=>exact absurd (of_decide_eq_true (List.all_eq_true.1 h x (List.mem_of_getElem? hx))) e
theorem eArg_15 {U:UnitA} {b:Int × Int} (h:¬ eArg U b=0):eArg U b=15:=by
 unfold eArg at h ⊢
 by_cases g:argsR (nmAt U.names b.1)=agAt U.methods b.2
 ·rw [if_pos g] at h;exact absurd rfl h
 ·rw [if_neg g]
theorem args_first (U:UnitA):∀ (B:List (Int × Int)) (X:List Int),firstE (B.map (eArg U)++X)=if argsB U B=true then firstE X else 15
 | [],X=>by simp [argsB]
 | b :: B,X=>by
  rw [List.map_cons,List.cons_append,firstE]
  by_cases h:eArg U b=0
  ·rw [if_pos h,args_first U B X]
   have:argsB U (b :: B)=argsB U B:=by unfold argsB;rw [List.all_cons,decide_eq_true h,Bool.true_and]
   rw [this]
  ·rw [if_neg h,eArg_15 h]
   have:argsB U (b :: B)=false:=ar_bad (k:=0) rfl h
   rw [this];rfl
structure BdU (U:UnitA) (B:List (Int × Int)):Prop where
 mk ::
 all:∀ (j:Nat) b,B[j]?=some b→0≤b.1∧b.1 < (U.names.length:Int)∧0≤b.2∧b.2 < (U.methods.length:Int)
set_option maxHeartbeats 32000000 in
theorem uargs_c {w:World} {v u:Value} {U:UnitA} {B:List (Int × Int)} (hP:PrV w v B) (hu:UnK w u U) (hr:BdU U B) :
  Calls Tryz.prog 82 #[v,u] w fun e w'=>e=.returned (.bool (argsB U B))∧Below w.heap.size w w':=by
 obtain⟨na,nc,ca,cc,ma,mc,oa,oc,l1,l2,l3,l4,rfl,hS,j1,j2,j3,j4⟩:=hu.v1
 clear hu
 have gg:=Lib.hid hS.lens
 obtain⟨ba,bc,rfl,qb1,qb2⟩:=hP.form
 have hle:=len_le (Nat.le_trans qb1 qb2)
 obtain⟨n,hn⟩:∃ n,n=B.length:=⟨_,rfl⟩
 have hn':=Lib.hid hn
 rw [← hn] at hP hle ⊢
 have hP2:=Lib.hid (hP.up hS.bel)
 replace hS:=Lib.hid hS
 have hst:=Lib.hid (ArR.start U B)
 replace hr:=Lib.hid hr
 clear hn hP qb1 qb2
 go_enter Tryz.func82,Tryz.ntmps82
 go_upto_region 1 with fail
 generalize w.alloc (.cells #[.slice na l1 nc,.slice ca l2 cc,.slice ma l3 mc,.slice oa l4 oc,.int .i64 U.main] 32)=W at *
 go_wp2
 go_loopw [9] (fun i wi=>∃ (j:Nat),j≤n∧i=.int .i64 j∧Hid (ArR U B j)∧Hid (V1 w wi U na nc ca cc ma mc oa oc l1 l2 l3 l4)∧Hid (PrV wi (.slice ba n bc) B)) (fun i _=>n - (intOf i).toNat)
 case atStart=>exact⟨0,by omega,rfl,hst,hS,hP2⟩
 case round =>
  clear hS hst hP2
  obtain⟨j,hj,rfl,hT,hS,hP⟩:=hrel
  obtain⟨a0,a1,a2,a3,a4⟩:=hS.out.cells
  by_cases hjt:j < n
  ·as_aux_lemma =>
   have hjt':decide ((j:Int) < (n:Int))=true:=by simp;omega
   have p0:(0:Int)≤(j:Int):=by omega
   have p1:(j:Int) < (n:Int):=by omega
   obtain⟨b,hb⟩:∃ b,B[j]?=some b:=⟨B[j]'(by have:=hn'.out;omega),by simp⟩
   obtain⟨y1,y2,y3,y4⟩:=hr.out.all j b hb
   obtain⟨i1,i2,bg,bo,rfl,e0,e1⟩:=hP.out.at hb
   have hbH:=Lib.hid hb
   obtain⟨z,m⟩:=b
   obtain⟨z,rfl⟩:∃ q:Nat,z=q:=⟨z.toNat,by omega⟩
   obtain⟨m,rfl⟩:∃ q:Nat,m=q:=⟨m.toNat,by omega⟩
   simp only at y1 y2 y3 y4 e0 e1
   obtain⟨h1,h2,h3,h4⟩:=gg.out
   rw [← h1] at y2
   rw [← h3] at y4
   obtain⟨nm,hnm⟩:∃ q,U.names[z]?=some q:=⟨U.names[z]'(by omega),by simp⟩
   obtain⟨me,hme⟩:∃ q,U.methods[m]?=some q:=⟨U.methods[m]'(by omega),by simp⟩
   obtain⟨ng,noff,rfl,g0⟩:=NmV.at hS.out.views.1 hnm
   obtain⟨mg,moff,_,_,_,_,rfl,m0,_,_,_,_⟩:=MtV.at hS.out.views.2.2.1 hme
   have eA:Hid (eArg U ((z:Int),(m:Int))=if argsR nm=me.args then 0 else 15):=Lib.hid (by
    unfold eArg nmAt agAt
    simp only [Int.toNat_natCast,List.getD_eq_getElem?_getD,hnm,hme,Option.getD_some])
   have bx:=(Below.refl wr.heap.size wr).alloc (Nat.le_refl _) (.cells #[.int .i64 z,.int .i64 m] 78)
   have hSb:=hS.out.up bx
   have hPb:=hP.out.up bx
   have w0:(wr.alloc (.cells #[.int .i64 z,.int .i64 m] 78)).cell? ⟨wr.heap.size,0,none⟩=some (.int .i64 z):=World.cell?_alloc_new _ _ _ 0
   have w1:(wr.alloc (.cells #[.int .i64 z,.int .i64 m] 78)).cell? ⟨wr.heap.size,1,none⟩=some (.int .i64 m):=World.cell?_alloc_new _ _ _ 1
   replace g0:=cell_up bx g0
   replace m0:=cell_up bx m0
   have PA:=Lib.hid (kargs_c nm)
   clear hnm hme hb y1 y3 i1 i2 h1 h2 h3 h4 bx hS hP
   obtain⟨c1,c2,c3,c4⟩:=hSb.caps
   go_upto_region 4 with fail
   clear a0 a1 a2 a3 a4 e0 e1
   obtain⟨a0,a1,a2,a3,a4⟩:=hSb.cells
   replace hSb:=Lib.hid hSb.drew
   replace hPb:=Lib.hid (hPb.up ((Below.refl _ _).drew))
   generalize wr.alloc (.cells #[.int .i64 z,.int .i64 m] 78)=W3 at *
   generalize argsR nm=ar at *
   by_cases he:¬ ar=me.args
   ·as_aux_lemma =>
    have e:Hid (argsB U B=false):=Lib.hid (ar_bad hbH.out (by rw [eA.out,if_neg he];decide))
    have he':(ar != me.args)=true:=by simpa using he
    clear he
    refine wp_region_still_lit (by kernel_rfl) (by kernel_rfl) ?_
    iterate 6 still_step
    still_call (PA.out _)
    iterate 8 still_step
    refine wpStill_nil ?_
    change Exit.then _ _ Exit.normal _ W3.drew
    go_wp2
    go_ret
    exact⟨congrArg (fun b=>Ending.returned (Value.bool b)) e.out.symm,hSb.out.bel⟩
   ·as_aux_lemma =>
    replace he:ar=me.args:=Decidable.not_not.1 he
    have he':(ar != me.args)=false:=by simpa using he
    have hT':=Lib.hid (hT.out.step hbH.out (by rw [eA.out,if_pos he]))
    clear he
    refine wp_region_still_lit (by kernel_rfl) (by kernel_rfl) ?_
    iterate 6 still_step
    still_call (PA.out _)
    iterate 8 still_step
    refine wpStill_nil ?_
    change Exit.then _ _ Exit.normal _ W3.drew
    clear a0 a1 a2 a3 a4 w0 w1 g0 m0
    go_wp2
    go_roundw
    case rel=>exact⟨j+1,by omega,by go_num,hT',hSb,hPb⟩
    case measure=>simp [intOf];omega
  ·as_aux_lemma =>
   have hjt':decide ((j:Int) < (n:Int))=false:=by simp;omega
   have e:Hid (argsB U B=true):=Lib.hid (ArR.last (by have:=hT.out;rw [show j=B.length by have:=hn'.out;omega] at this;exact this))
   go_wp2
   go_ret
   exact⟨congrArg (fun b=>Ending.returned (Value.bool b)) e.out.symm,hS.out.bel⟩
def mRest (U:UnitA) (k:Nat):List Int:=(U.methods.drop k).map (fun m=>metR m U.names.length U.classes.length U.methods.length)++eArgs U U.classes
def whyM (U:UnitA):Int:=firstE (mRest U 0)
theorem mRest_next {U:UnitA} {k:Nat} {m:MethA} (h:U.methods[k]?=some m):mRest U k=metR m U.names.length U.classes.length U.methods.length :: mRest U (k+1):=by unfold mRest;rw [drop_next h];rfl
theorem mRest_last {U:UnitA} {k:Nat} (h:k=U.methods.length):mRest U k=eArgs U (U.classes.drop 0):=by unfold mRest;rw [drop_all h];rfl
theorem aRest_next {U:UnitA} {k:Nat} {c:ClassA} (h:U.classes[k]?=some c):eArgs U (U.classes.drop k)=c.binds.map (eArg U)++eArgs U (U.classes.drop (k+1)):=by rw [drop_next h];rfl
theorem aRest_last {U:UnitA} {k:Nat} (h:k=U.classes.length):eArgs U (U.classes.drop k)=[]:=by rw [drop_all h];rfl
set_option maxHeartbeats 32000000 in
theorem uwhyM_c {w:World} {u:Value} {U:UnitA} (hu:UnK w u U) (hs:shapeR U.classes U.names.length U.methods.length=0) :
  Calls Tryz.prog 66 #[u] w fun e w'=>e=.returned (.int .i64 (whyM U))∧Below w.heap.size w w':=by
 obtain⟨na,nc,ca,cc,ma,mc,oa,oc,l1,l2,l3,l4,rfl,hS,j1,j2,j3,j4⟩:=hu.v1
 clear hu
 have gg:=Lib.hid hS.lens
 replace hS:=Lib.hid hS
 replace hs:=Lib.hid hs
 have T3:Hid (FE (whyM U) (mRest U 0)):=Lib.hid ⟨rfl⟩
 generalize whyM U=r at *
 go_enter Tryz.func66,Tryz.ntmps66
 go_upto_region 1 with fail
 generalize w.alloc (.cells #[.slice na l1 nc,.slice ca l2 cc,.slice ma l3 mc,.slice oa l4 oc,.int .i64 U.main] 32)=W at *
 obtain⟨a0,a1,a2,a3,a4⟩:=hS.out.cells
 go_wp2
 clear a0 a1 a2 a3 a4
 go_loopw [11] (fun i wr=>∃ (k:Nat),k≤l3∧i=.int .i64 k∧Hid (FE r (mRest U k))∧Hid (V1 w wr U na nc ca cc ma mc oa oc l1 l2 l3 l4)) (fun i _=>l3 - (intOf i).toNat)
 case atStart=>exact⟨0,by omega,rfl,T3,hS⟩
 case round =>
  clear hS T3
  obtain⟨k,hk,rfl,hT,hS⟩:=hrel
  obtain⟨a0,a1,a2,a3,a4⟩:=hS.out.cells
  by_cases hlt:k < l3
  ·as_aux_lemma =>
   have hlt':decide ((k:Int) < (l3:Int))=true:=by simp;omega
   have p0:(0:Int)≤(k:Int):=by omega
   have p1:(k:Int) < (l3:Int):=by omega
   obtain⟨x,hx⟩:∃ x,U.methods[k]?=some x:=⟨U.methods[k]'(by obtain⟨h1,h2,h3,h4⟩:=gg.out;omega),by simp⟩
   obtain⟨q1,q2,q3,q4⟩:=hS.out.caps
   obtain⟨g,off,la,lc,ka,kc,rfl,d0,d1,d2,d3,pm⟩:=MtV.at hS.out.views.2.2.1 hx
   have T:=hT.out
   rw [mRest_next hx] at T
   have hS2:=Lib.hid (hS.out.up ((Below.refl _ _).alloc (Nat.le_refl _) (.cells #[.int .i64 x.args,.int .i64 x.temps,.slice la x.lits.length lc,.slice ka x.code.length kc] 75)))
   have pm2:=Lib.hid (pm.up ((Below.refl _ _).alloc (Nat.le_refl _) (.cells #[.int .i64 x.args,.int .i64 x.temps,.slice la x.lits.length lc,.slice ka x.code.length kc] 75)))
   clear hT pm hx
   obtain⟨f0,f1,f2,f3,f4⟩:=hS2.out.cells
   obtain⟨s,hs2⟩:∃ s,metR x U.names.length U.classes.length U.methods.length=s:=⟨_,rfl⟩
   rw [hs2] at T
   by_cases hz:¬ s=0
   ·as_aux_lemma =>
    have e:Hid (r=s):=Lib.hid (T.bad hz)
    have hz':(s != 0)=true:=by simpa using hz
    replace hs2:=Lib.hid hs2
    clear T hz
    go_wp2_with fail
    refine (kright_c pm2.out hS2.out.unk).mono ?_
    rintro e1 w3 ⟨he1,hb3⟩
    rw [hs2.out] at he1
    subst he1
    replace hS:=Lib.hid (hS2.out.up hb3)
    clear hS2 hb3 pm2 hs2 f0 f1 f2 f3 f4
    go_wp2
    go_ret
    exact⟨congrArg (fun b=>Ending.returned (Value.int .i64 b)) e.out.symm,hS.out.bel⟩
   replace hz:s=0:=Decidable.not_not.1 hz
   subst hz
   have hT':=Lib.hid (T.ok rfl)
   replace hs2:=Lib.hid hs2
   clear T
   go_wp2_with fail
   refine (kright_c pm2.out hS2.out.unk).mono ?_
   rintro e1 w3 ⟨he1,hb3⟩
   rw [hs2.out] at he1
   subst he1
   replace hS:=Lib.hid (hS2.out.up hb3)
   clear hS2 hb3 pm2 hs2 f0 f1 f2 f3 f4
   go_wp2
   go_roundw
   case rel=>exact⟨k+1,by omega,by go_num,hT',hS⟩
   case measure=>simp [intOf];omega
  ·as_aux_lemma =>
   have hlt':decide ((k:Int) < (l3:Int))=false:=by simp;omega
   have hT':=hT.out
   rw [mRest_last (by obtain⟨h1,h2,h3,h4⟩:=gg.out;omega)] at hT'
   clear hT
   have hT:=Lib.hid hT'
   clear hT'
   go_wp2
   clear a0 a1 a2 a3 a4
   clear hlt hlt' hk
   go_loopw [25] (fun i wr=>∃ (k:Nat),k≤l2∧i=.int .i64 k∧Hid (FE r (eArgs U (U.classes.drop k)))∧Hid (V1 w wr U na nc ca cc ma mc oa oc l1 l2 l3 l4)) (fun i _=>l2 - (intOf i).toNat)
   case atStart=>exact⟨0,by omega,rfl,hT,hS⟩
   case round =>
    clear hS hT
    obtain⟨k,hk,rfl,hT,hS⟩:=hrel
    obtain⟨a0,a1,a2,a3,a4⟩:=hS.out.cells
    by_cases hlt:k < l2
    ·as_aux_lemma =>
     have hlt':decide ((k:Int) < (l2:Int))=true:=by simp;omega
     have p0:(0:Int)≤(k:Int):=by omega
     have p1:(k:Int) < (l2:Int):=by omega
     obtain⟨x,hx⟩:∃ x,U.classes[k]?=some x:=⟨U.classes[k]'(by obtain⟨h1,h2,h3,h4⟩:=gg.out;omega),by simp⟩
     obtain⟨_,_,g,off,bv,rfl,d0,d1,d2,d3,pb⟩:=ClV.at hS.out.views.2.1 hx
     obtain⟨ba,bc,rfl,qb1,qb2⟩:=pb.form
     have T:=hT.out
     rw [aRest_next hx] at T
     have hbr:Hid (BdU U x.binds):=Lib.hid ⟨fun j b hb=>shape_binds hs.out hx hb⟩
     have hS2:=Lib.hid (hS.out.up ((Below.refl _ _).alloc (Nat.le_refl _) (.cells #[.string x.nm,.int .i64 x.super,.int .i64 x.fields,.slice ba x.binds.length bc] 72)))
     have pb2:=Lib.hid (pb.up ((Below.refl _ _).alloc (Nat.le_refl _) (.cells #[.string x.nm,.int .i64 x.super,.int .i64 x.fields,.slice ba x.binds.length bc] 72)))
     obtain⟨f0,f1,f2,f3,f4⟩:=hS2.out.cells
     have hE:=T.eq
     rw [args_first] at hE
     replace hE:=Lib.hid hE
     have PA:=Lib.hid (uargs_c pb2.out hS2.out.unk hbr.out)
     clear hT T pb hx qb1 qb2
     cases q:argsB U x.binds with
     | false =>
      as_aux_lemma =>
      have e:Hid (r=15):=Lib.hid (by have h:=hE.out;rw [q] at h;exact h)
      rw [q] at PA
      clear q hE
      go_wp2_with fail
      refine PA.out.mono ?_
      rintro e1 w3 ⟨rfl,hb3⟩
      replace hS:=Lib.hid (hS2.out.up hb3)
      clear hS2 hb3 pb2 f0 f1 f2 f3 f4
      go_wp2
      go_ret
      exact⟨congrArg (fun b=>Ending.returned (Value.int .i64 b)) e.out.symm,hS.out.bel⟩
     | true =>
      as_aux_lemma =>
      have hT':Hid (FE r (eArgs U (U.classes.drop (k+1)))):=Lib.hid ⟨by have h:=hE.out;rw [q] at h;exact h⟩
      rw [q] at PA
      clear q hE
      go_wp2_with fail
      refine PA.out.mono ?_
      rintro e1 w3 ⟨rfl,hb3⟩
      replace hS:=Lib.hid (hS2.out.up hb3)
      clear hS2 hb3 pb2 f0 f1 f2 f3 f4
      go_wp2
      go_roundw
      case rel=>exact⟨k+1,by omega,by go_num,hT',hS⟩
      case measure=>simp [intOf];omega
    ·as_aux_lemma =>
     have hlt':decide ((k:Int) < (l2:Int))=false:=by simp;omega
     have e:Hid (r=0):=Lib.hid (by
      have h:=hT.out
      rw [aRest_last (by obtain⟨h1,h2,h3,h4⟩:=gg.out;omega)] at h
      exact h.eq)
     go_wp2
     go_ret
     exact⟨congrArg (fun b=>Ending.returned (Value.int .i64 b)) e.out.symm,hS.out.bel⟩
end Wd
end Go.Proofs.YteiejjmhmmkdhaaGreat

/- The landed programs: the objects; is a whole program right? -/
namespace Go.Proofs.YteiejjmhmmkdhaaGreat
open Go.RowKit
set_option linter.unusedVariables false
set_option maxRecDepth 20000
namespace Wd
theorem from_62 {L:List ClassA} {names methods:Int}:∀ (C:List ClassA) (i:Nat),shapeFrom L names methods i C=0→∀ c∈C,c.fields≤62
 | [],_,_,c,h=>by cases h
 | d :: C,i,e,c,h=>by
  rw [shapeFrom] at e
  split at e
  ·cases e
  ·split at e
   ·cases e
   ·split at e
    ·cases e
    ·rename_i hc
     split at e
     ·cases e
     ·rcases List.mem_cons.1 h with rfl | h
      ·have hc':classOk L i c=true:=by simpa using hc
       unfold classOk at hc'
       simp only [Bool.and_eq_true,decide_eq_true_iff] at hc'
       exact hc'.1.1.2
      ·exact from_62 C (i+1) e c h
theorem shape_62 {L:List ClassA} {names methods:Int} (e:shapeR L names methods=0):∀ c∈L,c.fields≤62:=by
 unfold shapeR at e
 split at e
 ·cases e
 ·split at e
  ·cases e
  ·exact from_62 L 0 e
def objsB (U:UnitA):Bool:=U.objects.all (fun x=>objB x U.classes U.objects.length)
structure OjR (U:UnitA) (k:Nat):Prop where
 mk ::
 all:∀ x∈U.objects.take k,objB x U.classes U.objects.length=true
theorem OjR.start (U:UnitA):OjR U 0:=⟨by simp⟩
theorem OjR.step {U:UnitA} {k:Nat} {x:ObjA} (h:OjR U k) (hx:U.objects[k]?=some x) (e:objB x U.classes U.objects.length=true):OjR U (k+1):=by
 refine⟨fun y hy=>?_⟩
 rw [take_next hx] at hy
 rcases List.mem_append.1 hy with hy | hy
 ·exact h.all y hy
 ·rw [List.mem_singleton.1 hy];exact e
theorem OjR.last {U:UnitA} (h:OjR U U.objects.length):objsB U=true:=by
 have:=h.all
 rw [List.take_length] at this
 exact List.all_eq_true.2 this
theorem oj_bad {U:UnitA} {k:Nat} {x:ObjA} (hx:U.objects[k]?=some x) (e:objB x U.classes U.objects.length=false):objsB U=false:=by
 cases h:objsB U with
 | false=>rfl
 | true=>have:=List.all_eq_true.1 h x (List.mem_of_getElem? hx);rw [e] at this;cases this
set_option maxHeartbeats 32000000 in
theorem uobjects_c {w:World} {u:Value} {U:UnitA} (hu:UnK w u U) (hs:shapeR U.classes U.names.length U.methods.length=0) :
  Calls Tryz.prog 67 #[u] w fun e w'=>e=.returned (.bool (objsB U))∧Below w.heap.size w w':=by
 obtain⟨na,nc,ca,cc,ma,mc,oa,oc,l1,l2,l3,l4,rfl,hS,j1,j2,j3,j4⟩:=hu.v1
 clear hu
 have gg:=Lib.hid hS.lens
 replace hS:=Lib.hid hS
 have h62:=Lib.hid (shape_62 hs)
 have hst:=Lib.hid (OjR.start U)
 clear hs
 go_enter Tryz.func67,Tryz.ntmps67
 go_upto_region 1 with fail
 generalize w.alloc (.cells #[.slice na l1 nc,.slice ca l2 cc,.slice ma l3 mc,.slice oa l4 oc,.int .i64 U.main] 32)=W at *
 obtain⟨a0,a1,a2,a3,a4⟩:=hS.out.cells
 go_wp2
 clear a0 a1 a2 a3 a4
 go_loopw [8] (fun i wr=>∃ (k:Nat),k≤l4∧i=.int .i64 k∧Hid (OjR U k)∧Hid (V1 w wr U na nc ca cc ma mc oa oc l1 l2 l3 l4)) (fun i _=>l4 - (intOf i).toNat)
 case atStart=>exact⟨0,by omega,rfl,hst,hS⟩
 case round =>
  clear hS hst
  obtain⟨k,hk,rfl,hT,hS⟩:=hrel
  by_cases hlt:k < l4
  ·as_aux_lemma =>
   have hlt':decide ((k:Int) < (l4:Int))=true:=by simp;omega
   have p0:(0:Int)≤(k:Int):=by omega
   have p1:(k:Int) < (l4:Int):=by omega
   obtain⟨x,hx⟩:∃ x,U.objects[k]?=some x:=⟨U.objects[k]'(by obtain⟨h1,h2,h3,h4⟩:=gg.out;omega),by simp⟩
   obtain⟨i1,g,off,fv,rfl,d0,d1,pf⟩:=ObV.at hS.out.views.2.2.2 hx
   obtain⟨fa,fc,rfl,_,_⟩:=pf.form
   have hxH:=Lib.hid hx
   have hS2:=Lib.hid (hS.out.up ((Below.refl _ _).alloc (Nat.le_refl _) (.cells #[.int .i64 x.cls,.slice fa x.flds.length fc] 66)))
   have pk:ObK wr (.agg #[.int .i64 x.cls,.slice fa x.flds.length fc]) x:=⟨i1,fa,fc,rfl,pf⟩
   have pk2:=Lib.hid (pk.up ((Below.refl _ _).alloc (Nat.le_refl _) (.cells #[.int .i64 x.cls,.slice fa x.flds.length fc] 66)))
   have pf2:=Lib.hid (pf.up ((Below.refl _ _).alloc (Nat.le_refl _) (.cells #[.int .i64 x.cls,.slice fa x.flds.length fc] 66)))
   have z0:(wr.alloc (.cells #[.int .i64 x.cls,.slice fa x.flds.length fc] 66)).cell? ⟨wr.heap.size,0,none⟩=some (.int .i64 x.cls):=World.cell?_alloc_new _ _ _ 0
   have z1:(wr.alloc (.cells #[.int .i64 x.cls,.slice fa x.flds.length fc] 66)).cell? ⟨wr.heap.size,1,none⟩=some (.slice fa x.flds.length fc):=World.cell?_alloc_new _ _ _ 1
   clear hx pf pk i1
   go_upto_region 4 with fail
   generalize wr.alloc (.cells #[.int .i64 x.cls,.slice fa x.flds.length fc] 66)=W3 at *
   generalize wr.heap.size=q3 at *
   obtain⟨f0,f1,f2,f3,f4⟩:=hS2.out.cells
   have PC:=Lib.hid (uclass_c pk2.out hS2.out.views.2.1 h62.out)
   clear d0 d1
   have eN:=Lib.hid (objB_no (o:=x) (C:=U.classes))
   have eY:=Lib.hid (objB_yes (o:=x) (C:=U.classes))
   cases q:objHead x U.classes with
   | false =>
    as_aux_lemma =>
    have e:Hid (objsB U=false):=Lib.hid (oj_bad hxH.out (eN.out q _))
    rw [q] at PC
    clear q eN eY
    go_wp2_with (first | (go_at_call 83;((with_reducible refine PC.out.mono ?_);rintro e1 w4 ⟨rfl,hb4⟩)))
    go_ret
    exact⟨congrArg (fun b=>Ending.returned (Value.bool b)) e.out.symm,hS2.out.bel.trans (hb4.mono hS2.out.bel.size)⟩
   | true =>
    have PF:=Lib.hid (fun (w':World) (b:Below W3.heap.size W3 w')=>ufields_c (pf2.out.up b) l4)
    have eQ:Hid (objB x U.classes U.objects.length=x.flds.all (fldOk · l4)):=Lib.hid (by obtain⟨h1,h2,h3,h4⟩:=gg.out;rw [eY.out q,← h4])
    rw [q] at PC
    clear q eN eY
    cases q:x.flds.all (fldOk · l4) with
    | false =>
     as_aux_lemma =>
     have e:Hid (objsB U=false):=Lib.hid (oj_bad hxH.out (eQ.out.trans q))
     rw [q] at PF
     clear q eQ
     go_wp2_with (first | (go_at_call 83;((with_reducible refine PC.out.mono ?_);rintro e1 w4 ⟨rfl,hb4⟩;have y0:=cell_up hb4 z1;have y1:=cell_up hb4 f3)) | (go_at_call 84;((with_reducible refine (PF.out _ hb4).mono ?_);rintro e1 w5 ⟨rfl,hb5⟩)))
     go_ret
     exact⟨congrArg (fun b=>Ending.returned (Value.bool b)) e.out.symm,hS2.out.bel.trans ((hb4.trans (hb5.mono hb4.size)).mono hS2.out.bel.size)⟩
    | true =>
     as_aux_lemma =>
     have hT':=Lib.hid (hT.out.step hxH.out (eQ.out.trans q))
     rw [q] at PF
     clear q eQ
     go_wp2_with (first | (go_at_call 83;((with_reducible refine PC.out.mono ?_);rintro e1 w4 ⟨rfl,hb4⟩;have y0:=cell_up hb4 z1;have y1:=cell_up hb4 f3)) | (go_at_call 84;((with_reducible refine (PF.out _ hb4).mono ?_);rintro e1 w5 ⟨rfl,hb5⟩)))
     go_roundw
     case rel=>exact⟨k+1,by omega,by go_num,hT',Lib.hid (hS2.out.up (hb4.trans (hb5.mono hb4.size)))⟩
     case measure=>simp [intOf];omega
  ·as_aux_lemma =>
   have hlt':decide ((k:Int) < (l4:Int))=false:=by simp;omega
   have e:Hid (objsB U=true):=Lib.hid (OjR.last (by have:=hT.out;rw [show k=U.objects.length by obtain⟨h1,h2,h3,h4⟩:=gg.out;omega] at this;exact this))
   go_wp2
   go_ret
   exact⟨congrArg (fun b=>Ending.returned (Value.bool b)) e.out.symm,hS.out.bel⟩
theorem objs_first:∀ (O:List ObjA) (C:List ClassA) (n:Nat) (X:List Int),firstE (O.map (fun x=>if objB x C n=true then (0:Int) else 16)++X)=if O.all (fun x=>objB x C n)=true then firstE X else 16
 | [],C,n,X=>by simp
 | o :: O,C,n,X=>by
  rw [List.map_cons,List.cons_append,firstE]
  cases h:objB o C n with
  | true=>rw [if_pos rfl,if_pos rfl,objs_first O C n X,List.all_cons,h,Bool.true_and]
  | false=>simp [h]
theorem unit_eq (U:UnitA):unitR U=if longB U=true then 3 else if namesB U.names=false then 13 else if ¬ whyC U=0 then whyC U else if ¬ whyM U=0 then whyM U else if objsB U=false then 16 else mainE U:=by
 have h1:restC U 0=cRest U 0++(mRest U 0++restO U 0):=by
  unfold restC restM restA cRest mRest
  rw [List.drop_zero]
  simp
 have h2:firstE (restO U 0)=if objsB U=true then mainE U else 16:=by
  unfold restO
  rw [List.drop_zero,objs_first]
  unfold objsB
  simp only [firstE]
  by_cases h:mainE U=0
  ·rw [if_pos h,h]
  ·rw [if_neg h]
 unfold unitR
 rw [firstE]
 by_cases hl:longB U=true
 ·rw [if_pos hl,if_pos hl,if_neg (by decide)]
 rw [if_neg hl,if_neg hl,if_pos rfl,firstE]
 cases hn:namesB U.names with
 | false=>rfl
 | true =>
 rw [if_pos rfl,if_pos rfl,if_neg (by decide),h1,← List.cons_append,firstE_app]
 unfold whyM
 change (if whyC U=0 then _ else whyC U)=_
 by_cases hc:whyC U=0
 ·rw [if_pos hc,if_neg (fun h=>h hc),firstE_app]
  by_cases hm:firstE (mRest U 0)=0
  ·rw [if_pos hm,if_neg (fun h=>h hm),h2]
   cases objsB U <;> rfl
  ·rw [if_neg hm,if_pos hm]
 ·rw [if_neg hc,if_pos hc]
theorem whyC_0 {U:UnitA} (h:whyC U=0):shapeR U.classes U.names.length U.methods.length=0:=by
 unfold whyC at h
 rw [firstE] at h
 by_cases g:shapeR U.classes U.names.length U.methods.length=0
 ·exact g
 ·rw [if_neg g] at h;exact absurd h g
end Wd
end Go.Proofs.YteiejjmhmmkdhaaGreat

/- The landed programs: is a whole program right? -/
namespace Go.Proofs.YteiejjmhmmkdhaaGreat
open Go.RowKit
set_option linter.unusedVariables false
set_option maxRecDepth 20000
namespace Wd
theorem main_no {U:UnitA} (h:¬ (0≤U.main∧U.main < (U.methods.length:Int))):mainE U=15:=by
 unfold mainE;rw [if_neg (fun g=>h ⟨g.1,g.2.1⟩)]
theorem umain_at {U:UnitA} {q:Nat} {x:MethA} (e:U.main=(q:Int)) (hx:U.methods[q]?=some x):mainE U=if x.args=0 then 0 else 15:=by
 have hq:=(List.getElem?_eq_some_iff.1 hx).1
 have ha:agAt U.methods U.main=x.args:=by unfold agAt;rw [e,Int.toNat_natCast,hx]
 unfold mainE
 rw [ha]
 by_cases h:x.args=0
 ·rw [if_pos h,if_pos ⟨by omega,by omega,h⟩]
 ·rw [if_neg h,if_neg (fun g=>h g.2.2)]
set_option maxHeartbeats 32000000 in
theorem uright_c {w:World} {u:Value} {U:UnitA} (hu:UnK w u U) :
  Calls Tryz.prog 45 #[u] w fun e w'=>e=.returned (.int .i64 (unitR U))∧Below w.heap.size w w':=by
 obtain⟨na,nc,ca,cc,ma,mc,oa,oc,l1,l2,l3,l4,rfl,hS,j1,j2,j3,j4⟩:=hu.v1
 clear hu
 have gg:=Lib.hid hS.lens
 have eU:=Lib.hid (unit_eq U)
 generalize unitR U=r at *
 replace hS:=Lib.hid hS
 have PL:=Lib.hid (fun (w':World) (h:UnK w' (.agg #[.slice na l1 nc,.slice ca l2 cc,.slice ma l3 mc,.slice oa l4 oc,.int .i64 U.main]) U)=>ulengths_c h)
 have PN:=Lib.hid (fun (w':World) (h:NmV w' (.slice na l1 nc) U.names)=>unames_c h)
 have PC:=Lib.hid (fun (w':World) (h:UnK w' (.agg #[.slice na l1 nc,.slice ca l2 cc,.slice ma l3 mc,.slice oa l4 oc,.int .i64 U.main]) U)=>uwhyC_c h)
 go_enter Tryz.func45,Tryz.ntmps45
 go_upto_region 1 with fail
 generalize w.alloc (.cells #[.slice na l1 nc,.slice ca l2 cc,.slice ma l3 mc,.slice oa l4 oc,.int .i64 U.main] 32)=W at *
 obtain⟨a0,a1,a2,a3,a4⟩:=hS.out.cells
 go_wp2_with fail
 refine (PL.out _ hS.out.unk).mono ?_
 rintro e w2 ⟨rfl,hb2⟩
 replace hS:=Lib.hid (hS.out.up hb2)
 clear hb2 a0 a1 a2 a3 a4 PL
 obtain⟨a0,a1,a2,a3,a4⟩:=hS.out.cells
 cases q:longB U with
 | true =>
  as_aux_lemma =>
  have e:Hid (r=3):=Lib.hid (by rw [eU.out,if_pos q])
  clear q eU
  go_wp2
  go_ret
  exact⟨congrArg (fun b=>Ending.returned (Value.int .i64 b)) e.out.symm,hS.out.bel⟩
 | false =>
 replace eU:=Lib.hid (eU.out.trans (if_neg (by rw [q];decide)))
 clear q
 go_wp2_with fail
 refine (PN.out _ hS.out.views.1).mono ?_
 rintro e w3 ⟨rfl,rfl⟩
 cases q:namesB U.names with
 | false =>
  as_aux_lemma =>
  have e:Hid (r=13):=Lib.hid (by rw [eU.out,if_pos q])
  clear q eU
  go_wp2
  go_ret
  exact⟨congrArg (fun b=>Ending.returned (Value.int .i64 b)) e.out.symm,hS.out.bel⟩
 | true =>
 replace eU:=Lib.hid (eU.out.trans (if_neg (by rw [q];decide)))
 clear q PN
 go_wp2_with fail
 refine (PC.out _ hS.out.unk).mono ?_
 rintro e w2 ⟨rfl,hb2⟩
 replace hS:=Lib.hid (hS.out.up hb2)
 clear hb2 a0 a1 a2 a3 a4 PC
 obtain⟨a0,a1,a2,a3,a4⟩:=hS.out.cells
 have hs0:=Lib.hid (fun h=>whyC_0 (U:=U) h)
 generalize whyC U=s at *
 by_cases hz:¬ s=0
 ·as_aux_lemma =>
  have e:Hid (r=s):=Lib.hid (by rw [eU.out,if_pos hz])
  have hz':(s != 0)=true:=by simpa using hz
  clear eU hz
  go_wp2
  go_ret
  exact⟨congrArg (fun b=>Ending.returned (Value.int .i64 b)) e.out.symm,hS.out.bel⟩
 replace eU:=Lib.hid (eU.out.trans (if_neg hz))
 replace hz:s=0:=Decidable.not_not.1 hz
 replace hs0:=Lib.hid (hs0.out hz)
 subst hz
 have PM:=Lib.hid (fun (w':World) (h:UnK w' (.agg #[.slice na l1 nc,.slice ca l2 cc,.slice ma l3 mc,.slice oa l4 oc,.int .i64 U.main]) U)=>uwhyM_c h hs0.out)
 have PO:=Lib.hid (fun (w':World) (h:UnK w' (.agg #[.slice na l1 nc,.slice ca l2 cc,.slice ma l3 mc,.slice oa l4 oc,.int .i64 U.main]) U)=>uobjects_c h hs0.out)
 clear hs0
 go_wp2_with fail
 refine (PM.out _ hS.out.unk).mono ?_
 rintro e w2 ⟨rfl,hb2⟩
 replace hS:=Lib.hid (hS.out.up hb2)
 clear hb2 a0 a1 a2 a3 a4 PM
 obtain⟨a0,a1,a2,a3,a4⟩:=hS.out.cells
 generalize whyM U=s at *
 by_cases hz:¬ s=0
 ·as_aux_lemma =>
  have e:Hid (r=s):=Lib.hid (by rw [eU.out,if_pos hz])
  have hz':(s != 0)=true:=by simpa using hz
  clear eU hz
  go_wp2
  go_ret
  exact⟨congrArg (fun b=>Ending.returned (Value.int .i64 b)) e.out.symm,hS.out.bel⟩
 replace eU:=Lib.hid (eU.out.trans (if_neg hz))
 replace hz:s=0:=Decidable.not_not.1 hz
 subst hz
 go_wp2_with fail
 refine (PO.out _ hS.out.unk).mono ?_
 rintro e w2 ⟨rfl,hb2⟩
 replace hS:=Lib.hid (hS.out.up hb2)
 clear hb2 a0 a1 a2 a3 a4 PO
 obtain⟨a0,a1,a2,a3,a4⟩:=hS.out.cells
 cases q:objsB U with
 | false =>
  as_aux_lemma =>
  have e:Hid (r=16):=Lib.hid (by rw [eU.out,if_pos q])
  clear q eU
  go_wp2
  go_ret
  exact⟨congrArg (fun b=>Ending.returned (Value.int .i64 b)) e.out.symm,hS.out.bel⟩
 | true =>
 replace eU:=Lib.hid (eU.out.trans (if_neg (by rw [q];decide)))
 clear q
 have PI:=Lib.hid (uisOne_c U.main (l3:Int))
 by_cases hm:0≤U.main∧U.main < (l3:Int)
 ·obtain⟨q,hq⟩:∃ q:Nat,U.main=(q:Int):=⟨U.main.toNat,by omega⟩
  obtain⟨h1,h2,h3,h4⟩:=gg.out
  obtain⟨x,hx⟩:∃ x,U.methods[q]?=some x:=⟨U.methods[q]'(by omega),by simp⟩
  have eM:=Lib.hid (eU.out.trans (umain_at hq hx))
  obtain⟨mg,moff,_,_,_,_,rfl,m0,_,_,_,_⟩:=MtV.at hS.out.views.2.2.1 hx
  rw [decide_eq_true hm.1,decide_eq_true hm.2] at PI
  have q0:(0:Int)≤(q:Int):=by omega
  have q1:(q:Int) < (l3:Int):=by omega
  rw [hq] at PI a4
  clear eU h1 h2 h3 h4 hx hq hm
  by_cases hz:x.args=0
  ·as_aux_lemma =>
   have e:Hid (r=0):=Lib.hid (by rw [eM.out,if_pos hz])
   have hz':(x.args != 0)=false:=by simpa using hz
   clear eM hz
   go_wp2_with (first | (go_at_call 68;((with_reducible refine (PI.out _).mono ?_);rintro e1 w2 ⟨rfl,hw2⟩;subst w2)))
   go_ret
   exact⟨congrArg (fun b=>Ending.returned (Value.int .i64 b)) e.out.symm,hS.out.bel⟩
  ·as_aux_lemma =>
   have e:Hid (r=15):=Lib.hid (by rw [eM.out,if_neg hz])
   have hz':(x.args != 0)=true:=by simpa using hz
   clear eM hz
   go_wp2_with (first | (go_at_call 68;((with_reducible refine (PI.out _).mono ?_);rintro e1 w2 ⟨rfl,hw2⟩;subst w2)))
   go_ret
   exact⟨congrArg (fun b=>Ending.returned (Value.int .i64 b)) e.out.symm,hS.out.bel⟩
 ·as_aux_lemma =>
  have e:Hid (r=15):=Lib.hid (by rw [eU.out];exact main_no (by obtain⟨h1,h2,h3,h4⟩:=gg.out;rw [← h3];exact hm))
  have hx:(decide (0≤U.main) && decide (U.main < (l3:Int)))=false:=by
   rw [Bool.and_eq_false_iff,decide_eq_false_iff_not,decide_eq_false_iff_not];omega
  rw [hx] at PI
  clear eU hm hx
  go_wp2_with (first | (go_at_call 68;((with_reducible refine (PI.out _).mono ?_);rintro e1 w2 ⟨rfl,hw2⟩;subst w2)))
  go_ret
  exact⟨congrArg (fun b=>Ending.returned (Value.int .i64 b)) e.out.symm,hS.out.bel⟩
end Wd
end Go.Proofs.YteiejjmhmmkdhaaGreat

/- Load's deferred closure; Load of a program that is not right, or without a store. -/
namespace Go.Proofs.YteiejjmhmmkdhaaGreat
open Go.RowKit
set_option linter.unusedVariables false
set_option maxRecDepth 20000
namespace Wd
theorem box3 (w:World) (a b c:Obj):(((w.alloc a).alloc b).alloc c).heap[w.heap.size]?=some a∧(((w.alloc a).alloc b).alloc c).heap[w.heap.size+1]?=some b∧(((w.alloc a).alloc b).alloc c).heap[w.heap.size+1+1]?=some c∧(((w.alloc a).alloc b).alloc c).heap.size=w.heap.size+3:=by
 refine⟨?_,?_,?_,by simp⟩
 ·rw [Below.heap_alloc _ _ _ (by simp;omega),Below.heap_alloc _ _ _ (by simp)];exact heap_alloc_new w a
 ·rw [Below.heap_alloc _ _ _ (by simp)];have:=heap_alloc_new (w.alloc a) b;simpa using this
 ·have:=heap_alloc_new ((w.alloc a).alloc b) c;simpa using this
theorem two_set {w:World} {q:Nat} {x y x' y':Value} (e4:w.cell? ⟨q+1,0,none⟩=some x') (e5:w.cell? ⟨q+1+1,0,none⟩=some y') :
  ((w.setCell ⟨q+1,0,none⟩ x).setCell ⟨q+1+1,0,none⟩ y).cell? ⟨q+1,0,none⟩=some x∧((w.setCell ⟨q+1,0,none⟩ x).setCell ⟨q+1+1,0,none⟩ y).cell? ⟨q+1+1,0,none⟩=some y∧∀ B,B≤q+1→Below B w ((w.setCell ⟨q+1,0,none⟩ x).setCell ⟨q+1+1,0,none⟩ y):=by
 have n1:(⟨q+1,0,none⟩:Addr)≠⟨q+1+1,0,none⟩:=by intro e;injection e with e1 _;omega
 refine⟨?_,?_,fun B hB=>?_⟩
 ·rw [World.cell?_setCell_other _ _ _ _ (Ne.symm n1)];exact World.cell?_setCell_same _ _ _ e4
 ·exact World.cell?_setCell_same _ _ _ (by rw [World.cell?_setCell_other _ _ _ _ n1];exact e5)
 ·exact ((Below.refl B w).setCell (p:=⟨q+1,0,none⟩) hB _).setCell (p:=⟨q+1+1,0,none⟩) (by simp only;omega) _
theorem froz_heap {w:World} {b k:Nat} {c:Array Value} {T:TypeId} (h:w.heap[b]?=some (.cells c T)):w.frozen? ⟨b,k,none⟩=false:=by simp [World.frozen?,h]
theorem catch_c (p q:Addr) (w:World) :
  CallsD Tryz.prog 44 #[.pointer (some p),.pointer (some q)] .returning w fun e u' w'=>e=.returned (.tuple #[])∧u'=.returning∧w'=w:=by
 refine callsD_of_wpS Tryz.func44 rfl fun c₀ cs hu=>?_
 apply wpS_seq
 apply wpS_region
 simp [wpOpsS,go_sem,recoverD,hu,Tryz.ntmps44,Exit.thenS]
 refine wpS_cond (t:=false) (by simp [Act.eval,Array.replicate]) ?_
 simp only [Bool.false_eq_true,if_false]
 refine wpS_of_wp (wp_skip ?_)
 cases c₀
 simp_all [bodyPostS,results,Tryz.results44]
theorem load_nil {w:World} {u:Value} {U:UnitA} (hu:UnK w u U) :
  Calls Tryz.prog 20 #[.nilIface,u] w fun e w'=>e=.returned (.tuple #[.slice none 0 0,.bool false])∧Below w.heap.size w w':=by
 obtain⟨na,nc,ca,cc,ma,mc,oa,oc,rfl,hS⟩:=hu.ex
 clear hu
 have hmf:∀ (fn:Fn) (first cap:Array Value) (w:World),(Instr.makeFunc fn first cap).run Tryz.prog w=.ok (.func fn first cap) w:=fun _ _ _ _=>rfl
 go_enter_defers Tryz.func20,Tryz.ntmps20
 go_wp2
 refine leaves_cons (f:=44) (args:=#[.pointer (some ⟨w.heap.size+1,0,none⟩),.pointer (some ⟨w.heap.size+1+1,0,none⟩)]) (by simp) (by simp [go_sem]) ?_
 refine (catch_c _ _ _).mono ?_
 rintro e u' w'' ⟨rfl,rfl,rfl⟩
 have hB:Below w.heap.size w (((w.alloc (.cells #[.slice na U.names.length nc,.slice ca U.classes.length cc,.slice ma U.methods.length mc,.slice oa U.objects.length oc,.int .i64 U.main] 32)).alloc (.cells #[.slice none 0 0] 34)).alloc (.cells #[.bool false] 4)):=((((Below.refl _ _).alloc (Nat.le_refl _) _).alloc (by simp) _).alloc (by simp;omega) _)
 simp [Leaves,settle,results,Tryz.results20,go_sem]
 exact hB
set_option maxHeartbeats 4000000 in
theorem load_bad {w:World} {u:Value} {U:UnitA} (hu:UnK w u U) (hr:¬ unitR U=0) (T:TypeId) (a:Value) :
  Calls Tryz.prog 20 #[.iface T a,u] w fun e w'=>e=.returned (.tuple #[.slice none 0 0,.bool false])∧Below w.heap.size w w':=by
 obtain⟨na,nc,ca,cc,ma,mc,oa,oc,rfl,hS⟩:=hu.ex
 have hmf:∀ (fn:Fn) (first cap:Array Value) (w:World),(Instr.makeFunc fn first cap).run Tryz.prog w=.ok (.func fn first cap) w:=fun _ _ _ _=>rfl
 have PU:=Lib.hid (fun (w':World) (b:Below w.heap.size w w')=>uright_c (hu.up b))
 have hB:Below w.heap.size w (((w.alloc (.cells #[.slice na U.names.length nc,.slice ca U.classes.length cc,.slice ma U.methods.length mc,.slice oa U.objects.length oc,.int .i64 U.main] 32)).alloc (.cells #[.slice none 0 0] 34)).alloc (.cells #[.bool false] 4)):=((((Below.refl _ _).alloc (Nat.le_refl _) _).alloc (by simp) _).alloc (by simp;omega) _)
 have hd:(unitR U == 0)=false:=by simpa using hr
 clear hu hS hr
 generalize unitR U=r at *
 generalize U.names.length=l1 at *
 generalize U.classes.length=l2 at *
 generalize U.methods.length=l3 at *
 generalize U.objects.length=l4 at *
 generalize U.main=mm at *
 generalize hW:(((w.alloc (.cells #[.slice na l1 nc,.slice ca l2 cc,.slice ma l3 mc,.slice oa l4 oc,.int .i64 mm] 32)).alloc (.cells #[.slice none 0 0] 34)).alloc (.cells #[.bool false] 4))=W at *
 obtain⟨x0,x1,x2,x3⟩:=box3 w (.cells #[.slice na l1 nc,.slice ca l2 cc,.slice ma l3 mc,.slice oa l4 oc,.int .i64 mm] 32) (.cells #[.slice none 0 0] 34) (.cells #[.bool false] 4)
 rw [hW] at x0 x1 x2 x3
 have b0:W.cell? ⟨w.heap.size,0,none⟩=some (.slice na l1 nc):=by rw [Lib.cell_of_heap x0];rfl
 have b1:W.cell? ⟨w.heap.size,1,none⟩=some (.slice ca l2 cc):=by rw [Lib.cell_of_heap x0];rfl
 have b2:W.cell? ⟨w.heap.size,2,none⟩=some (.slice ma l3 mc):=by rw [Lib.cell_of_heap x0];rfl
 have b3:W.cell? ⟨w.heap.size,3,none⟩=some (.slice oa l4 oc):=by rw [Lib.cell_of_heap x0];rfl
 have b4:W.cell? ⟨w.heap.size,4,none⟩=some (.int .i64 mm):=by rw [Lib.cell_of_heap x0];rfl
 have c4:W.cell? ⟨w.heap.size+1,0,none⟩=some (.slice none 0 0):=by rw [Lib.cell_of_heap x1];rfl
 have c5:W.cell? ⟨w.heap.size+1+1,0,none⟩=some (.bool false):=by rw [Lib.cell_of_heap x2];rfl
 have z4:W.frozen? ⟨w.heap.size+1,0,none⟩=false:=froz_heap x1
 have z5:W.frozen? ⟨w.heap.size+1+1,0,none⟩=false:=froz_heap x2
 clear x0 x1 x2
 replace hB:=Lib.hid hB
 go_enter_defers Tryz.func20,Tryz.ntmps20
 go_upto_region 2 with fail
 clear hW
 go_wp2_with (go_at_call 45;refine (PU.out W hB.out).mono ?_;rintro e w2 ⟨rfl,hb2⟩;have e4:=cell_up hb2 c4;have e5:=cell_up hb2 c5;have f4:=(hb2.frozen (World.block_lt_of_cell? _ _ c4)).trans z4;have f5:=(hb2.frozen (World.block_lt_of_cell? _ _ c5)).trans z5;clear c4 c5 z4 z5 b0 b1 b2 b3 b4)
 refine leaves_cons (f:=44) (args:=#[.pointer (some ⟨w.heap.size+1,0,none⟩),.pointer (some ⟨w.heap.size+1+1,0,none⟩)]) (by simp) (by simp [go_sem]) ?_
 refine (catch_c _ _ _).mono ?_
 rintro e u' w'' ⟨rfl,rfl,rfl⟩
 obtain⟨k4,k5,kb⟩:=two_set (x:=.slice none 0 0) (y:=.bool false) e4 e5
 have hB2:=(hB.out.trans (hb2.mono hB.out.size)).trans (kb _ (by omega))
 clear kb
 generalize ((w2.setCell ⟨w.heap.size+1,0,none⟩ (.slice none 0 0)).setCell ⟨w.heap.size+1+1,0,none⟩ (.bool false))=W9 at *
 simp [Leaves,settle,results,Tryz.results20,go_sem,k4,k5]
 exact hB2
end Wd
end Go.Proofs.YteiejjmhmmkdhaaGreat

/- Load: what holds while objects are made. -/
namespace Go.Proofs.YteiejjmhmmkdhaaGreat
open Go.RowKit
set_option linter.unusedVariables false
set_option maxRecDepth 20000
namespace Wd
def noP (Q:Exit→Act→World→Prop):Exit→Act→World→Prop:=fun x a w=>match x with
 | .panic _=>False
 | e=>Q e a w
theorem wp_noP {P:Program} {Q:Exit→Act→World→Prop} {c:Code} {a:Act} {w:World} (h:c.wp P (noP Q) a w):c.wp P Q a w :=
 Code.wp_mono (fun e a w h=>by cases e <;> first | exact h | exact h.elim) h
theorem noP_normal {Q:Exit→Act→World→Prop} {a:Act} {w:World} (h:Q .normal a w):noP Q .normal a w:=h
theorem Cg.belowB {F:Nat→Prop} {w w1 w2:World} (h:Cg F w w1) (b:Below w.heap.size w1 w2):Cg F w w2 :=
 ⟨b.os.trans h.os,b.tape.trans h.tape,b.output.trans h.output,Nat.le_trans h.size b.size,fun k hk hF=>(b.block k hk).trans (h.block k hk hF)⟩
theorem Cg.toB {w w':World} {F0:Nat→Prop} {B:Nat} (c:Cg F0 w w') (hB:B≤w.heap.size) (hF0:∀ k,F0 k→B≤k):Below B w w' :=
 ⟨c.os,c.tape,c.output,c.size,fun k hk=>c.block k (by omega) (fun e=>by have:=hF0 k e;omega)⟩
structure LdI {σ:Type} (P:World→σ→(Nat→Prop)→Prop) (w0:World) (F0:Nat→Prop) (oa:Option Addr) (n oc:Nat) (wr:World) (iv:Value) (T:σ) (F:Nat→Prop) (ids:List Int):Prop where
 cg:Cg F0 w0 wr
 sz:w0.heap.size+3≤wr.heap.size
 st:P wr T F
 nF:∀ k,F k→(F0 k∧k < w0.heap.size)∨w0.heap.size+3≤k
 b3:wr.cell? ⟨w0.heap.size,3,none⟩=some (.slice oa n oc)
 c4:wr.cell? ⟨w0.heap.size+1,0,none⟩=some iv
 z4:wr.frozen? ⟨w0.heap.size+1,0,none⟩=false
 c5:wr.cell? ⟨w0.heap.size+1+1,0,none⟩=some (.bool false)
 z5:wr.frozen? ⟨w0.heap.size+1+1,0,none⟩=false
 own:wr.ownsRow 0 3 1 iv ids.length (ints ids)
 of:∀ k,iv.ownBlock=some k→¬ F k∧w0.heap.size+3≤k
section
variable {σ:Type} {P:World→σ→(Nat→Prop)→Prop} {w0 wr w' w2:World} {F0 F F':Nat→Prop} {oa:Option Addr} {n oc:Nat} {iv iv':Value} {T T':σ} {ids:List Int}
theorem LdI.same (h:LdI P w0 F0 oa n oc wr iv T F ids) (hP:P w' T' F) (hc:Cg F0 w0 w') (e:∀ k,k < wr.heap.size→¬ F k→w'.heap[k]?=wr.heap[k]?) (hs:wr.heap.size≤w'.heap.size):LdI P w0 F0 oa n oc w' iv T' F ids:=by
 have hz:=h.sz
 have o:∀ j,j < 3→w'.heap[w0.heap.size+j]?=wr.heap[w0.heap.size+j]?:=fun j hj=>e _ (by omega) (fun hF=>by rcases h.nF _ hF with h1 | h1 <;> omega)
 exact⟨hc,Nat.le_trans hz hs,hP,h.nF,(World.cell?_of_block (a:=⟨w0.heap.size,3,none⟩) (o 0 (by omega))).trans h.b3,(World.cell?_of_block (a:=⟨w0.heap.size+1,0,none⟩) (o 1 (by omega))).trans h.c4,(World.frozen?_of_block (a:=⟨w0.heap.size+1,0,none⟩) (o 1 (by omega))).trans h.z4,(World.cell?_of_block (a:=⟨w0.heap.size+1+1,0,none⟩) (o 2 (by omega))).trans h.c5,(World.frozen?_of_block (a:=⟨w0.heap.size+1+1,0,none⟩) (o 2 (by omega))).trans h.z5,own_same h.own (fun k hk=>e k (own_lt h.own k hk) (h.of k hk).1) hs,h.of⟩
theorem LdI.stp (h:LdI P w0 F0 oa n oc wr iv T F ids) (hP:P w' T' F') (c:Cg F wr w') (hn:∀ k,F' k→F k∨wr.heap.size≤k) (hF0:∀ k,F0 k→k < w0.heap.size) (hlt:∀ k,iv.ownBlock=some k→k < wr.heap.size):LdI P w0 F0 oa n oc w' iv T' F' ids:=by
 have hz:=h.sz
 have o:∀ j,j < 3→w'.heap[w0.heap.size+j]?=wr.heap[w0.heap.size+j]?:=fun j hj=>c.block _ (by omega) (fun hF=>by rcases h.nF _ hF with h1 | h1 <;> omega)
 refine⟨h.cg.trans' c (fun k hk=>(h.nF k hk).elim (fun e=>Or.inl e.1) (fun e=>Or.inr (by omega))),Nat.le_trans hz c.size,hP,fun k hk=>(hn k hk).elim (h.nF k) (fun e=>Or.inr (by omega)),(World.cell?_of_block (a:=⟨w0.heap.size,3,none⟩) (o 0 (by omega))).trans h.b3,(World.cell?_of_block (a:=⟨w0.heap.size+1,0,none⟩) (o 1 (by omega))).trans h.c4,(World.frozen?_of_block (a:=⟨w0.heap.size+1,0,none⟩) (o 1 (by omega))).trans h.z4,(World.cell?_of_block (a:=⟨w0.heap.size+1+1,0,none⟩) (o 2 (by omega))).trans h.c5,(World.frozen?_of_block (a:=⟨w0.heap.size+1+1,0,none⟩) (o 2 (by omega))).trans h.z5,own_same h.own (fun k hk=>c.block k (own_lt h.own k hk) (h.of k hk).1) c.size,fun k hk=>⟨fun hF=>?_,(h.of k hk).2⟩⟩
 rcases hn k hF with h1 | h1
 ·exact (h.of k hk).1 h1
 ·have:=hlt k hk;omega
theorem LdI.app (h:LdI P w0 F0 oa n oc wr iv T F ids) (hlF:∀ k,F k→k < wr.heap.size) (hsm:∀ w',wr.heap.size≤w'.heap.size→(∀ k,F k→w'.heap[k]?=wr.heap[k]?)→P w' T F) {id:Int} {o:Obj} (ho:w2.ownsRow 0 3 1 iv' (ids.length+1) (ints ids++[.int .i64 id])) (hg:(wr.alloc o).grownBy w2 iv.ownBlock) (hv:iv'.ownBlock=iv.ownBlock∨iv'.ownBlock=some (wr.alloc o).heap.size) :
  LdI P w0 F0 oa n oc (w2.setCell ⟨w0.heap.size+1,0,none⟩ iv') iv' T F (ids++[id]):=by
 have hz:=h.sz
 have hs1:(wr.alloc o).heap.size=wr.heap.size+1:=by simp
 have hsz:wr.heap.size≤w2.heap.size:=by have:=hg.size;omega
 have e2:∀ k,k < wr.heap.size→iv.ownBlock≠some k→w2.heap[k]?=wr.heap[k]?:=fun k hk hne=>(hg.block k (by omega) (fun e=>hne e.symm)).trans (Below.heap_alloc _ _ _ hk)
 have es:∀ k,k≠w0.heap.size+1→(w2.setCell ⟨w0.heap.size+1,0,none⟩ iv').heap[k]?=w2.heap[k]?:=fun k hk=>Below.heap_setCell _ _ _ _ hk
 have no:∀ j,j < 3→iv.ownBlock≠some (w0.heap.size+j):=fun j hj e=>by have:=(h.of _ e).2;omega
 have o':∀ j,j < 3→w2.heap[w0.heap.size+j]?=wr.heap[w0.heap.size+j]?:=fun j hj=>e2 _ (by omega) (no j hj)
 have hnv:∀ k,iv'.ownBlock=some k→¬ F k∧w0.heap.size+3≤k:=by
  intro k hk
  rcases hv with e | e
  ·exact h.of k (by rw [← e];exact hk)
  ·rw [e] at hk
   have:=Option.some.inj hk
   exact⟨fun hF=>by have:=hlF k hF;omega,by omega⟩
 have hk:∀ k,F k→(w2.setCell ⟨w0.heap.size+1,0,none⟩ iv').heap[k]?=wr.heap[k]?:=fun k hF=>by
  rw [es k (fun e=>by rcases h.nF k hF with h1 | h1 <;> omega)]
  exact e2 k (hlF k hF) (fun e=>(h.of k e).1 hF)
 refine⟨⟨hg.os.trans h.cg.os,hg.tape.trans h.cg.tape,hg.output.trans h.cg.output,?_,fun k hk hF=>?_⟩,?_,hsm _ (by simpa [World.setCell] using hsz) hk,h.nF,?_,?_,?_,?_,?_,?_,hnv⟩
 ·have:(w2.setCell ⟨w0.heap.size+1,0,none⟩ iv').heap.size=w2.heap.size:=by simp [World.setCell]
  omega
 ·rw [es k (by omega),e2 k (by omega) (fun e=>by have:=(h.of k e).2;omega)]
  exact h.cg.block k hk hF
 ·have:(w2.setCell ⟨w0.heap.size+1,0,none⟩ iv').heap.size=w2.heap.size:=by simp [World.setCell]
  omega
 ·exact (World.cell?_of_block (a:=⟨w0.heap.size,3,none⟩) ((es w0.heap.size (by omega)).trans (o' 0 (by omega)))).trans h.b3
 ·exact World.cell?_setCell_same _ _ _ ((World.cell?_of_block (a:=⟨w0.heap.size+1,0,none⟩) (o' 1 (by omega))).trans h.c4)
 ·rw [World.frozen?_setCell];exact (World.frozen?_of_block (a:=⟨w0.heap.size+1,0,none⟩) (o' 1 (by omega))).trans h.z4
 ·exact (World.cell?_of_block (a:=⟨w0.heap.size+1+1,0,none⟩) ((es (w0.heap.size+1+1) (by omega)).trans (o' 2 (by omega)))).trans h.c5
 ·rw [World.frozen?_setCell];exact (World.frozen?_of_block (a:=⟨w0.heap.size+1+1,0,none⟩) (o' 2 (by omega))).trans h.z5
 ·have:ints (ids++[id])=ints ids++[.int .i64 id]:=by simp [ints]
  rw [List.length_append,List.length_singleton,this]
  exact own_same ho (fun k hk=>es k (by have:=(hnv k hk).2;omega)) (by simp [World.setCell])
theorem LdI.cell (h:LdI P w0 F0 oa n oc wr iv T F ids) {o:Obj} (hg:(wr.alloc o).grownBy w2 iv.ownBlock):w2.cell? ⟨w0.heap.size+1,0,none⟩=some iv∧w2.frozen? ⟨w0.heap.size+1,0,none⟩=false:=by
 have hz:=h.sz
 have hs1:(wr.alloc o).heap.size=wr.heap.size+1:=by simp
 have e:w2.heap[w0.heap.size+1]?=wr.heap[w0.heap.size+1]?:=(hg.block _ (by omega) (fun e=>by have:=(h.of _ e.symm).2;omega)).trans (Below.heap_alloc _ _ _ (by omega))
 exact⟨(World.cell?_of_block (a:=⟨w0.heap.size+1,0,none⟩) e).trans h.c4,(World.frozen?_of_block (a:=⟨w0.heap.size+1,0,none⟩) e).trans h.z4⟩
theorem infoI8:(Tryz.prog.info? 3).map (fun i=>(i.zero,i.size,i.bytes))=some (some (.int .i64 0),1,8):=by kernel_rfl
theorem LdI.begin {a:Obj} {w:World} {S:σ} (hP:P w S F0) (hlt:∀ k,F0 k→k < w.heap.size) (hk:∀ w',Below w.heap.size w w'→P w' S F0) {x0 x1 x2 x4:Value} (hA:a=.cells #[x0,x1,x2,.slice oa n oc,x4] 32) :
  LdI P w F0 oa n oc (((w.alloc a).alloc (.cells #[.slice none 0 0] 34)).alloc (.cells #[.bool false] 4)) (.slice none 0 0) S F0 []:=by
 obtain⟨y0,y1,y2,y3⟩:=box3 w a (.cells #[.slice none 0 0] 34) (.cells #[.bool false] 4)
 subst hA
 have hB:Below w.heap.size w (((w.alloc (.cells #[x0,x1,x2,.slice oa n oc,x4] 32)).alloc (.cells #[.slice none 0 0] 34)).alloc (.cells #[.bool false] 4)):=((((Below.refl _ _).alloc (Nat.le_refl _) _).alloc (by simp) _).alloc (by simp;omega) _)
 exact⟨Cg.below _ hB,by rw [y3];exact Nat.le_refl _,hk _ hB,fun k e=>Or.inl ⟨e,hlt k e⟩,by rw [Lib.cell_of_heap y0];rfl,by rw [Lib.cell_of_heap y1];rfl,froz_heap y1,by rw [Lib.cell_of_heap y2];rfl,froz_heap y2,⟨by simp [ints],Or.inl ⟨rfl,rfl⟩⟩,fun k e=>by simp [Value.ownBlock] at e⟩
end
end Wd
end Go.Proofs.YteiejjmhmmkdhaaGreat
