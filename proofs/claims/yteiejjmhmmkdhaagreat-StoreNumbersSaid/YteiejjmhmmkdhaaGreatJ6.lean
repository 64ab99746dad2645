/- Texts joined: KD. -/
import Derived.Test.YteiejjmhmmkdhaaGreatJ1
import Derived.Deep.RegionHeld3
import Derived.Deep.DeepCutAuto
import Derived.Deep.CutBlock
/- A few instructions that go together. -/
namespace Go.Proofs.YteiejjmhmmkdhaaGreat
open Go.RowKit
set_option linter.unusedVariables false
set_option maxRecDepth 20000
namespace Wd
set_option maxHeartbeats 64000000 in
theorem piece_c {w0 w wr:World} {p n:Nat} {ad:Option Addr} {v0 v:Value} {C:List Int} (h:Pc w0 w wr p n ad v0 v C) (hl:C.length≤90000) :
  Calls Tryz.prog 59 #[.pointer (some ⟨p,0,none⟩),v] wr fun e w'=>∃ v' l,e=.returned v'∧pieceOk l∧Pc w0 w w' p n ad v0 v' (C++flat l):=by
 replace h:=Lib.hid h
 go_enter Tryz.func59,Tryz.ntmps59
 go_wp2_with fail
 refine (next_c 20 (by omega) (by omega) h.out.ks.tp).mono ?_
 rintro e w1 ⟨a,rfl,⟨a0,a1⟩,t1,c1⟩
 have h1:=Lib.hid (h.out.next t1 c1)
 clear h t1 c1
 go_wp2_with fail
 refine (next_c 22 (by omega) (by omega) h1.out.ks.tp).mono ?_
 rintro e w2 ⟨q,rfl,⟨q0,q1⟩,t1,c1⟩
 have h2:=Lib.hid (h1.out.next t1 c1)
 clear h1 t1 c1
 rcases (show q=0∨q=1∨q=2∨q=3∨q=4∨q=5∨q=6∨q=7∨q=8∨(q=9∨q=10)∨q=11∨q=12∨q=13∨q=14∨q=15∨q=16∨q=17∨q=18∨q=19∨q=20∨q=21 by omega) with rfl | rfl | rfl | rfl | rfl | rfl | rfl | rfl | rfl | hq | rfl | rfl | rfl | rfl | rfl | rfl | rfl | rfl | rfl | rfl | rfl
 ·as_aux_lemma =>
  go_wp2_with fail
  with_reducible refine (op_c h2.out (by first | omega | (simp only [List.length_append,List.length_cons,List.length_nil];omega)) _ _).mono ?_
  rintro e w3 ⟨v3,rfl,h3⟩
  replace h3:=Lib.hid h3
  clear h2
  go_wp2_with fail
  with_reducible refine (op_c h3.out (by first | omega | (simp only [List.length_append,List.length_cons,List.length_nil];omega)) _ _).mono ?_
  rintro e w4 ⟨v4,rfl,h4⟩
  replace h4:=Lib.hid h4
  clear h3
  go_wp2_with fail
  with_reducible refine (op_c h4.out (by first | omega | (simp only [List.length_append,List.length_cons,List.length_nil];omega)) _ _).mono ?_
  rintro e w5 ⟨v5,rfl,h5⟩
  replace h5:=Lib.hid h5
  clear h4
  have hfin:C++flat [(wr8 7,wr8 a),(wr8 21,wr8 10),(wr8 8,wr8 0)]=C++[wr8 7,wr8 a]++[wr8 21,wr8 10]++[wr8 8,wr8 0]:=by simp [flat]
  go_wp2
  go_ret
  exact⟨_,[(wr8 7,wr8 a),(wr8 21,wr8 10),(wr8 8,wr8 0)],rfl,pk_A ⟨a,⟨by omega,by omega⟩,rfl⟩,by rw [hfin];exact h5.out⟩
 ·as_aux_lemma =>
  go_wp2_with fail
  with_reducible refine (op_c h2.out (by first | omega | (simp only [List.length_append,List.length_cons,List.length_nil];omega)) _ _).mono ?_
  rintro e w3 ⟨v3,rfl,h3⟩
  replace h3:=Lib.hid h3
  clear h2
  go_wp2_with fail
  with_reducible refine (op_c h3.out (by first | omega | (simp only [List.length_append,List.length_cons,List.length_nil];omega)) _ _).mono ?_
  rintro e w4 ⟨v4,rfl,h4⟩
  replace h4:=Lib.hid h4
  clear h3
  go_wp2_with fail
  with_reducible refine (op_c h4.out (by first | omega | (simp only [List.length_append,List.length_cons,List.length_nil];omega)) _ _).mono ?_
  rintro e w5 ⟨v5,rfl,h5⟩
  replace h5:=Lib.hid h5
  clear h4
  have hfin:C++flat [(wr8 7,wr8 a),(wr8 21,wr8 10),(wr8 8,wr8 0)]=C++[wr8 7,wr8 a]++[wr8 21,wr8 10]++[wr8 8,wr8 0]:=by simp [flat]
  go_wp2
  go_ret
  exact⟨_,[(wr8 7,wr8 a),(wr8 21,wr8 10),(wr8 8,wr8 0)],rfl,pk_A ⟨a,⟨by omega,by omega⟩,rfl⟩,by rw [hfin];exact h5.out⟩
 ·as_aux_lemma =>
  go_wp2_with fail
  with_reducible refine (op_c h2.out (by first | omega | (simp only [List.length_append,List.length_cons,List.length_nil];omega)) _ _).mono ?_
  rintro e w3 ⟨v3,rfl,h3⟩
  replace h3:=Lib.hid h3
  clear h2
  have hsl:=h3.out.ks.cg.size
  have hk4:=Lib.hid (h3.out.keep ((Below.refl _ _).alloc (Nat.le_refl _) (.cells #[.int .i64 4,.int .i64 8,.int .i64 9] 3)))
  have hlt4:=hk4.out.ks.p0
  skip
  go_wp2_with fail
  refine (next_c 3 (by omega) (by omega) hk4.out.ks.tp).mono ?_
  rintro e w4 ⟨x4,rfl,⟨x40,x41⟩,t1,c1⟩
  have h4:=Lib.hid (hk4.out.next t1 c1)
  have hne4:w3.heap.size≠p:=by have:=h4.out.ks.p0;have:=hsl;omega
  have q4_0:w4.cell? ⟨w3.heap.size,0,none⟩=some (.int .i64 4):=(World.cell?_of_block (a:=⟨w3.heap.size,0,none⟩) (c1.block w3.heap.size (by simp) hne4)).trans (by simp)
  have q4_1:w4.cell? ⟨w3.heap.size,1,none⟩=some (.int .i64 8):=(World.cell?_of_block (a:=⟨w3.heap.size,1,none⟩) (c1.block w3.heap.size (by simp) hne4)).trans (by simp)
  have q4_2:w4.cell? ⟨w3.heap.size,2,none⟩=some (.int .i64 9):=(World.cell?_of_block (a:=⟨w3.heap.size,2,none⟩) (c1.block w3.heap.size (by simp) hne4)).trans (by simp)
  clear hk4 t1 c1
  obtain⟨s,hs,hrow⟩:∃ s:Int,(s=4∨s=8∨s=9)∧∃ j:Nat,x4=j∧j < 3∧w4.cell? ⟨w3.heap.size,0+j,none⟩=some (.int .i64 s):=by
   rcases (show x4=0∨x4=1∨x4=2 by omega) with rfl | rfl | rfl
   ·exact⟨4,by omega,0,rfl,by omega,q4_0⟩
   ·exact⟨8,by omega,1,rfl,by omega,q4_1⟩
   ·exact⟨9,by omega,2,rfl,by omega,q4_2⟩
  obtain⟨j,hj,hjn,hc⟩:=hrow
  have hj1:(j:Int) < 3:=by omega
  rw [Nat.zero_add] at hc
  subst hj
  go_wp2_with fail
  with_reducible refine (op_c h4.out (by first | omega | (simp only [List.length_append,List.length_cons,List.length_nil];omega)) _ _).mono ?_
  rintro e w5 ⟨v5,rfl,h5⟩
  replace h5:=Lib.hid h5
  clear h4
  go_wp2_with fail
  with_reducible refine (op_c h5.out (by first | omega | (simp only [List.length_append,List.length_cons,List.length_nil];omega)) _ _).mono ?_
  rintro e w6 ⟨v6,rfl,h6⟩
  replace h6:=Lib.hid h6
  clear h5
  have hfin:C++flat [(wr8 3,wr8 0),(wr8 12,wr8 s),(wr8 8,wr8 0)]=C++[wr8 3,wr8 0]++[wr8 12,wr8 s]++[wr8 8,wr8 0]:=by simp [flat]
  go_wp2
  go_ret
  exact⟨_,[(wr8 3,wr8 0),(wr8 12,wr8 s),(wr8 8,wr8 0)],rfl,pk_B ⟨s,hs,rfl⟩,by rw [hfin];exact h6.out⟩
 ·as_aux_lemma =>
  go_wp2_with fail
  with_reducible refine (op_c h2.out (by first | omega | (simp only [List.length_append,List.length_cons,List.length_nil];omega)) _ _).mono ?_
  rintro e w3 ⟨v3,rfl,h3⟩
  replace h3:=Lib.hid h3
  clear h2
  go_wp2_with fail
  with_reducible refine (op_c h3.out (by first | omega | (simp only [List.length_append,List.length_cons,List.length_nil];omega)) _ _).mono ?_
  rintro e w4 ⟨v4,rfl,h4⟩
  replace h4:=Lib.hid h4
  clear h3
  go_wp2_with fail
  refine (next_c 2 (by omega) (by omega) h4.out.ks.tp).mono ?_
  rintro e w5 ⟨x5,rfl,⟨x50,x51⟩,t1,c1⟩
  have h5:=Lib.hid (h4.out.next t1 c1)
  clear h4 t1 c1
  go_wp2_with fail
  with_reducible refine (op_c h5.out (by first | omega | (simp only [List.length_append,List.length_cons,List.length_nil];omega)) _ _).mono ?_
  rintro e w6 ⟨v6,rfl,h6⟩
  replace h6:=Lib.hid h6
  clear h5
  go_wp2_with fail
  with_reducible refine (op_c h6.out (by first | omega | (simp only [List.length_append,List.length_cons,List.length_nil];omega)) _ _).mono ?_
  rintro e w7 ⟨v7,rfl,h7⟩
  replace h7:=Lib.hid h7
  clear h6
  go_wp2_with fail
  with_reducible refine (op_c h7.out (by first | omega | (simp only [List.length_append,List.length_cons,List.length_nil];omega)) _ _).mono ?_
  rintro e w8 ⟨v8,rfl,h8⟩
  replace h8:=Lib.hid h8
  clear h7
  have hfin:C++flat [(wr8 3,wr8 0),(wr8 7,wr8 a),(wr8 12,wr8 (5+x5)),(wr8 21,wr8 10),(wr8 8,wr8 0)]=C++[wr8 3,wr8 0]++[wr8 7,wr8 a]++[wr8 12,wr8 (5+x5)]++[wr8 21,wr8 10]++[wr8 8,wr8 0]:=by simp [flat]
  go_wp2
  go_ret
  exact⟨_,[(wr8 3,wr8 0),(wr8 7,wr8 a),(wr8 12,wr8 (5+x5)),(wr8 21,wr8 10),(wr8 8,wr8 0)],rfl,pk_C ⟨a,x5,⟨by omega,by omega⟩,⟨by omega,by omega⟩,rfl⟩,by rw [hfin];exact h8.out⟩
 ·as_aux_lemma =>
  go_wp2_with fail
  refine (next_c 4 (by omega) (by omega) h2.out.ks.tp).mono ?_
  rintro e w3 ⟨x3,rfl,⟨x30,x31⟩,t1,c1⟩
  have h3:=Lib.hid (h2.out.next t1 c1)
  clear h2 t1 c1
  go_wp2_with fail
  with_reducible refine (op_c h3.out (by first | omega | (simp only [List.length_append,List.length_cons,List.length_nil];omega)) _ _).mono ?_
  rintro e w4 ⟨v4,rfl,h4⟩
  replace h4:=Lib.hid h4
  clear h3
  go_wp2_with fail
  with_reducible refine (op_c h4.out (by first | omega | (simp only [List.length_append,List.length_cons,List.length_nil];omega)) _ _).mono ?_
  rintro e w5 ⟨v5,rfl,h5⟩
  replace h5:=Lib.hid h5
  clear h4
  go_wp2_with fail
  refine (next_c 6 (by omega) (by omega) h5.out.ks.tp).mono ?_
  rintro e w6 ⟨x6,rfl,⟨x60,x61⟩,t1,c1⟩
  have h6:=Lib.hid (h5.out.next t1 c1)
  clear h5 t1 c1
  go_wp2_with fail
  with_reducible refine (op_c h6.out (by first | omega | (simp only [List.length_append,List.length_cons,List.length_nil];omega)) _ _).mono ?_
  rintro e w7 ⟨v7,rfl,h7⟩
  replace h7:=Lib.hid h7
  clear h6
  go_wp2_with fail
  with_reducible refine (op_c h7.out (by first | omega | (simp only [List.length_append,List.length_cons,List.length_nil];omega)) _ _).mono ?_
  rintro e w8 ⟨v8,rfl,h8⟩
  replace h8:=Lib.hid h8
  clear h7
  go_wp2_with fail
  with_reducible refine (op_c h8.out (by first | omega | (simp only [List.length_append,List.length_cons,List.length_nil];omega)) _ _).mono ?_
  rintro e w9 ⟨v9,rfl,h9⟩
  replace h9:=Lib.hid h9
  clear h8
  have hfin:C++flat [(wr8 2,wr8 x3),(wr8 7,wr8 (a - 9)),(wr8 21,wr8 x6),(wr8 21,wr8 10),(wr8 8,wr8 0)]=C++[wr8 2,wr8 x3]++[wr8 7,wr8 (a - 9)]++[wr8 21,wr8 x6]++[wr8 21,wr8 10]++[wr8 8,wr8 0]:=by simp [flat]
  go_wp2
  go_ret
  exact⟨_,[(wr8 2,wr8 x3),(wr8 7,wr8 (a - 9)),(wr8 21,wr8 x6),(wr8 21,wr8 10),(wr8 8,wr8 0)],rfl,pk_D ⟨x3,a,x6,⟨by omega,by omega⟩,⟨by omega,by omega⟩,⟨by omega,by omega⟩,rfl⟩,by rw [hfin];exact h9.out⟩
 ·as_aux_lemma =>
  go_wp2_with fail
  refine (next_c 2 (by omega) (by omega) h2.out.ks.tp).mono ?_
  rintro e w3 ⟨x3,rfl,⟨x30,x31⟩,t1,c1⟩
  have h3:=Lib.hid (h2.out.next t1 c1)
  clear h2 t1 c1
  go_wp2_with fail
  with_reducible refine (op_c h3.out (by first | omega | (simp only [List.length_append,List.length_cons,List.length_nil];omega)) _ _).mono ?_
  rintro e w4 ⟨v4,rfl,h4⟩
  replace h4:=Lib.hid h4
  clear h3
  go_wp2_with fail
  refine (next_c 2 (by omega) (by omega) h4.out.ks.tp).mono ?_
  rintro e w5 ⟨x5,rfl,⟨x50,x51⟩,t1,c1⟩
  have h5:=Lib.hid (h4.out.next t1 c1)
  clear h4 t1 c1
  go_wp2_with fail
  with_reducible refine (op_c h5.out (by first | omega | (simp only [List.length_append,List.length_cons,List.length_nil];omega)) _ _).mono ?_
  rintro e w6 ⟨v6,rfl,h6⟩
  replace h6:=Lib.hid h6
  clear h5
  go_wp2_with fail
  with_reducible refine (op_c h6.out (by first | omega | (simp only [List.length_append,List.length_cons,List.length_nil];omega)) _ _).mono ?_
  rintro e w7 ⟨v7,rfl,h7⟩
  replace h7:=Lib.hid h7
  clear h6
  have hfin:C++flat [(wr8 20,wr8 (10+x3)),(wr8 10,wr8 x5),(wr8 8,wr8 0)]=C++[wr8 20,wr8 (10+x3)]++[wr8 10,wr8 x5]++[wr8 8,wr8 0]:=by simp [flat]
  go_wp2
  go_ret
  exact⟨_,[(wr8 20,wr8 (10+x3)),(wr8 10,wr8 x5),(wr8 8,wr8 0)],rfl,pk_E ⟨x3,x5,⟨by omega,by omega⟩,⟨by omega,by omega⟩,rfl⟩,by rw [hfin];exact h7.out⟩
 ·as_aux_lemma =>
  go_wp2_with fail
  refine (next_c 2 (by omega) (by omega) h2.out.ks.tp).mono ?_
  rintro e w3 ⟨x3,rfl,⟨x30,x31⟩,t1,c1⟩
  have h3:=Lib.hid (h2.out.next t1 c1)
  clear h2 t1 c1
  go_wp2_with fail
  with_reducible refine (op_c h3.out (by first | omega | (simp only [List.length_append,List.length_cons,List.length_nil];omega)) _ _).mono ?_
  rintro e w4 ⟨v4,rfl,h4⟩
  replace h4:=Lib.hid h4
  clear h3
  go_wp2_with fail
  refine (next_c 2 (by omega) (by omega) h4.out.ks.tp).mono ?_
  rintro e w5 ⟨x5,rfl,⟨x50,x51⟩,t1,c1⟩
  have h5:=Lib.hid (h4.out.next t1 c1)
  clear h4 t1 c1
  go_wp2_with fail
  with_reducible refine (op_c h5.out (by first | omega | (simp only [List.length_append,List.length_cons,List.length_nil];omega)) _ _).mono ?_
  rintro e w6 ⟨v6,rfl,h6⟩
  replace h6:=Lib.hid h6
  clear h5
  go_wp2_with fail
  with_reducible refine (op_c h6.out (by first | omega | (simp only [List.length_append,List.length_cons,List.length_nil];omega)) _ _).mono ?_
  rintro e w7 ⟨v7,rfl,h7⟩
  replace h7:=Lib.hid h7
  clear h6
  have hfin:C++flat [(wr8 20,wr8 (10+x3)),(wr8 10,wr8 x5),(wr8 8,wr8 0)]=C++[wr8 20,wr8 (10+x3)]++[wr8 10,wr8 x5]++[wr8 8,wr8 0]:=by simp [flat]
  go_wp2
  go_ret
  exact⟨_,[(wr8 20,wr8 (10+x3)),(wr8 10,wr8 x5),(wr8 8,wr8 0)],rfl,pk_E ⟨x3,x5,⟨by omega,by omega⟩,⟨by omega,by omega⟩,rfl⟩,by rw [hfin];exact h7.out⟩
 ·as_aux_lemma =>
  go_wp2_with fail
  with_reducible refine (op_c h2.out (by first | omega | (simp only [List.length_append,List.length_cons,List.length_nil];omega)) _ _).mono ?_
  rintro e w3 ⟨v3,rfl,h3⟩
  replace h3:=Lib.hid h3
  clear h2
  go_wp2_with fail
  with_reducible refine (op_c h3.out (by first | omega | (simp only [List.length_append,List.length_cons,List.length_nil];omega)) _ _).mono ?_
  rintro e w4 ⟨v4,rfl,h4⟩
  replace h4:=Lib.hid h4
  clear h3
  go_wp2_with fail
  refine (next_c 2 (by omega) (by omega) h4.out.ks.tp).mono ?_
  rintro e w5 ⟨x5,rfl,⟨x50,x51⟩,t1,c1⟩
  have h5:=Lib.hid (h4.out.next t1 c1)
  clear h4 t1 c1
  go_wp2_with fail
  with_reducible refine (op_c h5.out (by first | omega | (simp only [List.length_append,List.length_cons,List.length_nil];omega)) _ _).mono ?_
  rintro e w6 ⟨v6,rfl,h6⟩
  replace h6:=Lib.hid h6
  clear h5
  go_wp2_with fail
  with_reducible refine (op_c h6.out (by first | omega | (simp only [List.length_append,List.length_cons,List.length_nil];omega)) _ _).mono ?_
  rintro e w7 ⟨v7,rfl,h7⟩
  replace h7:=Lib.hid h7
  clear h6
  have hfin:C++flat [(wr8 7,wr8 a),(wr8 21,wr8 18),(wr8 10,wr8 x5),(wr8 8,wr8 0)]=C++[wr8 7,wr8 a]++[wr8 21,wr8 18]++[wr8 10,wr8 x5]++[wr8 8,wr8 0]:=by simp [flat]
  go_wp2
  go_ret
  exact⟨_,[(wr8 7,wr8 a),(wr8 21,wr8 18),(wr8 10,wr8 x5),(wr8 8,wr8 0)],rfl,pk_F ⟨a,x5,⟨by omega,by omega⟩,⟨by omega,by omega⟩,rfl⟩,by rw [hfin];exact h7.out⟩
 ·as_aux_lemma =>
  go_wp2_with fail
  with_reducible refine (op_c h2.out (by first | omega | (simp only [List.length_append,List.length_cons,List.length_nil];omega)) _ _).mono ?_
  rintro e w3 ⟨v3,rfl,h3⟩
  replace h3:=Lib.hid h3
  clear h2
  go_wp2_with fail
  with_reducible refine (op_c h3.out (by first | omega | (simp only [List.length_append,List.length_cons,List.length_nil];omega)) _ _).mono ?_
  rintro e w4 ⟨v4,rfl,h4⟩
  replace h4:=Lib.hid h4
  clear h3
  go_wp2_with fail
  refine (next_c 2 (by omega) (by omega) h4.out.ks.tp).mono ?_
  rintro e w5 ⟨x5,rfl,⟨x50,x51⟩,t1,c1⟩
  have h5:=Lib.hid (h4.out.next t1 c1)
  clear h4 t1 c1
  go_wp2_with fail
  with_reducible refine (op_c h5.out (by first | omega | (simp only [List.length_append,List.length_cons,List.length_nil];omega)) _ _).mono ?_
  rintro e w6 ⟨v6,rfl,h6⟩
  replace h6:=Lib.hid h6
  clear h5
  go_wp2_with fail
  with_reducible refine (op_c h6.out (by first | omega | (simp only [List.length_append,List.length_cons,List.length_nil];omega)) _ _).mono ?_
  rintro e w7 ⟨v7,rfl,h7⟩
  replace h7:=Lib.hid h7
  clear h6
  have hfin:C++flat [(wr8 7,wr8 a),(wr8 21,wr8 18),(wr8 10,wr8 x5),(wr8 8,wr8 0)]=C++[wr8 7,wr8 a]++[wr8 21,wr8 18]++[wr8 10,wr8 x5]++[wr8 8,wr8 0]:=by simp [flat]
  go_wp2
  go_ret
  exact⟨_,[(wr8 7,wr8 a),(wr8 21,wr8 18),(wr8 10,wr8 x5),(wr8 8,wr8 0)],rfl,pk_F ⟨a,x5,⟨by omega,by omega⟩,⟨by omega,by omega⟩,rfl⟩,by rw [hfin];exact h7.out⟩
 ·as_aux_lemma =>
  have n0:decide (q=0)=false:=by simp;omega
  have n1:decide (q=1)=false:=by simp;omega
  have n2:decide (q=2)=false:=by simp;omega
  have n3:decide (q=3)=false:=by simp;omega
  have n4:decide (q=4)=false:=by simp;omega
  have n5:decide (q=5)=false:=by simp;omega
  have n6:decide (q=6)=false:=by simp;omega
  have n7:decide (q=7)=false:=by simp;omega
  have n8:decide (q=8)=false:=by simp;omega
  go_upto_if 78 with fail
  go_cut [78] (fun b wx=>b=.bool true∧wx=w2)
  case first =>
   rcases hq with rfl | rfl
   ·go_wp2_with fail
    go_meet
    exact⟨rfl,rfl⟩
   ·go_wp2_with fail
    go_meet
    exact⟨rfl,rfl⟩
  case rest =>
   obtain⟨rfl,rfl⟩:=hcut
   have hS:=h2
   clear h2
   clear n0 n1 n2 n3 n4 n5 n6 n7 n8
   go_wp2_with fail
   go_region_with (first | (go_at_call 30;first | ((with_reducible refine (nx_d 5 hS (Below.refl _ _) (by omega) (by omega)).mono ?_);rintro e y ⟨k,rfl,hk,hT⟩;clear hS;have hS:=hT;clear hT) | ((with_reducible refine (nx_d 5 hS (Below.refl _ _).drew (by omega) (by omega)).mono ?_);rintro e y ⟨k,rfl,hk,hT⟩;clear hS;have hS:=hT;clear hT) | ((with_reducible refine (nx_b 5 hS (Or.inl rfl) (by omega) (by omega)).mono ?_);rintro e y ⟨k,rfl,hk,hT⟩;clear hS;have hS:=hT;clear hT) | ((with_reducible refine (nx_b 5 hS (Or.inr rfl) (by omega) (by omega)).mono ?_);rintro e y ⟨k,rfl,hk,hT⟩;clear hS;have hS:=hT;clear hT) | ((with_reducible refine (nx_a 5 hS (Below.refl _ _) (by omega) (by omega)).mono ?_);rintro e y ⟨k,rfl,hk,hT⟩;clear hS;have hS:=hT;clear hT) | ((with_reducible refine (nx_a 5 hS (Below.refl _ _).drew (by omega) (by omega)).mono ?_);rintro e y ⟨k,rfl,hk,hT⟩;clear hS;have hS:=hT;clear hT) | (have hm:=mk;(with_reducible refine (nx_d 2 hS (Below.refl _ _) (by omega) (by omega)).mono ?_);rintro e y ⟨z,rfl,hz,hT⟩;have hq:=hT.out.sel hm;clear hS;have hS:=hT;clear hT) | (have hm:=mk;(with_reducible refine (nx_d 2 hS (Below.refl _ _).drew (by omega) (by omega)).mono ?_);rintro e y ⟨z,rfl,hz,hT⟩;have hq:=hT.out.sel hm;clear hS;have hS:=hT;clear hT) | (have hm:=mk;(with_reducible refine (nx_b 2 hS (Or.inl rfl) (by omega) (by omega)).mono ?_);rintro e y ⟨z,rfl,hz,hT⟩;have hq:=hT.out.sel hm;clear hS;have hS:=hT;clear hT) | (have hm:=mk;(with_reducible refine (nx_b 2 hS (Or.inr rfl) (by omega) (by omega)).mono ?_);rintro e y ⟨z,rfl,hz,hT⟩;have hq:=hT.out.sel hm;clear hS;have hS:=hT;clear hT) | (have hm:=mk;(with_reducible refine (nx_a 2 hS (Below.refl _ _) (by omega) (by omega)).mono ?_);rintro e y ⟨z,rfl,hz,hT⟩;have hq:=born_sel y hm;clear hS;have hS:=hT;clear hT) | (have hm:=mk;(with_reducible refine (nx_a 2 hS (Below.refl _ _).drew (by omega) (by omega)).mono ?_);rintro e y ⟨z,rfl,hz,hT⟩;have hq:=born_sel y hm;clear hS;have hS:=hT;clear hT) | (have hm:=hk;(with_reducible refine (nx3_d hS (Below.refl _ _)).mono ?_);rintro e y ⟨j,rfl,hj,hT,hq⟩;have mk:Mark j:=hj;have har:=arr_sel hj;have hal:=lst_sel hj;have hj2:(j:Int) < 2:=(by omega);clear hS;have hS:=hT;clear hT) | (have hm:=hk;(with_reducible refine (nx3_d hS (Below.refl _ _).drew).mono ?_);rintro e y ⟨j,rfl,hj,hT,hq⟩;have mk:Mark j:=hj;have har:=arr_sel hj;have hal:=lst_sel hj;have hj2:(j:Int) < 2:=(by omega);clear hS;have hS:=hT;clear hT) | (have hm:=hk;(with_reducible refine (nx3_b hS (Or.inl rfl)).mono ?_);rintro e y ⟨j,rfl,hj,hT,hq⟩;have mk:Mark j:=hj;have har:=arr_sel hj;have hal:=lst_sel hj;have hj2:(j:Int) < 2:=(by omega);clear hS;have hS:=hT;clear hT) | (have hm:=hk;(with_reducible refine (nx3_b hS (Or.inr rfl)).mono ?_);rintro e y ⟨j,rfl,hj,hT,hq⟩;have mk:Mark j:=hj;have har:=arr_sel hj;have hal:=lst_sel hj;have hj2:(j:Int) < 2:=(by omega);clear hS;have hS:=hT;clear hT) | (have hm:=hk;(with_reducible refine (nx3_a hS (Below.refl _ _)).mono ?_);rintro e y ⟨j,rfl,hj,hT,hq⟩;have mk:Mark j:=hj;have har:=arr_sel hj;have hal:=lst_sel hj;have hj2:(j:Int) < 2:=(by omega);clear hS;have hS:=hT;clear hT) | (have hm:=hk;(with_reducible refine (nx3_a hS (Below.refl _ _).drew).mono ?_);rintro e y ⟨j,rfl,hj,hT,hq⟩;have mk:Mark j:=hj;have har:=arr_sel hj;have hal:=lst_sel hj;have hj2:(j:Int) < 2:=(by omega);clear hS;have hS:=hT;clear hT) | ((with_reducible refine (nx_d 2 hS (Below.refl _ _) (by omega) (by omega)).mono ?_);rintro e y ⟨x,rfl,hx,hT⟩;clear hS;have hS:=hT;clear hT) | ((with_reducible refine (nx_d 2 hS (Below.refl _ _).drew (by omega) (by omega)).mono ?_);rintro e y ⟨x,rfl,hx,hT⟩;clear hS;have hS:=hT;clear hT) | ((with_reducible refine (nx_b 2 hS (Or.inl rfl) (by omega) (by omega)).mono ?_);rintro e y ⟨x,rfl,hx,hT⟩;clear hS;have hS:=hT;clear hT) | ((with_reducible refine (nx_b 2 hS (Or.inr rfl) (by omega) (by omega)).mono ?_);rintro e y ⟨x,rfl,hx,hT⟩;clear hS;have hS:=hT;clear hT) | ((with_reducible refine (nx_a 2 hS (Below.refl _ _) (by omega) (by omega)).mono ?_);rintro e y ⟨x,rfl,hx,hT⟩;clear hS;have hS:=hT;clear hT) | ((with_reducible refine (nx_a 2 hS (Below.refl _ _).drew (by omega) (by omega)).mono ?_);rintro e y ⟨x,rfl,hx,hT⟩;clear hS;have hS:=hT;clear hT)) | (go_at_call 60;first | ((with_reducible refine (opx_d hS (Below.refl _ _) (by first | omega | (simp only [List.length_append,List.length_cons,List.length_nil];omega)) _ _).mono ?_);rintro e y ⟨vv,rfl,hT⟩;clear hS;have hS:=hT;clear hT) | ((with_reducible refine (opx_d hS (Below.refl _ _).drew (by first | omega | (simp only [List.length_append,List.length_cons,List.length_nil];omega)) _ _).mono ?_);rintro e y ⟨vv,rfl,hT⟩;clear hS;have hS:=hT;clear hT) | ((with_reducible refine (opx_b hS (Or.inl rfl) (by first | omega | (simp only [List.length_append,List.length_cons,List.length_nil];omega)) _ _).mono ?_);rintro e y ⟨vv,rfl,hT⟩;clear hS;have hS:=hT;clear hT) | ((with_reducible refine (opx_b hS (Or.inr rfl) (by first | omega | (simp only [List.length_append,List.length_cons,List.length_nil];omega)) _ _).mono ?_);rintro e y ⟨vv,rfl,hT⟩;clear hS;have hS:=hT;clear hT) | ((with_reducible refine (opx_a hS (Below.refl _ _) (by first | omega | (simp only [List.length_append,List.length_cons,List.length_nil];omega)) _ _).mono ?_);rintro e y ⟨vv,rfl,hT⟩;clear hS;have hS:=hT;clear hT) | ((with_reducible refine (opx_a hS (Below.refl _ _).drew (by first | omega | (simp only [List.length_append,List.length_cons,List.length_nil];omega)) _ _).mono ?_);rintro e y ⟨vv,rfl,hT⟩;clear hS;have hS:=hT;clear hT)))
   all_goals (go_wp2;go_ret;exact⟨vv,[(wr8 0,wr8 x),(wr8 7,wr8 k),(wr8 (sel70 j),wr8 z),(wr8 21,wr8 9),(wr8 8,wr8 0)],rfl,pk_G ⟨x,k,sel70 j,z,hx,hk,sel70_or j,hz,rfl⟩,by simpa [flat] using fin_G hS⟩)
 ·as_aux_lemma =>
  go_wp2_with fail
  refine (next_c 2 (by omega) (by omega) h2.out.ks.tp).mono ?_
  rintro e w3 ⟨x3,rfl,⟨x30,x31⟩,t1,c1⟩
  have h3:=Lib.hid (h2.out.next t1 c1)
  clear h2 t1 c1
  go_wp2_with fail
  with_reducible refine (op_c h3.out (by first | omega | (simp only [List.length_append,List.length_cons,List.length_nil];omega)) _ _).mono ?_
  rintro e w4 ⟨v4,rfl,h4⟩
  replace h4:=Lib.hid h4
  clear h3
  go_wp2_with fail
  refine (next_c 4 (by omega) (by omega) h4.out.ks.tp).mono ?_
  rintro e w5 ⟨x5,rfl,⟨x50,x51⟩,t1,c1⟩
  have h5:=Lib.hid (h4.out.next t1 c1)
  clear h4 t1 c1
  go_wp2_with fail
  with_reducible refine (op_c h5.out (by first | omega | (simp only [List.length_append,List.length_cons,List.length_nil];omega)) _ _).mono ?_
  rintro e w6 ⟨v6,rfl,h6⟩
  replace h6:=Lib.hid h6
  clear h5
  go_wp2_with fail
  with_reducible refine (op_c h6.out (by first | omega | (simp only [List.length_append,List.length_cons,List.length_nil];omega)) _ _).mono ?_
  rintro e w7 ⟨v7,rfl,h7⟩
  replace h7:=Lib.hid h7
  clear h6
  go_wp2_with fail
  with_reducible refine (op_c h7.out (by first | omega | (simp only [List.length_append,List.length_cons,List.length_nil];omega)) _ _).mono ?_
  rintro e w8 ⟨v8,rfl,h8⟩
  replace h8:=Lib.hid h8
  clear h7
  have hfin:C++flat [(wr8 0,wr8 x3),(wr8 7,wr8 x5),(wr8 21,wr8 8),(wr8 21,wr8 10)]=C++[wr8 0,wr8 x3]++[wr8 7,wr8 x5]++[wr8 21,wr8 8]++[wr8 21,wr8 10]:=by simp [flat]
  go_wp2
  go_ret
  exact⟨_,[(wr8 0,wr8 x3),(wr8 7,wr8 x5),(wr8 21,wr8 8),(wr8 21,wr8 10)],rfl,pk_H ⟨x3,x5,⟨by omega,by omega⟩,⟨by omega,by omega⟩,rfl⟩,by rw [hfin];exact h8.out⟩
 ·as_aux_lemma =>
  go_wp2_with fail
  with_reducible refine (op_c h2.out (by first | omega | (simp only [List.length_append,List.length_cons,List.length_nil];omega)) _ _).mono ?_
  rintro e w3 ⟨v3,rfl,h3⟩
  replace h3:=Lib.hid h3
  clear h2
  go_wp2_with fail
  with_reducible refine (op_c h3.out (by first | omega | (simp only [List.length_append,List.length_cons,List.length_nil];omega)) _ _).mono ?_
  rintro e w4 ⟨v4,rfl,h4⟩
  replace h4:=Lib.hid h4
  clear h3
  go_wp2_with fail
  with_reducible refine (op_c h4.out (by first | omega | (simp only [List.length_append,List.length_cons,List.length_nil];omega)) _ _).mono ?_
  rintro e w5 ⟨v5,rfl,h5⟩
  replace h5:=Lib.hid h5
  clear h4
  have hfin:C++flat [(wr8 18,wr8 12),(wr8 21,wr8 11),(wr8 8,wr8 0)]=C++[wr8 18,wr8 12]++[wr8 21,wr8 11]++[wr8 8,wr8 0]:=by simp [flat]
  go_wp2
  go_ret
  exact⟨_,[(wr8 18,wr8 12),(wr8 21,wr8 11),(wr8 8,wr8 0)],rfl,pk_I rfl,by rw [hfin];exact h5.out⟩
 ·as_aux_lemma =>
  go_wp2_with fail
  with_reducible refine (op_c h2.out (by first | omega | (simp only [List.length_append,List.length_cons,List.length_nil];omega)) _ _).mono ?_
  rintro e w3 ⟨v3,rfl,h3⟩
  replace h3:=Lib.hid h3
  clear h2
  go_wp2_with fail
  with_reducible refine (op_c h3.out (by first | omega | (simp only [List.length_append,List.length_cons,List.length_nil];omega)) _ _).mono ?_
  rintro e w4 ⟨v4,rfl,h4⟩
  replace h4:=Lib.hid h4
  clear h3
  go_wp2_with fail
  with_reducible refine (op_c h4.out (by first | omega | (simp only [List.length_append,List.length_cons,List.length_nil];omega)) _ _).mono ?_
  rintro e w5 ⟨v5,rfl,h5⟩
  replace h5:=Lib.hid h5
  clear h4
  go_wp2_with fail
  with_reducible refine (op_c h5.out (by first | omega | (simp only [List.length_append,List.length_cons,List.length_nil];omega)) _ _).mono ?_
  rintro e w6 ⟨v6,rfl,h6⟩
  replace h6:=Lib.hid h6
  clear h5
  have hfin:C++flat [(wr8 18,wr8 13),(wr8 7,wr8 a),(wr8 21,wr8 12),(wr8 8,wr8 0)]=C++[wr8 18,wr8 13]++[wr8 7,wr8 a]++[wr8 21,wr8 12]++[wr8 8,wr8 0]:=by simp [flat]
  go_wp2
  go_ret
  exact⟨_,[(wr8 18,wr8 13),(wr8 7,wr8 a),(wr8 21,wr8 12),(wr8 8,wr8 0)],rfl,pk_J ⟨a,⟨by omega,by omega⟩,rfl⟩,by rw [hfin];exact h6.out⟩
 ·as_aux_lemma =>
  go_wp2_with fail
  with_reducible refine (op_c h2.out (by first | omega | (simp only [List.length_append,List.length_cons,List.length_nil];omega)) _ _).mono ?_
  rintro e w3 ⟨v3,rfl,h3⟩
  replace h3:=Lib.hid h3
  clear h2
  go_wp2_with fail
  refine (next_c 4 (by omega) (by omega) h3.out.ks.tp).mono ?_
  rintro e w4 ⟨x4,rfl,⟨x40,x41⟩,t1,c1⟩
  have h4:=Lib.hid (h3.out.next t1 c1)
  clear h3 t1 c1
  go_wp2_with fail
  with_reducible refine (op_c h4.out (by first | omega | (simp only [List.length_append,List.length_cons,List.length_nil];omega)) _ _).mono ?_
  rintro e w5 ⟨v5,rfl,h5⟩
  replace h5:=Lib.hid h5
  clear h4
  go_wp2_with fail
  with_reducible refine (op_c h5.out (by first | omega | (simp only [List.length_append,List.length_cons,List.length_nil];omega)) _ _).mono ?_
  rintro e w6 ⟨v6,rfl,h6⟩
  replace h6:=Lib.hid h6
  clear h5
  go_wp2_with fail
  with_reducible refine (op_c h6.out (by first | omega | (simp only [List.length_append,List.length_cons,List.length_nil];omega)) _ _).mono ?_
  rintro e w7 ⟨v7,rfl,h7⟩
  replace h7:=Lib.hid h7
  clear h6
  have hfin:C++flat [(wr8 18,wr8 12),(wr8 7,wr8 x4),(wr8 21,wr8 13),(wr8 8,wr8 0)]=C++[wr8 18,wr8 12]++[wr8 7,wr8 x4]++[wr8 21,wr8 13]++[wr8 8,wr8 0]:=by simp [flat]
  go_wp2
  go_ret
  exact⟨_,[(wr8 18,wr8 12),(wr8 7,wr8 x4),(wr8 21,wr8 13),(wr8 8,wr8 0)],rfl,pk_K ⟨x4,⟨by omega,by omega⟩,rfl⟩,by rw [hfin];exact h7.out⟩
 ·as_aux_lemma =>
  go_wp2_with fail
  refine (next_c 4 (by omega) (by omega) h2.out.ks.tp).mono ?_
  rintro e w3 ⟨x3,rfl,⟨x30,x31⟩,t1,c1⟩
  have h3:=Lib.hid (h2.out.next t1 c1)
  clear h2 t1 c1
  go_wp2_with fail
  with_reducible refine (op_c h3.out (by first | omega | (simp only [List.length_append,List.length_cons,List.length_nil];omega)) _ _).mono ?_
  rintro e w4 ⟨v4,rfl,h4⟩
  replace h4:=Lib.hid h4
  clear h3
  go_wp2_with fail
  refine (next_c 2 (by omega) (by omega) h4.out.ks.tp).mono ?_
  rintro e w5 ⟨x5,rfl,⟨x50,x51⟩,t1,c1⟩
  have h5:=Lib.hid (h4.out.next t1 c1)
  clear h4 t1 c1
  go_wp2_with fail
  with_reducible refine (op_c h5.out (by first | omega | (simp only [List.length_append,List.length_cons,List.length_nil];omega)) _ _).mono ?_
  rintro e w6 ⟨v6,rfl,h6⟩
  replace h6:=Lib.hid h6
  clear h5
  go_wp2_with fail
  with_reducible refine (op_c h6.out (by first | omega | (simp only [List.length_append,List.length_cons,List.length_nil];omega)) _ _).mono ?_
  rintro e w7 ⟨v7,rfl,h7⟩
  replace h7:=Lib.hid h7
  clear h6
  have hfin:C++flat [(wr8 7,wr8 x3),(wr8 21,wr8 (15+x5)),(wr8 8,wr8 0)]=C++[wr8 7,wr8 x3]++[wr8 21,wr8 (15+x5)]++[wr8 8,wr8 0]:=by simp [flat]
  go_wp2
  go_ret
  exact⟨_,[(wr8 7,wr8 x3),(wr8 21,wr8 (15+x5)),(wr8 8,wr8 0)],rfl,pk_L ⟨x3,x5,⟨by omega,by omega⟩,⟨by omega,by omega⟩,rfl⟩,by rw [hfin];exact h7.out⟩
 ·as_aux_lemma =>
  have hsl:=h2.out.ks.cg.size
  have hk3:=Lib.hid (h2.out.keep ((Below.refl _ _).alloc (Nat.le_refl _) (.cells #[.int .i64 14,.int .i64 21,.int .i64 23] 3)))
  have hlt3:=hk3.out.ks.p0
  skip
  go_wp2_with fail
  refine (next_c 3 (by omega) (by omega) hk3.out.ks.tp).mono ?_
  rintro e w3 ⟨x3,rfl,⟨x30,x31⟩,t1,c1⟩
  have h3:=Lib.hid (hk3.out.next t1 c1)
  have hne3:w2.heap.size≠p:=by have:=h3.out.ks.p0;have:=hsl;omega
  have q3_0:w3.cell? ⟨w2.heap.size,0,none⟩=some (.int .i64 14):=(World.cell?_of_block (a:=⟨w2.heap.size,0,none⟩) (c1.block w2.heap.size (by simp) hne3)).trans (by simp)
  have q3_1:w3.cell? ⟨w2.heap.size,1,none⟩=some (.int .i64 21):=(World.cell?_of_block (a:=⟨w2.heap.size,1,none⟩) (c1.block w2.heap.size (by simp) hne3)).trans (by simp)
  have q3_2:w3.cell? ⟨w2.heap.size,2,none⟩=some (.int .i64 23):=(World.cell?_of_block (a:=⟨w2.heap.size,2,none⟩) (c1.block w2.heap.size (by simp) hne3)).trans (by simp)
  clear hk3 t1 c1
  obtain⟨s,hs,hrow⟩:∃ s:Int,(s=14∨s=21∨s=23)∧∃ j:Nat,x3=j∧j < 3∧w3.cell? ⟨w2.heap.size,0+j,none⟩=some (.int .i64 s):=by
   rcases (show x3=0∨x3=1∨x3=2 by omega) with rfl | rfl | rfl
   ·exact⟨14,by omega,0,rfl,by omega,q3_0⟩
   ·exact⟨21,by omega,1,rfl,by omega,q3_1⟩
   ·exact⟨23,by omega,2,rfl,by omega,q3_2⟩
  obtain⟨j,hj,hjn,hc⟩:=hrow
  have hj1:(j:Int) < 3:=by omega
  rw [Nat.zero_add] at hc
  subst hj
  go_wp2_with fail
  with_reducible refine (op_c h3.out (by first | omega | (simp only [List.length_append,List.length_cons,List.length_nil];omega)) _ _).mono ?_
  rintro e w4 ⟨v4,rfl,h4⟩
  replace h4:=Lib.hid h4
  clear h3
  go_wp2_with fail
  with_reducible refine (op_c h4.out (by first | omega | (simp only [List.length_append,List.length_cons,List.length_nil];omega)) _ _).mono ?_
  rintro e w5 ⟨v5,rfl,h5⟩
  replace h5:=Lib.hid h5
  clear h4
  have hfin:C++flat [(wr8 21,wr8 s),(wr8 8,wr8 0)]=C++[wr8 21,wr8 s]++[wr8 8,wr8 0]:=by simp [flat]
  go_wp2
  go_ret
  exact⟨_,[(wr8 21,wr8 s),(wr8 8,wr8 0)],rfl,pk_M ⟨s,hs,rfl⟩,by rw [hfin];exact h5.out⟩
 ·as_aux_lemma =>
  go_wp2_with fail
  refine (next_c 2 (by omega) (by omega) h2.out.ks.tp).mono ?_
  rintro e w3 ⟨x3,rfl,⟨x30,x31⟩,t1,c1⟩
  have h3:=Lib.hid (h2.out.next t1 c1)
  clear h2 t1 c1
  go_wp2_with fail
  with_reducible refine (op_c h3.out (by first | omega | (simp only [List.length_append,List.length_cons,List.length_nil];omega)) _ _).mono ?_
  rintro e w4 ⟨v4,rfl,h4⟩
  replace h4:=Lib.hid h4
  clear h3
  go_wp2_with fail
  with_reducible refine (op_c h4.out (by first | omega | (simp only [List.length_append,List.length_cons,List.length_nil];omega)) _ _).mono ?_
  rintro e w5 ⟨v5,rfl,h5⟩
  replace h5:=Lib.hid h5
  clear h4
  go_wp2_with fail
  with_reducible refine (op_c h5.out (by first | omega | (simp only [List.length_append,List.length_cons,List.length_nil];omega)) _ _).mono ?_
  rintro e w6 ⟨v6,rfl,h6⟩
  replace h6:=Lib.hid h6
  clear h5
  go_wp2_with fail
  with_reducible refine (op_c h6.out (by first | omega | (simp only [List.length_append,List.length_cons,List.length_nil];omega)) _ _).mono ?_
  rintro e w7 ⟨v7,rfl,h7⟩
  replace h7:=Lib.hid h7
  clear h6
  have hfin:C++flat [(wr8 (5+x3),wr8 0),(wr8 17,wr8 1),(wr8 7,wr8 a),(wr8 8,wr8 0)]=C++[wr8 (5+x3),wr8 0]++[wr8 17,wr8 1]++[wr8 7,wr8 a]++[wr8 8,wr8 0]:=by simp [flat]
  go_wp2
  go_ret
  exact⟨_,[(wr8 (5+x3),wr8 0),(wr8 17,wr8 1),(wr8 7,wr8 a),(wr8 8,wr8 0)],rfl,pk_N ⟨x3,a,⟨by omega,by omega⟩,⟨by omega,by omega⟩,rfl⟩,by rw [hfin];exact h7.out⟩
 ·as_aux_lemma =>
  go_wp2_with fail
  with_reducible refine (op_c h2.out (by first | omega | (simp only [List.length_append,List.length_cons,List.length_nil];omega)) _ _).mono ?_
  rintro e w3 ⟨v3,rfl,h3⟩
  replace h3:=Lib.hid h3
  clear h2
  go_wp2_with fail
  with_reducible refine (op_c h3.out (by first | omega | (simp only [List.length_append,List.length_cons,List.length_nil];omega)) _ _).mono ?_
  rintro e w4 ⟨v4,rfl,h4⟩
  replace h4:=Lib.hid h4
  clear h3
  go_wp2_with fail
  refine (next_c 9 (by omega) (by omega) h4.out.ks.tp).mono ?_
  rintro e w5 ⟨x5,rfl,⟨x50,x51⟩,t1,c1⟩
  have h5:=Lib.hid (h4.out.next t1 c1)
  clear h4 t1 c1
  go_wp2_with fail
  with_reducible refine (op_c h5.out (by first | omega | (simp only [List.length_append,List.length_cons,List.length_nil];omega)) _ _).mono ?_
  rintro e w6 ⟨v6,rfl,h6⟩
  replace h6:=Lib.hid h6
  clear h5
  go_wp2_with fail
  with_reducible refine (op_c h6.out (by first | omega | (simp only [List.length_append,List.length_cons,List.length_nil];omega)) _ _).mono ?_
  rintro e w7 ⟨v7,rfl,h7⟩
  replace h7:=Lib.hid h7
  clear h6
  go_wp2_with fail
  with_reducible refine (op_c h7.out (by first | omega | (simp only [List.length_append,List.length_cons,List.length_nil];omega)) _ _).mono ?_
  rintro e w8 ⟨v8,rfl,h8⟩
  replace h8:=Lib.hid h8
  clear h7
  have hfin:C++flat [(wr8 0,wr8 0),(wr8 0,wr8 1),(wr8 7,wr8 x5),(wr8 21,wr8 19),(wr8 8,wr8 0)]=C++[wr8 0,wr8 0]++[wr8 0,wr8 1]++[wr8 7,wr8 x5]++[wr8 21,wr8 19]++[wr8 8,wr8 0]:=by simp [flat]
  go_wp2
  go_ret
  exact⟨_,[(wr8 0,wr8 0),(wr8 0,wr8 1),(wr8 7,wr8 x5),(wr8 21,wr8 19),(wr8 8,wr8 0)],rfl,pk_O ⟨x5,⟨by omega,by omega⟩,rfl⟩,by rw [hfin];exact h8.out⟩
 ·as_aux_lemma =>
  go_wp2_with fail
  with_reducible refine (op_c h2.out (by first | omega | (simp only [List.length_append,List.length_cons,List.length_nil];omega)) _ _).mono ?_
  rintro e w3 ⟨v3,rfl,h3⟩
  replace h3:=Lib.hid h3
  clear h2
  go_wp2_with fail
  with_reducible refine (op_c h3.out (by first | omega | (simp only [List.length_append,List.length_cons,List.length_nil];omega)) _ _).mono ?_
  rintro e w4 ⟨v4,rfl,h4⟩
  replace h4:=Lib.hid h4
  clear h3
  have hsl:=h4.out.ks.cg.size
  have hk5:=Lib.hid (h4.out.keep ((Below.refl _ _).alloc (Nat.le_refl _) (.cells #[.int .i64 20,.int .i64 5] 3)))
  have hlt5:=hk5.out.ks.p0
  skip
  go_wp2_with fail
  refine (next_c 2 (by omega) (by omega) hk5.out.ks.tp).mono ?_
  rintro e w5 ⟨x5,rfl,⟨x50,x51⟩,t1,c1⟩
  have h5:=Lib.hid (hk5.out.next t1 c1)
  have hne5:w4.heap.size≠p:=by have:=h5.out.ks.p0;have:=hsl;omega
  have q5_0:w5.cell? ⟨w4.heap.size,0,none⟩=some (.int .i64 20):=(World.cell?_of_block (a:=⟨w4.heap.size,0,none⟩) (c1.block w4.heap.size (by simp) hne5)).trans (by simp)
  have q5_1:w5.cell? ⟨w4.heap.size,1,none⟩=some (.int .i64 5):=(World.cell?_of_block (a:=⟨w4.heap.size,1,none⟩) (c1.block w4.heap.size (by simp) hne5)).trans (by simp)
  clear hk5 t1 c1
  obtain⟨s,hs,hrow⟩:∃ s:Int,(s=20∨s=5)∧∃ j:Nat,x5=j∧j < 2∧w5.cell? ⟨w4.heap.size,0+j,none⟩=some (.int .i64 s):=by
   rcases (show x5=0∨x5=1 by omega) with rfl | rfl
   ·exact⟨20,by omega,0,rfl,by omega,q5_0⟩
   ·exact⟨5,by omega,1,rfl,by omega,q5_1⟩
  obtain⟨j,hj,hjn,hc⟩:=hrow
  have hj1:(j:Int) < 2:=by omega
  rw [Nat.zero_add] at hc
  subst hj
  go_wp2_with fail
  with_reducible refine (op_c h5.out (by first | omega | (simp only [List.length_append,List.length_cons,List.length_nil];omega)) _ _).mono ?_
  rintro e w6 ⟨v6,rfl,h6⟩
  replace h6:=Lib.hid h6
  clear h5
  go_wp2_with fail
  with_reducible refine (op_c h6.out (by first | omega | (simp only [List.length_append,List.length_cons,List.length_nil];omega)) _ _).mono ?_
  rintro e w7 ⟨v7,rfl,h7⟩
  replace h7:=Lib.hid h7
  clear h6
  have hfin:C++flat [(wr8 0,wr8 0),(wr8 0,wr8 1),(wr8 21,wr8 s),(wr8 8,wr8 0)]=C++[wr8 0,wr8 0]++[wr8 0,wr8 1]++[wr8 21,wr8 s]++[wr8 8,wr8 0]:=by simp [flat]
  go_wp2
  go_ret
  exact⟨_,[(wr8 0,wr8 0),(wr8 0,wr8 1),(wr8 21,wr8 s),(wr8 8,wr8 0)],rfl,pk_P ⟨s,hs,rfl⟩,by rw [hfin];exact h7.out⟩
 ·as_aux_lemma =>
  go_wp2_with fail
  refine (next_c 3 (by omega) (by omega) h2.out.ks.tp).mono ?_
  rintro e w3 ⟨x3,rfl,⟨x30,x31⟩,t1,c1⟩
  have h3:=Lib.hid (h2.out.next t1 c1)
  clear h2 t1 c1
  go_wp2_with fail
  with_reducible refine (op_c h3.out (by first | omega | (simp only [List.length_append,List.length_cons,List.length_nil];omega)) _ _).mono ?_
  rintro e w4 ⟨v4,rfl,h4⟩
  replace h4:=Lib.hid h4
  clear h3
  go_wp2_with fail
  refine (next_c 3 (by omega) (by omega) h4.out.ks.tp).mono ?_
  rintro e w5 ⟨x5,rfl,⟨x50,x51⟩,t1,c1⟩
  have h5:=Lib.hid (h4.out.next t1 c1)
  clear h4 t1 c1
  go_wp2_with fail
  with_reducible refine (op_c h5.out (by first | omega | (simp only [List.length_append,List.length_cons,List.length_nil];omega)) _ _).mono ?_
  rintro e w6 ⟨v6,rfl,h6⟩
  replace h6:=Lib.hid h6
  clear h5
  go_wp2_with fail
  with_reducible refine (op_c h6.out (by first | omega | (simp only [List.length_append,List.length_cons,List.length_nil];omega)) _ _).mono ?_
  rintro e w7 ⟨v7,rfl,h7⟩
  replace h7:=Lib.hid h7
  clear h6
  have hfin:C++flat [(wr8 1,wr8 x3),(wr8 11,wr8 x5),(wr8 8,wr8 0)]=C++[wr8 1,wr8 x3]++[wr8 11,wr8 x5]++[wr8 8,wr8 0]:=by simp [flat]
  go_wp2
  go_ret
  exact⟨_,[(wr8 1,wr8 x3),(wr8 11,wr8 x5),(wr8 8,wr8 0)],rfl,pk_Q ⟨x3,x5,⟨by omega,by omega⟩,⟨by omega,by omega⟩,rfl⟩,by rw [hfin];exact h7.out⟩
 ·as_aux_lemma =>
  go_wp2_with fail
  refine (next_c 2 (by omega) (by omega) h2.out.ks.tp).mono ?_
  rintro e w3 ⟨x3,rfl,⟨x30,x31⟩,t1,c1⟩
  have h3:=Lib.hid (h2.out.next t1 c1)
  clear h2 t1 c1
  go_wp2_with fail
  with_reducible refine (op_c h3.out (by first | omega | (simp only [List.length_append,List.length_cons,List.length_nil];omega)) _ _).mono ?_
  rintro e w4 ⟨v4,rfl,h4⟩
  replace h4:=Lib.hid h4
  clear h3
  go_wp2_with fail
  refine (next_c 4 (by omega) (by omega) h4.out.ks.tp).mono ?_
  rintro e w5 ⟨x5,rfl,⟨x50,x51⟩,t1,c1⟩
  have h5:=Lib.hid (h4.out.next t1 c1)
  clear h4 t1 c1
  go_wp2_with fail
  with_reducible refine (op_c h5.out (by first | omega | (simp only [List.length_append,List.length_cons,List.length_nil];omega)) _ _).mono ?_
  rintro e w6 ⟨v6,rfl,h6⟩
  replace h6:=Lib.hid h6
  clear h5
  have hfin:C++flat [(wr8 0,wr8 x3),(wr8 11,wr8 x5)]=C++[wr8 0,wr8 x3]++[wr8 11,wr8 x5]:=by simp [flat]
  go_wp2
  go_ret
  exact⟨_,[(wr8 0,wr8 x3),(wr8 11,wr8 x5)],rfl,pk_R ⟨x3,x5,⟨by omega,by omega⟩,⟨by omega,by omega⟩,rfl⟩,by rw [hfin];exact h6.out⟩
theorem pieceC:PieceC:=⟨fun h hl=>piece_c h hl⟩
end Wd
end Go.Proofs.YteiejjmhmmkdhaaGreat
