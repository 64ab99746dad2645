/- Texts joined: IRG, IRH, IRI, IRJ, IMF, ILP, ILR. -/
import Derived.Test.YtgfnelhbdhbklaaGreatJT1
import Derived.Test.YtgfnelhbdhbklaaGreatJT5
import Derived.Deep.DeepCutAuto
import Derived.Deep.CutBlock
import Derived.Lib.SlBytesConst
import Derived.Deep.AppendLies
namespace Go.Proofs.YtgfnelhbdhbklaaGreat
open Go.RowKit
set_option linter.unusedVariables false
set_option maxRecDepth 20000
namespace Wd
theorem cv_at {P:Program} (w:World) (t e:TypeId) (C:Array Value) (n c g:Nat) (hg:g=w.heap.size) (ht:P.underlying t=some (.slice e)) (he:P.underlying e=some (.int .u8)) :
  (convert t t (.slice (some ⟨g,0,none⟩) n c)).run P (w.alloc (.cells C e))=.ok (.slice (some ⟨g,0,none⟩) n c) (w.alloc (.cells C e (C.size,C.size+1))):=by
 subst hg;exact Lib.run_convert_bytes_const w t e C n c ht he
theorem len_B {T:Type} (f:T→List Int) (L:List T):(rowB f L).length=4+(fl f L).length:=by rw[rowB_fl,List.length_append,b4_len]
set_option maxHeartbeats 64000000 in
theorem wbytes_c {w:World} {u:Value} {U:UnitA} (hu:UnK w u U) (hz:(bytesU U).length≤500000) :
  Calls Tryz.prog 12 #[u] w fun e w'=>∃ v',e=.returned v'∧RB w' (w.heap.size+1) 5 v' (bys (bytesU U))∧Below w.heap.size w w':=by
 obtain⟨na,nc,ca,cc,ma,mc,oa,oc,rfl,hU⟩:=hu.ex;obtain⟨l1,g1⟩:∃ n,n=U.names.length:=⟨_,rfl⟩
 obtain⟨l2,g2⟩:∃ n,n=U.classes.length:=⟨_,rfl⟩
 obtain⟨l3,g3⟩:∃ n,n=U.methods.length:=⟨_,rfl⟩
 obtain⟨l4,g4⟩:∃ n,n=U.objects.length:=⟨_,rfl⟩
 have hz1:(rowB txt U.names).length≤500000:=by unfold bytesU bodyU at hz;simp only[List.length_append] at hz;omega
 have hz2:(rowB txt U.names).length+(rowB clB U.classes).length≤500000:=by unfold bytesU bodyU at hz;simp only[List.length_append] at hz;omega
 have hz3:(rowB txt U.names).length+(rowB clB U.classes).length+(rowB mtB U.methods).length≤500000:=by unfold bytesU bodyU at hz;simp only[List.length_append] at hz;omega
 have hz4:(rowB txt U.names).length+(rowB clB U.classes).length+(rowB mtB U.methods).length+(rowB obB U.objects).length≤500000:=by unfold bytesU bodyU at hz;simp only[List.length_append] at hz;omega
 have q1:l1≤500000:=by rw[len_B] at hz1;have:=flatB_len (g:=txt) U.names (fun s _=>by unfold txt;rw[List.length_append,b4_len];omega);unfold fl at hz1;omega
 have q2:l2≤500000:=by rw[len_B,len_B] at hz2;have:=flatB_len (g:=clB) U.classes (fun s _=>by unfold clB txt;simp only[List.length_append,b4_len];omega);unfold fl at hz2;omega
 have q3:l3≤500000:=by rw[len_B,len_B,len_B] at hz3;have:=flatB_len (g:=mtB) U.methods (fun s _=>by unfold mtB;simp only[List.length_append,b4_len];omega);unfold fl at hz3;omega
 have q4:l4≤500000:=by rw[len_B,len_B,len_B,len_B] at hz4;have:=flatB_len (g:=obB) U.objects (fun s _=>by unfold obB;simp only[List.length_append,b4_len];omega);unfold fl at hz4;omega
 obtain⟨v1,v2,v3,v4⟩:=hU;rw[← g1] at v1 ⊢;rw[← g2] at v2 ⊢;rw[← g3] at v3 ⊢;rw[← g4] at v4 ⊢;replace v1:=HD v1;replace v2:=HD v2;replace v3:=HD v3;replace v4:=HD v4;replace hz1:=HD hz1;replace hz2:=HD hz2;replace hz3:=HD hz3;replace hz4:=HD hz4;have gg:=HD (And.intro g1 (And.intro g2 (And.intro g3 g4)));clear hu g1 g2 g3 g4 hz;have hS:Hid (BY w _ (.slice na l1 nc) (.slice ca l2 cc) (.slice ma l3 mc) (.slice oa l4 oc) U.main _ _):=HD (by_born 27);have PCV:(convert 36 36 (.slice (some ⟨w.heap.size+1,0,none⟩) 4 4)).run Tryz.prog ((w.alloc (.cells #[.slice na l1 nc,.slice ca l2 cc,.slice ma l3 mc,.slice oa l4 oc,.int .i64 U.main] 27)).alloc (.cells #[.int .u8 84,.int .u8 87,.int .u8 49,.int .u8 0] 5))=_:=cv_at _ 36 5 _ 4 4 (w.heap.size+1) (by simp) Tryz.underlying36 Tryz.underlying5;go_enter Tryz.func12,Tryz.ntmps12;have P1:=HD (wput_b hS.out.rb (by have:=hS.out.sz;omega) (by simp) (l1:Int) (by unfold In64;omega))
 go_upto_region 2 with (first | (go_at_call 26;((with_reducible refine P1.out.mono ?_);rintro e1 w1 ⟨x1,rfl,hR1⟩;replace hS:=HD (hS.out.step hR1);clear P1 hR1;obtain⟨y0,y1,y2,y3,y4⟩:=(show _∧_∧_∧_∧_ from ⟨hS.out.c0,hS.out.c1,hS.out.c2,hS.out.c3,hS.out.c4⟩))))
 clear y0 y1 y2 y3 y4;obtain⟨y0,y1,y2,y3,y4⟩:=hS.out.five
 go_wp2
 clear y0 y1 y2 y3 y4;clear PCV;have hst:Hid (BY w w1 (.slice na l1 nc) (.slice ca l2 cc) (.slice ma l3 mc) (.slice oa l4 oc) U.main x1 ([84,87,49,0]++b4 l1++fl txt (U.names.take 0))):=HD (by simpa [fl] using hS.out);clear hS
 go_loopw [3,23] (fun v3 i wr=>∃ (k:Nat),k≤l1∧i=.int .i64 k∧Hid (BY w wr (.slice na l1 nc) (.slice ca l2 cc) (.slice ma l3 mc) (.slice oa l4 oc) U.main v3 ([84,87,49,0]++b4 l1++fl txt (U.names.take k)))) (fun _ i _=>l1 - (intOf i).toNat)
 case atStart=>exact⟨0,by omega,rfl,hst⟩
 case round =>
  clear hst;obtain⟨k,hk,rfl,hS⟩:=hrel;by_cases hlt:k < l1
  ·as_aux_lemma =>
   have hlt':decide ((k:Int) < (l1:Int))=true:=by simp;omega
   have p0:(0:Int)≤(k:Int):=by omega
   have p1:(k:Int) < (l1:Int):=by omega
   obtain⟨x,hx⟩:∃ x,U.names[k]?=some x:=⟨U.names[k]'(by have:=gg.out.1;omega),by simp⟩
   obtain⟨g,off,rfl,c0⟩:=NmV.at (v1.out.up hS.out.bel) hx;have hx':=fl_at (f:=txt) hx;have hxl:(txt x).length=4+x.size:=by unfold txt;rw[List.length_append,b4_len,tby_len]
   have h500:=hz1.out;rw[len_B] at h500;have P1:=HD (wtext_c hS.out.rb hS.out.sz (by simp only[List.length_append,b4_len,List.length_cons,List.length_nil];omega) x (by omega));have hnx:=HD (fl_next (f:=txt) hx);clear hx hx' v2 v3 v4 hz1 hz2 hz3 hz4
   go_wp2_with (first | (go_at_call 27;((with_reducible refine P1.out.mono ?_);rintro e1 w2 ⟨x2,rfl,hR1⟩;replace hS:=HD (hS.out.step hR1);clear P1 hR1)))
   go_roundw
   case rel=>exact⟨k+1,by omega,by go_num,HD (by rw[hnx.out,← List.append_assoc];exact hS.out)⟩
   case measure=>simp[intOf];omega
  ·as_aux_lemma =>
   have hlt':decide ((k:Int) < (l1:Int))=false:=by simp;omega
   obtain rfl:l1=k:=by omega
   replace hS:Hid (BY w wr (.slice na l1 nc) (.slice ca l2 cc) (.slice ma l3 mc) (.slice oa l4 oc) U.main u3 ([84,87,49,0]++rowB txt U.names)):=HD (by
    have h:=hS.out;rw[gg.out.1,List.take_length,← gg.out.1,List.append_assoc] at h;rw[rowB_fl,← gg.out.1];exact h)
   obtain⟨y0,y1,y2,y3,y4⟩:=hS.out.five;have h500:=hz2.out;rw[len_B,len_B] at h500;have hL0:([84,87,49,0]++rowB txt U.names:List Int).length≤500004:=by rw[List.length_append,len_B,List.length_cons,List.length_cons,List.length_cons,List.length_cons,List.length_nil];omega
   have P1:=HD (wput_b hS.out.rb hS.out.sz (by omega) (l2:Int) (by unfold In64;omega))
   go_upto_region 8 with (first | (go_at_call 26;((with_reducible refine P1.out.mono ?_);rintro e1 w1 ⟨x1,rfl,hR1⟩;replace hS:=HD (hS.out.step hR1);clear P1 hR1)))
   clear y0 y1 y2 y3 y4;obtain⟨y0,y1,y2,y3,y4⟩:=hS.out.five
   go_wp2
   clear y0 y1 y2 y3 y4;have hst:Hid (BY w w1 (.slice na l1 nc) (.slice ca l2 cc) (.slice ma l3 mc) (.slice oa l4 oc) U.main x1 ([84,87,49,0]++rowB txt U.names++b4 l2++fl clB (U.classes.take 0))):=HD (by simpa [fl] using hS.out);clear hS hk hlt hlt'
   go_loopw [3,39] (fun v3 i wr=>∃ (k:Nat),k≤l2∧i=.int .i64 k∧Hid (BY w wr (.slice na l1 nc) (.slice ca l2 cc) (.slice ma l3 mc) (.slice oa l4 oc) U.main v3 ([84,87,49,0]++rowB txt U.names++b4 l2++fl clB (U.classes.take k)))) (fun _ i _=>l2 - (intOf i).toNat)
   case atStart=>exact⟨0,by omega,rfl,hst⟩
   case round =>
    clear hst;obtain⟨k,hk,rfl,hS⟩:=hrel;by_cases hlt:k < l2
    ·as_aux_lemma =>
     have hlt':decide ((k:Int) < (l2:Int))=true:=by simp;omega
     have p0:(0:Int)≤(k:Int):=by omega
     have p1:(k:Int) < (l2:Int):=by omega
     obtain⟨x,hx⟩:∃ x,U.classes[k]?=some x:=⟨U.classes[k]'(by have:=gg.out.2.1;omega),by simp⟩
     obtain⟨s64,f64,g,off,bv0,rfl,e0,e1,e2,e3,pb⟩:=ClV.at v2.out hx;obtain⟨ba,bc,rfl,hbc,_⟩:=pb.form;have d0:=cell_up hS.out.bel e0;have d1:=cell_up hS.out.bel e1;have d2:=cell_up hS.out.bel e2;have d3:=cell_up hS.out.bel e3;have hx':=fl_at (f:=clB) hx;have hnx:=HD (fl_next (f:=clB) hx);have hxl:(clB x).length=4+x.nm.size+4+4+(4+8*x.binds.length):=by unfold clB txt rowP;simp only[List.length_append,b4_len,tby_len,prs_len]
     obtain⟨L0,hL0⟩:∃ L0,L0=([84,87,49,0]++rowB txt U.names++b4 l2++fl clB (U.classes.take k):List Int):=⟨_,rfl⟩
     have hLl:L0.length+(clB x).length≤600000:=by have h500:=hz2.out;rw[len_B,len_B] at h500;rw[hL0];simp only[List.length_append,b4_len,len_B,List.length_cons,List.length_nil];omega
     rw[← hL0] at hS;have hnx':=HD hL0;replace pb:=HD pb;have hB:=HD (BE.born hS.out 60 [.string x.nm,.int .i64 x.super,.int .i64 x.fields,.slice ba x.binds.length bc] #[.string x.nm,.int .i64 x.super,.int .i64 x.fields,.slice ba x.binds.length bc] rfl);clear e0 e1 e2 e3 hx hx' hL0 v3 v4 v1 hz1 hz2 hz3 hz4
     go_upto_region 11 with fail
     clear d0 d1 d2 d3 hS;generalize wr.alloc (.cells #[.string x.nm,.int .i64 x.super,.int .i64 x.fields,.slice ba x.binds.length bc] 60)=W1 at *;generalize wr.heap.size=E at *;refine wp_region_held_drew (S:=(fun y=>y.cell? ⟨E,0,none⟩=some (.string x.nm)∧y.cell? ⟨E,1,none⟩=some (.int .i64 x.super)∧y.cell? ⟨E,2,none⟩=some (.int .i64 x.fields)∧y.cell? ⟨E,3,none⟩=some (.slice ba x.binds.length bc))) (by kernel_rfl) ?_ (fun hHeld=>?_)
     ·(try dsimp only);exact hB.out.s4
     try simp only[nA]
     replace hB:=HD hB.out.drew;refine tr (i:=0) (oi:=⟨some 43,.move (.tmp 3),36,"ref.go:275",#[],none⟩) (v:=?_) (Or.inl ⟨by rfl,?_⟩) ?_
     rotate_left 1
     ·intro w hSw;(try dsimp only at hSw);obtain⟨s0,s1,s2,s3⟩:=hSw;go_simp <;> with_reducible rfl
     try simp only[nA]
     refine tr (i:=1) (oi:=⟨some 44,.fieldAddr 60 (.tmp 7) 0,0,"ref.go:275",#[],none⟩) (v:=?_) (Or.inl ⟨by rfl,?_⟩) ?_
     rotate_left 1
     ·intro w hSw;(try dsimp only at hSw);obtain⟨s0,s1,s2,s3⟩:=hSw;go_simp <;> with_reducible rfl
     try simp only[nA]
     refine tr (i:=2) (oi:=⟨some 45,.load 9 (.tmp 44),9,"ref.go:275",#[⟨1,.data⟩],none⟩) (v:=?_) (Or.inl ⟨by rfl,?_⟩) ?_
     rotate_left 1
     ·intro w hSw;(try dsimp only at hSw);obtain⟨s0,s1,s2,s3⟩:=hSw;go_simp <;> with_reducible rfl
     try simp only[nA]
     refine tr (i:=4) (oi:=⟨some 47,.fieldAddr 60 (.tmp 7) 1,0,"ref.go:275",#[],none⟩) (v:=?_) (Or.inl ⟨by rfl,?_⟩) ?_
     rotate_left 1
     ·intro w hSw;(try dsimp only at hSw);obtain⟨s0,s1,s2,s3⟩:=hSw;go_simp <;> with_reducible rfl
     try simp only[nA]
     refine tr (i:=5) (oi:=⟨some 48,.load 3 (.tmp 47),3,"ref.go:275",#[⟨4,.data⟩],none⟩) (v:=?_) (Or.inl ⟨by rfl,?_⟩) ?_
     rotate_left 1
     ·intro w hSw;(try dsimp only at hSw);obtain⟨s0,s1,s2,s3⟩:=hSw;go_simp <;> with_reducible rfl
     try simp only[nA]
     refine tr (i:=7) (oi:=⟨some 50,.fieldAddr 60 (.tmp 7) 2,0,"ref.go:275",#[],none⟩) (v:=?_) (Or.inl ⟨by rfl,?_⟩) ?_
     rotate_left 1
     ·intro w hSw;(try dsimp only at hSw);obtain⟨s0,s1,s2,s3⟩:=hSw;go_simp <;> with_reducible rfl
     try simp only[nA]
     refine tr (i:=8) (oi:=⟨some 51,.load 3 (.tmp 50),3,"ref.go:275",#[⟨7,.data⟩],none⟩) (v:=?_) (Or.inl ⟨by rfl,?_⟩) ?_
     rotate_left 1
     ·intro w hSw;(try dsimp only at hSw);obtain⟨s0,s1,s2,s3⟩:=hSw;go_simp <;> with_reducible rfl
     try simp only[nA]
     refine tr (i:=10) (oi:=⟨some 53,.fieldAddr 60 (.tmp 7) 3,0,"ref.go:275",#[],none⟩) (v:=?_) (Or.inl ⟨by rfl,?_⟩) ?_
     rotate_left 1
     ·intro w hSw;(try dsimp only at hSw);obtain⟨s0,s1,s2,s3⟩:=hSw;go_simp <;> with_reducible rfl
     try simp only[nA]
     refine tr (i:=11) (oi:=⟨some 54,.load 58 (.tmp 53),58,"ref.go:275",#[⟨10,.data⟩],none⟩) (v:=?_) (Or.inl ⟨by rfl,?_⟩) ?_
     rotate_left 1
     ·intro w hSw;(try dsimp only at hSw);obtain⟨s0,s1,s2,s3⟩:=hSw;go_simp <;> with_reducible rfl
     try simp only[nA]
     refine tr (i:=12) (oi:=⟨some 55,.call { callee:=.builtin .len,args:=#[.tmp 54],argTypes:=#[58] },3,"ref.go:275",#[⟨11,.data⟩],none⟩) (v:=?_) (Or.inl ⟨by rfl,?_⟩) ?_
     rotate_left 1
     ·intro w hSw;(try dsimp only at hSw);obtain⟨s0,s1,s2,s3⟩:=hSw;go_simp <;> with_reducible rfl
     try simp only[nA]
     have P1:=HD (wtext_c hB.out.st.rb hB.out.st.sz (by first | omega | (simp only[List.length_append,b4_len,tby_len,txt];omega)) x.nm (by omega));refine wpAnyH_ready (rs:=[3]) (by kernel_rfl) (by simp) ?_;refine AllReadyH.cons (o:=⟨some 46,.call { callee:=.value (.func 27),args:=#[.tmp 43,.tmp 45],argTypes:=#[36,9] },36,"ref.go:275",#[⟨0,.data⟩,⟨2,.data⟩],none⟩) rfl (fun K9 hK=>?_) ?_
     ·go_simp
      with_reducible refine (P1.out).mono ?_
      rintro e z0 ⟨r0,rfl,hR⟩;replace hB:=HD (hB.out.step hR);clear hR P1
      go_wp2_with fail
      refine hK.out _ _ ?_ ?_
      ·(try dsimp only);exact hB.out.s4
      clear hK K9 hHeld;intro hHeld
      try simp only[nA]
      have P1:=HD (wput_b hB.out.st.rb hB.out.st.sz (by first | omega | (simp only[List.length_append,b4_len,tby_len,txt];omega)) x.super s64);refine wpAnyH_ready (rs:=[6]) (by kernel_rfl) (by simp) ?_;refine AllReadyH.cons (o:=⟨some 49,.call { callee:=.value (.func 26),args:=#[.tmp 46,.tmp 48],argTypes:=#[36,3] },36,"ref.go:275",#[⟨3,.data⟩,⟨5,.data⟩,⟨3,.chain⟩],none⟩) rfl (fun K9 hK=>?_) ?_
      ·go_simp
       with_reducible refine (P1.out).mono ?_
       rintro e z1 ⟨r1,rfl,hR⟩;replace hB:=HD (hB.out.step hR);clear hR P1
       go_wp2_with fail
       refine hK.out _ _ ?_ ?_
       ·(try dsimp only);exact hB.out.s4
       clear hK K9 hHeld;intro hHeld
       try simp only[nA]
       have P1:=HD (wput_b hB.out.st.rb hB.out.st.sz (by first | omega | (simp only[List.length_append,b4_len,tby_len,txt];omega)) x.fields f64);refine wpAnyH_ready (rs:=[9]) (by kernel_rfl) (by simp) ?_;refine AllReadyH.cons (o:=⟨some 52,.call { callee:=.value (.func 26),args:=#[.tmp 49,.tmp 51],argTypes:=#[36,3] },36,"ref.go:275",#[⟨6,.data⟩,⟨8,.data⟩,⟨6,.chain⟩],none⟩) rfl (fun K9 hK=>?_) ?_
       ·go_simp
        with_reducible refine (P1.out).mono ?_
        rintro e z2 ⟨r2,rfl,hR⟩;replace hB:=HD (hB.out.step hR);clear hR P1
        go_wp2_with fail
        refine hK.out _ _ ?_ ?_
        ·(try dsimp only);exact hB.out.s4
        clear hK K9 hHeld;intro hHeld
        try simp only[nA]
        have P1:=HD (wput_b hB.out.st.rb hB.out.st.sz (by first | omega | (simp only[List.length_append,b4_len,tby_len,txt];omega)) (x.binds.length:Int) (by unfold In64;omega));refine wpAnyH_ready (rs:=[13]) (by kernel_rfl) (by simp) ?_;refine AllReadyH.cons (o:=⟨some 56,.call { callee:=.value (.func 26),args:=#[.tmp 52,.tmp 55],argTypes:=#[36,3] },36,"ref.go:275",#[⟨9,.data⟩,⟨12,.data⟩,⟨9,.chain⟩],none⟩) rfl (fun K9 hK=>?_) ?_
        ·go_simp
         with_reducible refine (P1.out).mono ?_
         rintro e z3 ⟨r3,rfl,hR⟩;replace hB:=HD (hB.out.step hR);clear hR P1
         go_wp2_with fail
         refine hK.out _ _ ?_ ?_
         ·(try dsimp only);exact hB.out.s4
         clear hK K9 hHeld;intro hHeld
         try simp only[nA]
         refine tr (i:=14) (oi:=⟨some 3,.assign (.tmp 56),36,"ref.go:275",#[⟨13,.data⟩,⟨13,.chain⟩,⟨0,.phase⟩,⟨1,.phase⟩,⟨2,.phase⟩,⟨3,.phase⟩,⟨4,.phase⟩,⟨5,.phase⟩,⟨6,.phase⟩,⟨7,.phase⟩,⟨8,.phase⟩,⟨9,.phase⟩,⟨10,.phase⟩,⟨11,.phase⟩,⟨12,.phase⟩,⟨13,.phase⟩],none⟩) (v:=?_) (Or.inl ⟨by rfl,?_⟩) ?_
         rotate_left 1
         ·intro w hSw;(try dsimp only at hSw);obtain⟨s0,s1,s2,s3⟩:=hSw;go_simp <;> with_reducible rfl
         try simp only[nA]
         refine wpAnyH_done (by kernel_rfl) ?_ _;have f3:=hB.out.s4.2.2.2;have hst2:Hid (BY w z3 (.slice na l1 nc) (.slice (some ⟨g,off,none⟩) l2 cc) (.slice ma l3 mc) (.slice oa l4 oc) U.main r3 (L0++txt x.nm++b4 x.super++b4 x.fields++b4 x.binds.length++prs (x.binds.take 0))):=HD (by simpa [prs] using hB.out.st);clear hB
         go_wp2
         clear f3
         go_loopw [3,60] (fun v3 i wr=>∃ (j:Nat),j≤x.binds.length∧i=.int .i64 j∧Hid (BY w wr (.slice na l1 nc) (.slice (some ⟨g,off,none⟩) l2 cc) (.slice ma l3 mc) (.slice oa l4 oc) U.main v3 (L0++txt x.nm++b4 x.super++b4 x.fields++b4 x.binds.length++prs (x.binds.take j)))) (fun _ i _=>x.binds.length - (intOf i).toNat)
         case atStart=>exact⟨0,by omega,rfl,hst2⟩
         case round =>
          clear hst2;obtain⟨j,hj,rfl,hS⟩:=hrel;by_cases hjl:j < x.binds.length
          ·have hjl':decide ((j:Int) < (x.binds.length:Int))=true:=by simp;omega
           have r0:(0:Int)≤(j:Int):=by omega
           have r1:(j:Int) < (x.binds.length:Int):=by omega
           obtain⟨⟨a,b⟩,hy⟩:∃ y,x.binds[j]?=some y:=⟨x.binds[j],by simp⟩
           obtain⟨a64,b64,gb,ob,rfl,c0,c1⟩:=(pb.out.up hS.out.bel).at hy;simp only at a64 b64 c0 c1;have hyn:=HD (prs_next hy);have hpl:=prs_len (x.binds.take j);rw[List.length_take,show min j x.binds.length=j by omega] at hpl;have hB:=HD (BE.born hS.out 66 [.int .i64 a,.int .i64 b] #[.int .i64 a,.int .i64 b] rfl);clear hy pb
           go_upto_region 15 with fail
           clear c0 c1 hS;generalize wr.alloc (.cells #[.int .i64 a,.int .i64 b] 66)=W2 at *;generalize wr.heap.size=E2 at *;refine wp_region_held_drew (S:=(fun y=>y.cell? ⟨E2,0,none⟩=some (.int .i64 a)∧y.cell? ⟨E2,1,none⟩=some (.int .i64 b))) (by kernel_rfl) ?_ (fun hHeld=>?_)
           ·(try dsimp only);exact hB.out.s2
           try simp only[nA]
           replace hB:=HD hB.out.drew;refine tr (i:=0) (oi:=⟨some 64,.move (.tmp 3),36,"ref.go:277",#[],none⟩) (v:=?_) (Or.inl ⟨by rfl,?_⟩) ?_
           rotate_left 1
           ·intro w hSw;(try dsimp only at hSw);obtain⟨s0,s1⟩:=hSw;go_simp <;> with_reducible rfl
           try simp only[nA]
           refine tr (i:=1) (oi:=⟨some 65,.fieldAddr 66 (.tmp 9) 0,0,"ref.go:277",#[],none⟩) (v:=?_) (Or.inl ⟨by rfl,?_⟩) ?_
           rotate_left 1
           ·intro w hSw;(try dsimp only at hSw);obtain⟨s0,s1⟩:=hSw;go_simp <;> with_reducible rfl
           try simp only[nA]
           refine tr (i:=2) (oi:=⟨some 66,.load 3 (.tmp 65),3,"ref.go:277",#[⟨1,.data⟩],none⟩) (v:=?_) (Or.inl ⟨by rfl,?_⟩) ?_
           rotate_left 1
           ·intro w hSw;(try dsimp only at hSw);obtain⟨s0,s1⟩:=hSw;go_simp <;> with_reducible rfl
           try simp only[nA]
           refine tr (i:=4) (oi:=⟨some 68,.fieldAddr 66 (.tmp 9) 1,0,"ref.go:277",#[],none⟩) (v:=?_) (Or.inl ⟨by rfl,?_⟩) ?_
           rotate_left 1
           ·intro w hSw;(try dsimp only at hSw);obtain⟨s0,s1⟩:=hSw;go_simp <;> with_reducible rfl
           try simp only[nA]
           refine tr (i:=5) (oi:=⟨some 69,.load 3 (.tmp 68),3,"ref.go:277",#[⟨4,.data⟩],none⟩) (v:=?_) (Or.inl ⟨by rfl,?_⟩) ?_
           rotate_left 1
           ·intro w hSw;(try dsimp only at hSw);obtain⟨s0,s1⟩:=hSw;go_simp <;> with_reducible rfl
           try simp only[nA]
           have P1:=HD (wput_b hB.out.st.rb hB.out.st.sz (by first | omega | (simp only[List.length_append,b4_len,tby_len,txt];omega)) a a64);refine wpAnyH_ready (rs:=[3]) (by kernel_rfl) (by simp) ?_;refine AllReadyH.cons (o:=⟨some 67,.call { callee:=.value (.func 26),args:=#[.tmp 64,.tmp 66],argTypes:=#[36,3] },36,"ref.go:277",#[⟨0,.data⟩,⟨2,.data⟩],none⟩) rfl (fun K9 hK=>?_) ?_
           ·go_simp
            with_reducible refine (P1.out).mono ?_
            rintro e z0 ⟨r0,rfl,hR⟩;replace hB:=HD (hB.out.step hR);clear hR P1
            go_wp2_with fail
            refine hK.out _ _ ?_ ?_
            ·(try dsimp only);exact hB.out.s2
            clear hK K9 hHeld;intro hHeld
            try simp only[nA]
            have P1:=HD (wput_b hB.out.st.rb hB.out.st.sz (by first | omega | (simp only[List.length_append,b4_len,tby_len,txt];omega)) b b64);refine wpAnyH_ready (rs:=[6]) (by kernel_rfl) (by simp) ?_;refine AllReadyH.cons (o:=⟨some 70,.call { callee:=.value (.func 26),args:=#[.tmp 67,.tmp 69],argTypes:=#[36,3] },36,"ref.go:277",#[⟨3,.data⟩,⟨5,.data⟩,⟨3,.chain⟩],none⟩) rfl (fun K9 hK=>?_) ?_
            ·go_simp
             with_reducible refine (P1.out).mono ?_
             rintro e z1 ⟨r1,rfl,hR⟩;replace hB:=HD (hB.out.step hR);clear hR P1
             go_wp2_with fail
             refine hK.out _ _ ?_ ?_
             ·(try dsimp only);exact hB.out.s2
             clear hK K9 hHeld;intro hHeld
             try simp only[nA]
             refine tr (i:=7) (oi:=⟨some 3,.assign (.tmp 70),36,"ref.go:277",#[⟨6,.data⟩,⟨6,.chain⟩,⟨0,.phase⟩,⟨1,.phase⟩,⟨2,.phase⟩,⟨3,.phase⟩,⟨4,.phase⟩,⟨5,.phase⟩,⟨6,.phase⟩],none⟩) (v:=?_) (Or.inl ⟨by rfl,?_⟩) ?_
             rotate_left 1
             ·intro w hSw;(try dsimp only at hSw);obtain⟨s0,s1⟩:=hSw;go_simp <;> with_reducible rfl
             try simp only[nA]
             refine wpAnyH_done (by kernel_rfl) ?_ _
             go_wp2
             go_roundw
             case rel=>exact⟨j+1,by omega,by go_num,HD (by rw[hyn.out,← List.append_assoc,← List.append_assoc];exact hB.out.st)⟩
             case measure=>simp[intOf];omega
            exact AllReadyH.nil
           exact AllReadyH.nil
          ·have hjl':decide ((j:Int) < (x.binds.length:Int))=false:=by simp;omega
           have hfin:Hid (BY w wr (.slice na l1 nc) (.slice (some ⟨g,off,none⟩) l2 cc) (.slice ma l3 mc) (.slice oa l4 oc) U.main u3 ([84,87,49,0]++rowB txt U.names++b4 l2++fl clB (U.classes.take (k+1)))):=HD (by
            have h:=hS.out;rw[show j=x.binds.length by omega,List.take_length] at h;rw[hnx.out,← List.append_assoc,← hnx'.out];unfold clB rowP;simp only[List.append_assoc] at h ⊢;exact h)
           clear hS hnx hnx'
           go_wp2
           go_roundw
           case rel=>exact⟨k+1,by omega,by go_num,hfin⟩
           case measure=>simp[intOf];omega
        exact AllReadyH.nil
       exact AllReadyH.nil
      exact AllReadyH.nil
     exact AllReadyH.nil
    ·as_aux_lemma =>
     have hlt':decide ((k:Int) < (l2:Int))=false:=by simp;omega
     obtain rfl:l2=k:=by omega
     replace hS:Hid (BY w wr (.slice na l1 nc) (.slice ca l2 cc) (.slice ma l3 mc) (.slice oa l4 oc) U.main u3 ([84,87,49,0]++rowB txt U.names++rowB clB U.classes)):=HD (by
      have h:=hS.out;rw[gg.out.2.1,List.take_length,← gg.out.2.1,List.append_assoc] at h;rw[rowB_fl clB,← gg.out.2.1];exact h)
     obtain⟨y0,y1,y2,y3,y4⟩:=hS.out.five;have hL0:(([84,87,49,0]++rowB txt U.names++rowB clB U.classes):List Int).length≤500004:=by have h500:=hz2.out;simp only[List.length_append,List.length_cons,List.length_nil];omega
     have P1:=HD (wput_b hS.out.rb hS.out.sz (by omega) (l3:Int) (by unfold In64;omega))
     go_upto_region 19 with (first | (go_at_call 26;((with_reducible refine P1.out.mono ?_);rintro e1 w1 ⟨x1,rfl,hR1⟩;replace hS:=HD (hS.out.step hR1);clear P1 hR1)))
     clear y0 y1 y2 y3 y4;obtain⟨y0,y1,y2,y3,y4⟩:=hS.out.five
     go_wp2
     clear y0 y1 y2 y3 y4;have hst:Hid (BY w w1 (.slice na l1 nc) (.slice ca l2 cc) (.slice ma l3 mc) (.slice oa l4 oc) U.main x1 (([84,87,49,0]++rowB txt U.names++rowB clB U.classes)++b4 l3++fl mtB (U.methods.take 0))):=HD (by simpa [fl] using hS.out);clear hS hk hlt hlt'
     go_loopw [3,81] (fun v3 i wr=>∃ (k:Nat),k≤l3∧i=.int .i64 k∧Hid (BY w wr (.slice na l1 nc) (.slice ca l2 cc) (.slice ma l3 mc) (.slice oa l4 oc) U.main v3 (([84,87,49,0]++rowB txt U.names++rowB clB U.classes)++b4 l3++fl mtB (U.methods.take k)))) (fun _ i _=>l3 - (intOf i).toNat)
     case atStart=>exact⟨0,by omega,rfl,hst⟩
     case round =>
      clear hst;obtain⟨k,hk,rfl,hS⟩:=hrel;by_cases hlt:k < l3
      ·as_aux_lemma =>
       have hlt':decide ((k:Int) < (l3:Int))=true:=by simp;omega
       have p0:(0:Int)≤(k:Int):=by omega
       have p1:(k:Int) < (l3:Int):=by omega
       obtain⟨x,hx⟩:∃ x,U.methods[k]?=some x:=⟨U.methods[k]'(by have:=gg.out.2.2.1;omega),by simp⟩
       obtain⟨g,off,la,lc,ka,kc,rfl,e0,e1,e2,e3,pm⟩:=MtV.at v3.out hx;have a64:=pm.a64;have t64:=pm.t64;obtain⟨_,_,_,_,em,pl,pk⟩:=pm.ex;cases em;have d0:=cell_up hS.out.bel e0;have d1:=cell_up hS.out.bel e1;have d2:=cell_up hS.out.bel e2;have d3:=cell_up hS.out.bel e3;have hx':=fl_at (f:=mtB) hx;have hnx:=HD (fl_next (f:=mtB) hx);have hxl:(mtB x).length=4+4+(4+8*x.lits.length)+(4+x.code.length):=by unfold mtB rowP;simp only[List.length_append,b4_len,prs_len]
       obtain⟨L0,hL0⟩:∃ L0,L0=(([84,87,49,0]++rowB txt U.names++rowB clB U.classes)++b4 l3++fl mtB (U.methods.take k):List Int):=⟨_,rfl⟩
       have hLl:L0.length+(mtB x).length≤600000:=by have h500:=hz3.out;rw[len_B mtB] at h500;rw[hL0];simp only[List.length_append,b4_len,List.length_cons,List.length_nil];omega
       rw[← hL0] at hS;have hnx':=HD hL0;replace pl:=HD pl;replace pk:=HD pk;have hB:=HD (BE.born hS.out 63 [.int .i64 x.args,.int .i64 x.temps,.slice la x.lits.length lc,.slice ka x.code.length kc] #[.int .i64 x.args,.int .i64 x.temps,.slice la x.lits.length lc,.slice ka x.code.length kc] rfl);clear e0 e1 e2 e3 hx hx' hL0 v4 v1 v2 pm hz1 hz2 hz3 hz4
       go_upto_region 22 with fail
       clear d0 d1 d2 d3 hS;generalize wr.alloc (.cells #[.int .i64 x.args,.int .i64 x.temps,.slice la x.lits.length lc,.slice ka x.code.length kc] 63)=W1 at *;generalize wr.heap.size=E at *;refine wp_region_held_drew (S:=(fun y=>y.cell? ⟨E,0,none⟩=some (.int .i64 x.args)∧y.cell? ⟨E,1,none⟩=some (.int .i64 x.temps)∧y.cell? ⟨E,2,none⟩=some (.slice la x.lits.length lc)∧y.cell? ⟨E,3,none⟩=some (.slice ka x.code.length kc))) (by kernel_rfl) ?_ (fun hHeld=>?_)
       ·(try dsimp only);exact hB.out.s4
       try simp only[nA]
       replace hB:=HD hB.out.drew;refine tr (i:=0) (oi:=⟨some 85,.move (.tmp 3),36,"ref.go:282",#[],none⟩) (v:=?_) (Or.inl ⟨by rfl,?_⟩) ?_
       rotate_left 1
       ·intro w hSw;(try dsimp only at hSw);obtain⟨s0,s1,s2,s3⟩:=hSw;go_simp <;> with_reducible rfl
       try simp only[nA]
       refine tr (i:=1) (oi:=⟨some 86,.fieldAddr 63 (.tmp 11) 0,0,"ref.go:282",#[],none⟩) (v:=?_) (Or.inl ⟨by rfl,?_⟩) ?_
       rotate_left 1
       ·intro w hSw;(try dsimp only at hSw);obtain⟨s0,s1,s2,s3⟩:=hSw;go_simp <;> with_reducible rfl
       try simp only[nA]
       refine tr (i:=2) (oi:=⟨some 87,.load 3 (.tmp 86),3,"ref.go:282",#[⟨1,.data⟩],none⟩) (v:=?_) (Or.inl ⟨by rfl,?_⟩) ?_
       rotate_left 1
       ·intro w hSw;(try dsimp only at hSw);obtain⟨s0,s1,s2,s3⟩:=hSw;go_simp <;> with_reducible rfl
       try simp only[nA]
       refine tr (i:=4) (oi:=⟨some 89,.fieldAddr 63 (.tmp 11) 1,0,"ref.go:282",#[],none⟩) (v:=?_) (Or.inl ⟨by rfl,?_⟩) ?_
       rotate_left 1
       ·intro w hSw;(try dsimp only at hSw);obtain⟨s0,s1,s2,s3⟩:=hSw;go_simp <;> with_reducible rfl
       try simp only[nA]
       refine tr (i:=5) (oi:=⟨some 90,.load 3 (.tmp 89),3,"ref.go:282",#[⟨4,.data⟩],none⟩) (v:=?_) (Or.inl ⟨by rfl,?_⟩) ?_
       rotate_left 1
       ·intro w hSw;(try dsimp only at hSw);obtain⟨s0,s1,s2,s3⟩:=hSw;go_simp <;> with_reducible rfl
       try simp only[nA]
       refine tr (i:=7) (oi:=⟨some 92,.fieldAddr 63 (.tmp 11) 2,0,"ref.go:282",#[],none⟩) (v:=?_) (Or.inl ⟨by rfl,?_⟩) ?_
       rotate_left 1
       ·intro w hSw;(try dsimp only at hSw);obtain⟨s0,s1,s2,s3⟩:=hSw;go_simp <;> with_reducible rfl
       try simp only[nA]
       refine tr (i:=8) (oi:=⟨some 93,.load 53 (.tmp 92),53,"ref.go:282",#[⟨7,.data⟩],none⟩) (v:=?_) (Or.inl ⟨by rfl,?_⟩) ?_
       rotate_left 1
       ·intro w hSw;(try dsimp only at hSw);obtain⟨s0,s1,s2,s3⟩:=hSw;go_simp <;> with_reducible rfl
       try simp only[nA]
       have P1:=HD (wput_b hB.out.st.rb hB.out.st.sz (by first | omega | (simp only[List.length_append,b4_len];omega)) x.args a64);refine wpAnyH_ready (rs:=[3]) (by kernel_rfl) (by simp) ?_;refine AllReadyH.cons (o:=⟨some 88,.call { callee:=.value (.func 26),args:=#[.tmp 85,.tmp 87],argTypes:=#[36,3] },36,"ref.go:282",#[⟨0,.data⟩,⟨2,.data⟩],none⟩) rfl (fun K9 hK=>?_) ?_
       ·go_simp
        with_reducible refine (P1.out).mono ?_
        rintro e z0 ⟨r0,rfl,hR⟩;replace hB:=HD (hB.out.step hR);clear hR P1
        go_wp2_with fail
        refine hK.out _ _ ?_ ?_
        ·(try dsimp only);exact hB.out.s4
        clear hK K9 hHeld;intro hHeld
        try simp only[nA]
        have P1:=HD (wput_b hB.out.st.rb hB.out.st.sz (by first | omega | (simp only[List.length_append,b4_len];omega)) x.temps t64);refine wpAnyH_ready (rs:=[6]) (by kernel_rfl) (by simp) ?_;refine AllReadyH.cons (o:=⟨some 91,.call { callee:=.value (.func 26),args:=#[.tmp 88,.tmp 90],argTypes:=#[36,3] },36,"ref.go:282",#[⟨3,.data⟩,⟨5,.data⟩,⟨3,.chain⟩],none⟩) rfl (fun K9 hK=>?_) ?_
        ·go_simp
         with_reducible refine (P1.out).mono ?_
         rintro e z1 ⟨r1,rfl,hR⟩;replace hB:=HD (hB.out.step hR);clear hR P1
         go_wp2_with fail
         refine hK.out _ _ ?_ ?_
         ·(try dsimp only);exact hB.out.s4
         clear hK K9 hHeld;intro hHeld
         try simp only[nA]
         have P1:=HD (wvals_c (by omega) pl.out hB.out.st.bel hB.out.st.rb hB.out.st.sz (by first | omega | (simp only[List.length_append,b4_len];omega)) (by omega));refine wpAnyH_ready (rs:=[9]) (by kernel_rfl) (by simp) ?_;refine AllReadyH.cons (o:=⟨some 94,.call { callee:=.value (.func 28),args:=#[.tmp 91,.tmp 93],argTypes:=#[36,53] },36,"ref.go:282",#[⟨6,.data⟩,⟨8,.data⟩,⟨6,.chain⟩],none⟩) rfl (fun K9 hK=>?_) ?_
         ·go_simp
          with_reducible refine (P1.out).mono ?_
          rintro e z2 ⟨r2,rfl,hR⟩;replace hB:=HD (hB.out.step hR);clear hR P1
          go_wp2_with fail
          refine hK.out _ _ ?_ ?_
          ·(try dsimp only);exact hB.out.s4
          clear hK K9 hHeld;intro hHeld
          try simp only[nA]
          refine tr (i:=10) (oi:=⟨some 3,.assign (.tmp 94),36,"ref.go:282",#[⟨9,.data⟩,⟨9,.chain⟩,⟨0,.phase⟩,⟨1,.phase⟩,⟨2,.phase⟩,⟨3,.phase⟩,⟨4,.phase⟩,⟨5,.phase⟩,⟨6,.phase⟩,⟨7,.phase⟩,⟨8,.phase⟩,⟨9,.phase⟩],none⟩) (v:=?_) (Or.inl ⟨by rfl,?_⟩) ?_
          rotate_left 1
          ·intro w hSw;(try dsimp only at hSw);obtain⟨s0,s1,s2,s3⟩:=hSw;go_simp <;> with_reducible rfl
          try simp only[nA]
          refine wpAnyH_done (by kernel_rfl) ?_ _;have f3:=hB.out.s4.2.2.2;have hbd:=pk.out.bd;have htx:=text_txt hbd;have hts:=text_sz hbd;have PC:=by_text (pk.out.up hB.out.st.bel);have hxl2:(L0++b4 x.args++b4 x.temps++rowP x.lits).length≤700000:=by unfold rowP;simp only[List.length_append,b4_len,prs_len];omega
          have P1:=HD (wtext_c hB.out.st.rb hB.out.st.sz (by omega) (textOf x.code) (by omega))
          go_wp2_with (first | (go_at_call 27;((with_reducible refine P1.out.mono ?_);rintro e1 w2 ⟨x2,rfl,hR1⟩;replace hS:=HD (hB.out.st.step hR1);clear P1 hR1)))
          have hfin:Hid (BY w w2 (.slice na l1 nc) (.slice ca l2 cc) (.slice (some ⟨g,off,none⟩) l3 mc) (.slice oa l4 oc) U.main x2 (([84,87,49,0]++rowB txt U.names++rowB clB U.classes)++b4 l3++fl mtB (U.methods.take (k+1)))):=HD (by
           have h:=hS.out;rw[htx] at h;rw[hnx.out,← List.append_assoc,← hnx'.out];unfold mtB;simp only[List.append_assoc] at h ⊢;exact h)
          go_roundw
          case rel=>exact⟨k+1,by omega,by go_num,hfin⟩
          case measure=>simp[intOf];omega
         exact AllReadyH.nil
        exact AllReadyH.nil
       exact AllReadyH.nil
      ·as_aux_lemma =>
       have hlt':decide ((k:Int) < (l3:Int))=false:=by simp;omega
       obtain rfl:l3=k:=by omega
       replace hS:Hid (BY w wr (.slice na l1 nc) (.slice ca l2 cc) (.slice ma l3 mc) (.slice oa l4 oc) U.main u3 ([84,87,49,0]++rowB txt U.names++rowB clB U.classes++rowB mtB U.methods)):=HD (by
        have h:=hS.out;rw[gg.out.2.2.1,List.take_length,← gg.out.2.2.1,List.append_assoc] at h;rw[rowB_fl mtB,← gg.out.2.2.1];exact h)
       obtain⟨y0,y1,y2,y3,y4⟩:=hS.out.five;have hL0:(([84,87,49,0]++rowB txt U.names++rowB clB U.classes++rowB mtB U.methods):List Int).length≤500004:=by have h500:=hz3.out;simp only[List.length_append,List.length_cons,List.length_nil];omega
       have P1:=HD (wput_b hS.out.rb hS.out.sz (by omega) (l4:Int) (by unfold In64;omega))
       go_upto_region 26 with (first | (go_at_call 26;((with_reducible refine P1.out.mono ?_);rintro e1 w1 ⟨x1,rfl,hR1⟩;replace hS:=HD (hS.out.step hR1);clear P1 hR1)))
       clear y0 y1 y2 y3 y4;obtain⟨y0,y1,y2,y3,y4⟩:=hS.out.five
       go_wp2
       clear y0 y1 y2 y3 y4;have hst:Hid (BY w w1 (.slice na l1 nc) (.slice ca l2 cc) (.slice ma l3 mc) (.slice oa l4 oc) U.main x1 (([84,87,49,0]++rowB txt U.names++rowB clB U.classes++rowB mtB U.methods)++b4 l4++fl obB (U.objects.take 0))):=HD (by simpa [fl] using hS.out);clear hS hk hlt hlt'
       go_loopw [3,109] (fun v3 i wr=>∃ (k:Nat),k≤l4∧i=.int .i64 k∧Hid (BY w wr (.slice na l1 nc) (.slice ca l2 cc) (.slice ma l3 mc) (.slice oa l4 oc) U.main v3 (([84,87,49,0]++rowB txt U.names++rowB clB U.classes++rowB mtB U.methods)++b4 l4++fl obB (U.objects.take k)))) (fun _ i _=>l4 - (intOf i).toNat)
       case atStart=>exact⟨0,by omega,rfl,hst⟩
       case round =>
        clear hst;obtain⟨k,hk,rfl,hS⟩:=hrel;by_cases hlt:k < l4
        ·as_aux_lemma =>
         have hlt':decide ((k:Int) < (l4:Int))=true:=by simp;omega
         have p0:(0:Int)≤(k:Int):=by omega
         have p1:(k:Int) < (l4:Int):=by omega
         obtain⟨x,hx⟩:∃ x,U.objects[k]?=some x:=⟨U.objects[k]'(by have:=gg.out.2.2.2;omega),by simp⟩
         obtain⟨c64,g,off,fv,rfl,e0,e1,pf⟩:=ObV.at v4.out hx;obtain⟨fa,fc,rfl,_,_⟩:=pf.form;have d0:=cell_up hS.out.bel e0;have d1:=cell_up hS.out.bel e1;have hx':=fl_at (f:=obB) hx;have hnx:=HD (fl_next (f:=obB) hx);have hxl:(obB x).length=4+(4+8*x.flds.length):=by unfold obB rowP;simp only[List.length_append,b4_len,prs_len]
         obtain⟨L0,hL0⟩:∃ L0,L0=(([84,87,49,0]++rowB txt U.names++rowB clB U.classes++rowB mtB U.methods)++b4 l4++fl obB (U.objects.take k):List Int):=⟨_,rfl⟩
         have hLl:L0.length+(obB x).length≤600000:=by have h500:=hz4.out;rw[len_B obB] at h500;rw[hL0];simp only[List.length_append,b4_len,List.length_cons,List.length_nil];omega
         rw[← hL0] at hS;have hnx':=HD hL0;replace pf:=HD pf;have hB:=HD (BE.born hS.out 55 [.int .i64 x.cls,.slice fa x.flds.length fc] #[.int .i64 x.cls,.slice fa x.flds.length fc] rfl);clear e0 e1 hx hx' hL0 v3 v1 v2 hz1 hz2 hz3 hz4
         go_upto_region 29 with fail
         clear d0 d1 hS;generalize wr.alloc (.cells #[.int .i64 x.cls,.slice fa x.flds.length fc] 55)=W1 at *;generalize wr.heap.size=E at *;refine wp_region_held_drew (S:=(fun y=>y.cell? ⟨E,0,none⟩=some (.int .i64 x.cls)∧y.cell? ⟨E,1,none⟩=some (.slice fa x.flds.length fc))) (by kernel_rfl) ?_ (fun hHeld=>?_)
         ·(try dsimp only);exact hB.out.s2
         try simp only[nA]
         replace hB:=HD hB.out.drew;refine tr (i:=0) (oi:=⟨some 113,.move (.tmp 3),36,"ref.go:287",#[],none⟩) (v:=?_) (Or.inl ⟨by rfl,?_⟩) ?_
         rotate_left 1
         ·intro w hSw;(try dsimp only at hSw);obtain⟨s0,s1⟩:=hSw;go_simp <;> with_reducible rfl
         try simp only[nA]
         refine tr (i:=1) (oi:=⟨some 114,.fieldAddr 55 (.tmp 13) 0,0,"ref.go:287",#[],none⟩) (v:=?_) (Or.inl ⟨by rfl,?_⟩) ?_
         rotate_left 1
         ·intro w hSw;(try dsimp only at hSw);obtain⟨s0,s1⟩:=hSw;go_simp <;> with_reducible rfl
         try simp only[nA]
         refine tr (i:=2) (oi:=⟨some 115,.load 3 (.tmp 114),3,"ref.go:287",#[⟨1,.data⟩],none⟩) (v:=?_) (Or.inl ⟨by rfl,?_⟩) ?_
         rotate_left 1
         ·intro w hSw;(try dsimp only at hSw);obtain⟨s0,s1⟩:=hSw;go_simp <;> with_reducible rfl
         try simp only[nA]
         refine tr (i:=4) (oi:=⟨some 117,.fieldAddr 55 (.tmp 13) 1,0,"ref.go:287",#[],none⟩) (v:=?_) (Or.inl ⟨by rfl,?_⟩) ?_
         rotate_left 1
         ·intro w hSw;(try dsimp only at hSw);obtain⟨s0,s1⟩:=hSw;go_simp <;> with_reducible rfl
         try simp only[nA]
         refine tr (i:=5) (oi:=⟨some 118,.load 53 (.tmp 117),53,"ref.go:287",#[⟨4,.data⟩],none⟩) (v:=?_) (Or.inl ⟨by rfl,?_⟩) ?_
         rotate_left 1
         ·intro w hSw;(try dsimp only at hSw);obtain⟨s0,s1⟩:=hSw;go_simp <;> with_reducible rfl
         try simp only[nA]
         have P1:=HD (wput_b hB.out.st.rb hB.out.st.sz (by first | omega | (simp only[List.length_append,b4_len];omega)) x.cls c64);refine wpAnyH_ready (rs:=[3]) (by kernel_rfl) (by simp) ?_;refine AllReadyH.cons (o:=⟨some 116,.call { callee:=.value (.func 26),args:=#[.tmp 113,.tmp 115],argTypes:=#[36,3] },36,"ref.go:287",#[⟨0,.data⟩,⟨2,.data⟩],none⟩) rfl (fun K9 hK=>?_) ?_
         ·go_simp
          with_reducible refine (P1.out).mono ?_
          rintro e z0 ⟨r0,rfl,hR⟩;replace hB:=HD (hB.out.step hR);clear hR P1
          go_wp2_with fail
          refine hK.out _ _ ?_ ?_
          ·(try dsimp only);exact hB.out.s2
          clear hK K9 hHeld;intro hHeld
          try simp only[nA]
          have P1:=HD (wvals_c (by omega) pf.out hB.out.st.bel hB.out.st.rb hB.out.st.sz (by first | omega | (simp only[List.length_append,b4_len];omega)) (by omega));refine wpAnyH_ready (rs:=[6]) (by kernel_rfl) (by simp) ?_;refine AllReadyH.cons (o:=⟨some 119,.call { callee:=.value (.func 28),args:=#[.tmp 116,.tmp 118],argTypes:=#[36,53] },36,"ref.go:287",#[⟨3,.data⟩,⟨5,.data⟩,⟨3,.chain⟩],none⟩) rfl (fun K9 hK=>?_) ?_
          ·go_simp
           with_reducible refine (P1.out).mono ?_
           rintro e z1 ⟨r1,rfl,hR⟩;replace hB:=HD (hB.out.step hR);clear hR P1
           go_wp2_with fail
           refine hK.out _ _ ?_ ?_
           ·(try dsimp only);exact hB.out.s2
           clear hK K9 hHeld;intro hHeld
           try simp only[nA]
           refine tr (i:=7) (oi:=⟨some 3,.assign (.tmp 119),36,"ref.go:287",#[⟨6,.data⟩,⟨6,.chain⟩,⟨0,.phase⟩,⟨1,.phase⟩,⟨2,.phase⟩,⟨3,.phase⟩,⟨4,.phase⟩,⟨5,.phase⟩,⟨6,.phase⟩],none⟩) (v:=?_) (Or.inl ⟨by rfl,?_⟩) ?_
           rotate_left 1
           ·intro w hSw;(try dsimp only at hSw);obtain⟨s0,s1⟩:=hSw;go_simp <;> with_reducible rfl
           try simp only[nA]
           refine wpAnyH_done (by kernel_rfl) ?_ _;have hfin:Hid (BY w z1 (.slice na l1 nc) (.slice ca l2 cc) (.slice ma l3 mc) (.slice (some ⟨g,off,none⟩) l4 oc) U.main r1 (([84,87,49,0]++rowB txt U.names++rowB clB U.classes++rowB mtB U.methods)++b4 l4++fl obB (U.objects.take (k+1)))):=HD (by
            have h:=hB.out.st;rw[hnx.out,← List.append_assoc,← hnx'.out];unfold obB;simp only[List.append_assoc] at h ⊢;exact h)
           go_wp2
           go_roundw
           case rel=>exact⟨k+1,by omega,by go_num,hfin⟩
           case measure=>simp[intOf];omega
          exact AllReadyH.nil
         exact AllReadyH.nil
        ·as_aux_lemma =>
         have hlt':decide ((k:Int) < (l4:Int))=false:=by simp;omega
         obtain rfl:l4=k:=by omega
         replace hS:Hid (BY w wr (.slice na l1 nc) (.slice ca l2 cc) (.slice ma l3 mc) (.slice oa l4 oc) U.main u3 (([84,87,49,0]++rowB txt U.names++rowB clB U.classes++rowB mtB U.methods)++rowB obB U.objects)):=HD (by
          have h:=hS.out;rw[gg.out.2.2.2,List.take_length,← gg.out.2.2.2,List.append_assoc] at h;rw[rowB_fl obB,← gg.out.2.2.2];exact h)
         obtain⟨y0,y1,y2,y3,y4⟩:=hS.out.five;have hL0:(([84,87,49,0]++rowB txt U.names++rowB clB U.classes++rowB mtB U.methods)++rowB obB U.objects:List Int).length≤500004:=by have h500:=hz4.out;simp only[List.length_append,List.length_cons,List.length_nil];omega
         have P1:=HD (wput_a hS.out.rb hS.out.sz (by omega) U.main)
         go_wp2_with (first | (go_at_call 26;((with_reducible refine P1.out.mono ?_);rintro e1 w1 ⟨x1,rfl,hR1⟩;replace hS:=HD (hS.out.step hR1);clear P1 hR1)))
         have hfin:BY w w1 (.slice na l1 nc) (.slice ca l2 cc) (.slice ma l3 mc) (.slice oa l4 oc) U.main x1 (bytesU U):=by
          have h:=hS.out;unfold bytesU bodyU;simp only[List.append_assoc] at h ⊢;exact h
         replace hfin:=HD hfin;go_ret;exact⟨_,rfl,hfin.out.rb,hfin.out.bel⟩
structure RS (w y:World) (p:Nat) (v:Value) (s:Rd8):Prop where
 h:y.heap[p]?=some (.cells #[v,.bool s.2] 103 (0,0))
 b:ByV w v s.1
 bel:Below w.heap.size w y
 lo:w.heap.size≤p
 f:∃ g off n cap,v=.slice (some ⟨g,off,none⟩) n cap
theorem cells_at {w:World} {g:Nat} {cs:Array Value} {T:TypeId} {fr:Nat × Nat} (h:w.heap[g]?=some (.cells cs T fr)) {o:Nat} {x:Value} (hx:cs[o]?=some x):w.cell? ⟨g,o,none⟩=some x:=by
 simp only[World.cell?,h];simpa using hx
theorem loose_at {w:World} {g:Nat} {cs:Array Value} {T:TypeId} (h:w.heap[g]?=some (.cells cs T (0,0))) (o:Nat):w.frozen? ⟨g,o,none⟩=false:=by
 simp[World.frozen?,h]
section
variable {w y y1:World} {p:Nat} {v:Value} {s:Rd8}
theorem RS.c0 (h:RS w y p v s):y.cell? ⟨p,0,none⟩=some v:=cells_at h.h rfl
theorem RS.c1 (h:RS w y p v s):y.cell? ⟨p,1,none⟩=some (.bool s.2):=cells_at h.h rfl
theorem RS.z (h:RS w y p v s) (o:Nat):y.frozen? ⟨p,o,none⟩=false:=loose_at h.h o
theorem RS.lt (h:RS w y p v s):p < y.heap.size:=(Array.getElem?_eq_some_iff.1 h.h).1
theorem RS.up (h:RS w y p v s) (b:Below y.heap.size y y1):RS w y1 p v s:=⟨(b.block p h.lt).trans h.h,h.b,h.bel.trans (b.mono h.bel.size),h.lo,h.f⟩
theorem RS.set1 (h:RS w y p v s) (b:Bool):RS w (y.setCell ⟨p,1,none⟩ (.bool b)) p v (s.1,b)∧Cg (fun k=>k=p) y (y.setCell ⟨p,1,none⟩ (.bool b)):=by
 have c:=(Cg.refl (fun k=>k=p) y).set ⟨p,1,none⟩ rfl (.bool b);refine⟨⟨?_,h.b,wr_bel c (fun k e=>e ▸ h.lo) (Nat.le_refl _) h.bel,h.lo,h.f⟩,c⟩;rw[setCell_eq_setRow y p 1 _ _ _ _ h.h];exact setRow_heap y p _ _ _ _ h.h
theorem RS.set0 (h:RS w y p v s) {v':Value} {L:List Int} (hv:ByV w v' L) (hf:∃ g off n cap,v'=.slice (some ⟨g,off,none⟩) n cap):RS w (y.setCell ⟨p,0,none⟩ v') p v' (L,s.2)∧Cg (fun k=>k=p) y (y.setCell ⟨p,0,none⟩ v'):=by
 have c:=(Cg.refl (fun k=>k=p) y).set ⟨p,0,none⟩ rfl v';refine⟨⟨?_,hv,wr_bel c (fun k e=>e ▸ h.lo) (Nat.le_refl _) h.bel,h.lo,hf⟩,c⟩;rw[setCell_eq_setRow y p 0 _ _ _ _ h.h];exact setRow_heap y p _ _ _ _ h.h
end
theorem numR_no {s:Rd8} (h:s.2=true∨s.1.length < 4):numR s=(0,(s.1,true)):=by
 obtain⟨L,b⟩:=s
 match L,b,h with
 | [],b,h=>rfl
 | [_],b,h=>rfl
 | [_,_],b,h=>rfl
 | [_,_,_],b,h=>rfl
 | _ :: _ :: _ :: _ :: _,true,h=>rfl
 | _ :: _ :: _ :: _ :: _,false,h=>simp at h;omega
theorem num_or (a b c d:Nat) (hb:b < 256) (hc:c < 256) (hd:d < 256):((a*16777216 ||| b*65536) ||| c*256) ||| d=a*16777216+b*65536+c*256+d:=by
 have h1:a*16777216 ||| b*65536=a*16777216+b*65536:=by
  have:=Nat.two_pow_add_eq_or_of_lt (i:=24) (b:=b*65536) (by omega) a;rw[Nat.mul_comm] at this;exact this.symm
 have h2:(a*16777216+b*65536) ||| c*256=a*16777216+b*65536+c*256:=by
  have:=Nat.two_pow_add_eq_or_of_lt (i:=16) (b:=c*256) (by omega) (a*256+b);rw[show 2 ^ 16*(a*256+b)=a*16777216+b*65536 by omega] at this;exact this.symm
 have h3:(a*16777216+b*65536+c*256) ||| d=a*16777216+b*65536+c*256+d:=by
  have:=Nat.two_pow_add_eq_or_of_lt (i:=8) (b:=d) (by omega) (a*65536+b*256+c);rw[show 2 ^ 8*(a*65536+b*256+c)=a*16777216+b*65536+c*256 by omega] at this;exact this.symm
 rw[h1,h2,h3]
theorem bits_or32 (a b:Nat) (ha:a < 4294967296) (hb:b < 4294967296):bits .or .u32 (a:Int) (b:Int)=((a ||| b:Nat):Int):=by
 have hx:a ||| b < 2 ^ 32:=Nat.or_lt_two_pow (by omega) (by omega);have h1:(BitVec.ofInt 32 (a:Int)).toNat=a:=by
  rw[BitVec.ofInt_natCast,BitVec.toNat_ofNat];exact Nat.mod_eq_of_lt (by omega)
 have h2:(BitVec.ofInt 32 (b:Int)).toNat=b:=by
  rw[BitVec.ofInt_natCast,BitVec.toNat_ofNat];exact Nat.mod_eq_of_lt (by omega)
 show IntKind.u32.wrap ((BitVec.ofInt 32 (a:Int) ||| BitVec.ofInt 32 (b:Int)).toNat:Int)=_;rw[BitVec.toNat_or,h1,h2,IntKind.wrap_u32];omega
theorem wrap_num (x:Int) (h:0≤x∧x < 4294967296):IntKind.i64.wrap (IntKind.i32.wrap x)=i32 x:=by
 obtain⟨h1,h2⟩:=h;rw[IntKind.wrap_i32,IntKind.wrap_i64];unfold i32;by_cases q:x < 2147483648
 ·rw[if_pos q];omega
 ·rw[if_neg q];omega
theorem num_val {a b c d:Int} (ha:0≤a∧a≤255) (hb:0≤b∧b≤255) (hc:0≤c∧c≤255) (hd:0≤d∧d≤255) :
  IntKind.i64.wrap (IntKind.i32.wrap (bits .or .u32 (bits .or .u32 (bits .or .u32 (IntKind.u32.wrap (IntKind.u32.wrap a*16777216)) (IntKind.u32.wrap (IntKind.u32.wrap b*65536))) (IntKind.u32.wrap (IntKind.u32.wrap c*256))) (IntKind.u32.wrap d)))=num4 a b c d:=by
 obtain⟨a,rfl⟩:∃ k:Nat,a=k:=⟨a.toNat,by omega⟩
 obtain⟨b,rfl⟩:∃ k:Nat,b=k:=⟨b.toNat,by omega⟩
 obtain⟨c,rfl⟩:∃ k:Nat,c=k:=⟨c.toNat,by omega⟩
 obtain⟨d,rfl⟩:∃ k:Nat,d=k:=⟨d.toNat,by omega⟩
 have e1:IntKind.u32.wrap (IntKind.u32.wrap (a:Int)*16777216)=((a*16777216:Nat):Int):=by simp only[IntKind.wrap_u32];omega
 have e2:IntKind.u32.wrap (IntKind.u32.wrap (b:Int)*65536)=((b*65536:Nat):Int):=by simp only[IntKind.wrap_u32];omega
 have e3:IntKind.u32.wrap (IntKind.u32.wrap (c:Int)*256)=((c*256:Nat):Int):=by simp only[IntKind.wrap_u32];omega
 have e4:IntKind.u32.wrap (d:Int)=((d:Nat):Int):=by simp only[IntKind.wrap_u32];omega
 have l1:a*16777216 ||| b*65536 < 4294967296:=Nat.or_lt_two_pow (n:=32) (by omega) (by omega);have l2:(a*16777216 ||| b*65536) ||| c*256 < 4294967296:=Nat.or_lt_two_pow (n:=32) l1 (by omega);rw[e1,e2,e3,e4,bits_or32 _ _ (by omega) (by omega),bits_or32 _ _ l1 (by omega),bits_or32 _ _ l2 (by omega),num_or a b c d (by omega) (by omega) (by omega)];rw[wrap_num _ ⟨by omega,by omega⟩];have e5:((a*16777216+b*65536+c*256+d:Nat):Int)=(a:Int)*16777216+(b:Int)*65536+(c:Int)*256+(d:Int):=by omega
 rw[e5];rfl
theorem ByV.drop {w:World} {g off n cap:Nat} {L:List Int} (h:ByV w (.slice (some ⟨g,off,none⟩) n cap) L) (k:Nat) (hk:k≤n):ByV w (.slice (some ⟨g,off+k,none⟩) (n - k) (cap - k)) (L.drop k):=by
 obtain⟨ad',cap',e,h1,h2,h3⟩:=h.ex;cases e;refine⟨some ⟨g,off+k,none⟩,cap - k,by rw[List.length_drop],by rw[List.length_drop];omega,by omega,fun j x hx=>?_⟩;rw[List.getElem?_drop] at hx;obtain⟨b,g',off',e,c⟩:=h3 _ x hx;cases e;exact⟨b,g,off+k,rfl,by rw[show off+k+j=off+(k+j) by omega];exact c⟩
theorem ByV.dropE {w:World} {ad:Option Addr} {n cap:Nat} {L:List Int} (h:ByV w (.slice ad n cap) L) (k:Nat) (hk:k≤n) (hc:cap=k):ByV w (.slice ad (n - k) 0) (L.drop k):=by
 obtain⟨ad',cap',e,h1,h2,h3⟩:=h.ex;cases e;refine⟨ad,0,by rw[List.length_drop],by rw[List.length_drop];omega,by omega,fun j x hx=>?_⟩;have:=(List.getElem?_eq_some_iff.1 hx).1;rw[List.length_drop] at this;omega
set_option maxHeartbeats 16000000 in
theorem num_c {w y:World} {p:Nat} {v:Value} {s:Rd8} (h:RS w y p v s) :
  Calls Tryz.prog 56 #[.pointer (some ⟨p,0,none⟩)] y fun e y'=>e=.returned (.int .i64 (numR s).1)∧(∃ v',RS w y' p v' (numR s).2)∧Cg (fun k=>k=p) y y':=by
 obtain⟨ad,cap,rfl,hcap,hmx⟩:=h.b.form;have hmx':maxLen≤9223372036854775807:=by decide
 by_cases hno:s.2=true∨s.1.length < 4
 ·rw[numR_no hno];obtain⟨L,b⟩:=s;simp only at hno hcap h ⊢;replace h:=HD h;have c0:=h.out.c0;have c1:=h.out.c1;have z1:=h.out.z 1;cases b with
  | true =>
   clear hno;go_enter Tryz.func56,Tryz.ntmps56
   go_wp2
   go_ret;exact⟨rfl,⟨_,(h.out.set1 true).1⟩,(h.out.set1 true).2⟩
  | false =>
   have hlt:decide ((L.length:Int) < 4)=true:=by simp at hno ⊢;omega
   clear hno;go_enter Tryz.func56,Tryz.ntmps56
   go_wp2
   go_ret;exact⟨rfl,⟨_,(h.out.set1 true).1⟩,(h.out.set1 true).2⟩
 ·obtain⟨L,b⟩:=s;simp only at hno hcap h;obtain⟨hb,h4⟩:=not_or.1 hno;simp only[Bool.not_eq_true] at hb;subst hb
  match L,hno,h4,hcap,h with
  | [],_,h4,_,_=>simp at h4
  | [_],_,h4,_,_=>simp at h4
  | [_,_],_,h4,_,_=>simp at h4
  | [_,_,_],_,h4,_,_=>simp at h4
  | a :: b :: c :: d :: M,_,_,hcap,h =>
   obtain⟨a8,g,off,rfl,e0⟩:=h.b.at (k:=0) (x:=a) rfl;obtain⟨b8,_,_,ee,e1⟩:=h.b.at (k:=1) (x:=b) rfl;cases ee;obtain⟨c8,_,_,ee,e2⟩:=h.b.at (k:=2) (x:=c) rfl;cases ee;obtain⟨d8,_,_,ee,e3⟩:=h.b.at (k:=3) (x:=d) rfl;cases ee;have f0:=cell_up h.bel e0;have f1:=cell_up h.bel e1;have f2:=cell_up h.bel e2;have f3:=cell_up h.bel e3;obtain⟨n,hn⟩:∃ n,n=(a :: b :: c :: d :: M).length:=⟨_,rfl⟩
   have hn4:4≤n:=by rw[hn];simp
   rw[← hn] at h hcap;replace hn:=HD hn;have hlt:decide ((n:Int) < 4)=false:=by simp;omega
   replace h:=HD h;have c0:=h.out.c0;have c1:=h.out.c1;have z0:=h.out.z 0;simp only at c1;clear e0 e1 e2 e3;go_enter Tryz.func56,Tryz.ntmps56
   go_wp2
   refine wp_region_held_drew (S:=(fun y=>y.cell? ⟨p,0,none⟩=some (.slice (some ⟨g,off,none⟩) n cap)∧y.cell? ⟨g,off,none⟩=some (.int .u8 a)∧y.cell? ⟨g,off+1,none⟩=some (.int .u8 b)∧y.cell? ⟨g,off+2,none⟩=some (.int .u8 c)∧y.cell? ⟨g,off+3,none⟩=some (.int .u8 d))) (by kernel_rfl) ?_ (fun hHeld=>?_)
   ·(try dsimp only);exact⟨c0,f0,f1,f2,f3⟩
   try simp only[nA]
   clear f0 f1 f2 f3 c0 c1;have i0:0 < n:=by omega
   have i1:(1:Int) < n:=by omega
   have i2:(2:Int) < n:=by omega
   have i3:(3:Int) < n:=by omega
   have i4:4≤n:=hn4;replace h:=HD (h.out.up (Below.refl _ _).drew);have c0:=h.out.c0;have z0':=h.out.z 0;clear z0;refine tr (i:=0) (oi:=⟨some 19,.move (.tmp 0),101,"ref.go:303",#[],none⟩) (v:=?_) (Or.inl ⟨by rfl,?_⟩) ?_
   rotate_left 1
   ·intro w hSw;(try dsimp only at hSw);obtain⟨s0,s1,s2,s3,s4⟩:=hSw;go_simp <;> with_reducible rfl
   try simp only[nA]
   refine tr (i:=1) (oi:=⟨some 20,.nilCheck (.tmp 19),0,"ref.go:303",#[⟨0,.data⟩],none⟩) (v:=?_) (Or.inl ⟨by rfl,?_⟩) ?_
   rotate_left 1
   ·intro w hSw;(try dsimp only at hSw);obtain⟨s0,s1,s2,s3,s4⟩:=hSw;go_simp <;> with_reducible rfl
   try simp only[nA]
   refine tr (i:=2) (oi:=⟨some 21,.fieldAddr 103 (.tmp 20) 0,0,"ref.go:303",#[⟨1,.data⟩],none⟩) (v:=?_) (Or.inl ⟨by rfl,?_⟩) ?_
   rotate_left 1
   ·intro w hSw;(try dsimp only at hSw);obtain⟨s0,s1,s2,s3,s4⟩:=hSw;go_simp <;> with_reducible rfl
   try simp only[nA]
   refine tr (i:=3) (oi:=⟨some 22,.load 36 (.tmp 21),36,"ref.go:303",#[⟨2,.data⟩],none⟩) (v:=?_) (Or.inl ⟨by rfl,?_⟩) ?_
   rotate_left 1
   ·intro w hSw;(try dsimp only at hSw);obtain⟨s0,s1,s2,s3,s4⟩:=hSw;go_simp <;> with_reducible rfl
   try simp only[nA]
   refine tr (i:=4) (oi:=⟨some 23,.indexAddr 36 (.tmp 22) (.const (.int .i64 0)),0,"ref.go:303",#[⟨3,.data⟩],none⟩) (v:=?_) (Or.inl ⟨by rfl,?_⟩) ?_
   rotate_left 1
   ·intro w hSw;(try dsimp only at hSw);obtain⟨s0,s1,s2,s3,s4⟩:=hSw;go_simp <;> with_reducible rfl
   try simp only[nA]
   refine tr (i:=5) (oi:=⟨some 24,.load 5 (.tmp 23),5,"ref.go:303",#[⟨4,.data⟩],none⟩) (v:=?_) (Or.inl ⟨by rfl,?_⟩) ?_
   rotate_left 1
   ·intro w hSw;(try dsimp only at hSw);obtain⟨s0,s1,s2,s3,s4⟩:=hSw;go_simp <;> with_reducible rfl
   try simp only[nA]
   refine tr (i:=6) (oi:=⟨some 25,.convert 5 100 (.tmp 24),100,"ref.go:303",#[⟨5,.data⟩],none⟩) (v:=?_) (Or.inl ⟨by rfl,?_⟩) ?_
   rotate_left 1
   ·intro w hSw;(try dsimp only at hSw);obtain⟨s0,s1,s2,s3,s4⟩:=hSw;go_simp <;> with_reducible rfl
   try simp only[nA]
   refine tr (i:=7) (oi:=⟨some 26,.binOp .shl 100 (.tmp 25) (.const (Value.int IntKind.u64 24)) 38,100,"ref.go:303",#[⟨6,.data⟩],none⟩) (v:=?_) (Or.inl ⟨by rfl,?_⟩) ?_
   rotate_left 1
   ·intro w hSw;(try dsimp only at hSw);obtain⟨s0,s1,s2,s3,s4⟩:=hSw;go_simp <;> with_reducible rfl
   try simp only[nA]
   refine tr (i:=8) (oi:=⟨some 27,.move (.tmp 0),101,"ref.go:303",#[],none⟩) (v:=?_) (Or.inl ⟨by rfl,?_⟩) ?_
   rotate_left 1
   ·intro w hSw;(try dsimp only at hSw);obtain⟨s0,s1,s2,s3,s4⟩:=hSw;go_simp <;> with_reducible rfl
   try simp only[nA]
   refine tr (i:=9) (oi:=⟨some 28,.nilCheck (.tmp 27),0,"ref.go:303",#[⟨8,.data⟩],none⟩) (v:=?_) (Or.inl ⟨by rfl,?_⟩) ?_
   rotate_left 1
   ·intro w hSw;(try dsimp only at hSw);obtain⟨s0,s1,s2,s3,s4⟩:=hSw;go_simp <;> with_reducible rfl
   try simp only[nA]
   refine tr (i:=10) (oi:=⟨some 29,.fieldAddr 103 (.tmp 28) 0,0,"ref.go:303",#[⟨9,.data⟩],none⟩) (v:=?_) (Or.inl ⟨by rfl,?_⟩) ?_
   rotate_left 1
   ·intro w hSw;(try dsimp only at hSw);obtain⟨s0,s1,s2,s3,s4⟩:=hSw;go_simp <;> with_reducible rfl
   try simp only[nA]
   refine tr (i:=11) (oi:=⟨some 30,.load 36 (.tmp 29),36,"ref.go:303",#[⟨10,.data⟩],none⟩) (v:=?_) (Or.inl ⟨by rfl,?_⟩) ?_
   rotate_left 1
   ·intro w hSw;(try dsimp only at hSw);obtain⟨s0,s1,s2,s3,s4⟩:=hSw;go_simp <;> with_reducible rfl
   try simp only[nA]
   refine tr (i:=12) (oi:=⟨some 31,.indexAddr 36 (.tmp 30) (.const (.int .i64 1)),0,"ref.go:303",#[⟨11,.data⟩],none⟩) (v:=?_) (Or.inl ⟨by rfl,?_⟩) ?_
   rotate_left 1
   ·intro w hSw;(try dsimp only at hSw);obtain⟨s0,s1,s2,s3,s4⟩:=hSw;go_simp <;> with_reducible rfl
   try simp only[nA]
   refine tr (i:=13) (oi:=⟨some 32,.load 5 (.tmp 31),5,"ref.go:303",#[⟨12,.data⟩],none⟩) (v:=?_) (Or.inl ⟨by rfl,?_⟩) ?_
   rotate_left 1
   ·intro w hSw;(try dsimp only at hSw);obtain⟨s0,s1,s2,s3,s4⟩:=hSw;go_simp <;> with_reducible rfl
   try simp only[nA]
   refine tr (i:=14) (oi:=⟨some 33,.convert 5 100 (.tmp 32),100,"ref.go:303",#[⟨13,.data⟩],none⟩) (v:=?_) (Or.inl ⟨by rfl,?_⟩) ?_
   rotate_left 1
   ·intro w hSw;(try dsimp only at hSw);obtain⟨s0,s1,s2,s3,s4⟩:=hSw;go_simp <;> with_reducible rfl
   try simp only[nA]
   refine tr (i:=15) (oi:=⟨some 34,.binOp .shl 100 (.tmp 33) (.const (Value.int IntKind.u64 16)) 38,100,"ref.go:303",#[⟨14,.data⟩],none⟩) (v:=?_) (Or.inl ⟨by rfl,?_⟩) ?_
   rotate_left 1
   ·intro w hSw;(try dsimp only at hSw);obtain⟨s0,s1,s2,s3,s4⟩:=hSw;go_simp <;> with_reducible rfl
   try simp only[nA]
   refine tr (i:=16) (oi:=⟨some 35,.binOp .or 100 (.tmp 26) (.tmp 34) 100,100,"ref.go:303",#[⟨7,.data⟩,⟨15,.data⟩],none⟩) (v:=?_) (Or.inl ⟨by rfl,?_⟩) ?_
   rotate_left 1
   ·intro w hSw;(try dsimp only at hSw);obtain⟨s0,s1,s2,s3,s4⟩:=hSw;go_simp <;> with_reducible rfl
   try simp only[nA]
   refine tr (i:=17) (oi:=⟨some 36,.move (.tmp 0),101,"ref.go:303",#[],none⟩) (v:=?_) (Or.inl ⟨by rfl,?_⟩) ?_
   rotate_left 1
   ·intro w hSw;(try dsimp only at hSw);obtain⟨s0,s1,s2,s3,s4⟩:=hSw;go_simp <;> with_reducible rfl
   try simp only[nA]
   refine tr (i:=18) (oi:=⟨some 37,.nilCheck (.tmp 36),0,"ref.go:303",#[⟨17,.data⟩],none⟩) (v:=?_) (Or.inl ⟨by rfl,?_⟩) ?_
   rotate_left 1
   ·intro w hSw;(try dsimp only at hSw);obtain⟨s0,s1,s2,s3,s4⟩:=hSw;go_simp <;> with_reducible rfl
   try simp only[nA]
   refine tr (i:=19) (oi:=⟨some 38,.fieldAddr 103 (.tmp 37) 0,0,"ref.go:303",#[⟨18,.data⟩],none⟩) (v:=?_) (Or.inl ⟨by rfl,?_⟩) ?_
   rotate_left 1
   ·intro w hSw;(try dsimp only at hSw);obtain⟨s0,s1,s2,s3,s4⟩:=hSw;go_simp <;> with_reducible rfl
   try simp only[nA]
   refine tr (i:=20) (oi:=⟨some 39,.load 36 (.tmp 38),36,"ref.go:303",#[⟨19,.data⟩],none⟩) (v:=?_) (Or.inl ⟨by rfl,?_⟩) ?_
   rotate_left 1
   ·intro w hSw;(try dsimp only at hSw);obtain⟨s0,s1,s2,s3,s4⟩:=hSw;go_simp <;> with_reducible rfl
   try simp only[nA]
   refine tr (i:=21) (oi:=⟨some 40,.indexAddr 36 (.tmp 39) (.const (.int .i64 2)),0,"ref.go:303",#[⟨20,.data⟩],none⟩) (v:=?_) (Or.inl ⟨by rfl,?_⟩) ?_
   rotate_left 1
   ·intro w hSw;(try dsimp only at hSw);obtain⟨s0,s1,s2,s3,s4⟩:=hSw;go_simp <;> with_reducible rfl
   try simp only[nA]
   refine tr (i:=22) (oi:=⟨some 41,.load 5 (.tmp 40),5,"ref.go:303",#[⟨21,.data⟩],none⟩) (v:=?_) (Or.inl ⟨by rfl,?_⟩) ?_
   rotate_left 1
   ·intro w hSw;(try dsimp only at hSw);obtain⟨s0,s1,s2,s3,s4⟩:=hSw;go_simp <;> with_reducible rfl
   try simp only[nA]
   refine tr (i:=23) (oi:=⟨some 42,.convert 5 100 (.tmp 41),100,"ref.go:303",#[⟨22,.data⟩],none⟩) (v:=?_) (Or.inl ⟨by rfl,?_⟩) ?_
   rotate_left 1
   ·intro w hSw;(try dsimp only at hSw);obtain⟨s0,s1,s2,s3,s4⟩:=hSw;go_simp <;> with_reducible rfl
   try simp only[nA]
   refine tr (i:=24) (oi:=⟨some 43,.binOp .shl 100 (.tmp 42) (.const (Value.int IntKind.u64 8)) 38,100,"ref.go:303",#[⟨23,.data⟩],none⟩) (v:=?_) (Or.inl ⟨by rfl,?_⟩) ?_
   rotate_left 1
   ·intro w hSw;(try dsimp only at hSw);obtain⟨s0,s1,s2,s3,s4⟩:=hSw;go_simp <;> with_reducible rfl
   try simp only[nA]
   refine tr (i:=25) (oi:=⟨some 44,.binOp .or 100 (.tmp 35) (.tmp 43) 100,100,"ref.go:303",#[⟨16,.data⟩,⟨24,.data⟩],none⟩) (v:=?_) (Or.inl ⟨by rfl,?_⟩) ?_
   rotate_left 1
   ·intro w hSw;(try dsimp only at hSw);obtain⟨s0,s1,s2,s3,s4⟩:=hSw;go_simp <;> with_reducible rfl
   try simp only[nA]
   refine tr (i:=26) (oi:=⟨some 45,.move (.tmp 0),101,"ref.go:303",#[],none⟩) (v:=?_) (Or.inl ⟨by rfl,?_⟩) ?_
   rotate_left 1
   ·intro w hSw;(try dsimp only at hSw);obtain⟨s0,s1,s2,s3,s4⟩:=hSw;go_simp <;> with_reducible rfl
   try simp only[nA]
   refine tr (i:=27) (oi:=⟨some 46,.nilCheck (.tmp 45),0,"ref.go:303",#[⟨26,.data⟩],none⟩) (v:=?_) (Or.inl ⟨by rfl,?_⟩) ?_
   rotate_left 1
   ·intro w hSw;(try dsimp only at hSw);obtain⟨s0,s1,s2,s3,s4⟩:=hSw;go_simp <;> with_reducible rfl
   try simp only[nA]
   refine tr (i:=28) (oi:=⟨some 47,.fieldAddr 103 (.tmp 46) 0,0,"ref.go:303",#[⟨27,.data⟩],none⟩) (v:=?_) (Or.inl ⟨by rfl,?_⟩) ?_
   rotate_left 1
   ·intro w hSw;(try dsimp only at hSw);obtain⟨s0,s1,s2,s3,s4⟩:=hSw;go_simp <;> with_reducible rfl
   try simp only[nA]
   refine tr (i:=29) (oi:=⟨some 48,.load 36 (.tmp 47),36,"ref.go:303",#[⟨28,.data⟩],none⟩) (v:=?_) (Or.inl ⟨by rfl,?_⟩) ?_
   rotate_left 1
   ·intro w hSw;(try dsimp only at hSw);obtain⟨s0,s1,s2,s3,s4⟩:=hSw;go_simp <;> with_reducible rfl
   try simp only[nA]
   refine tr (i:=30) (oi:=⟨some 49,.indexAddr 36 (.tmp 48) (.const (.int .i64 3)),0,"ref.go:303",#[⟨29,.data⟩],none⟩) (v:=?_) (Or.inl ⟨by rfl,?_⟩) ?_
   rotate_left 1
   ·intro w hSw;(try dsimp only at hSw);obtain⟨s0,s1,s2,s3,s4⟩:=hSw;go_simp <;> with_reducible rfl
   try simp only[nA]
   refine tr (i:=31) (oi:=⟨some 50,.load 5 (.tmp 49),5,"ref.go:303",#[⟨30,.data⟩],none⟩) (v:=?_) (Or.inl ⟨by rfl,?_⟩) ?_
   rotate_left 1
   ·intro w hSw;(try dsimp only at hSw);obtain⟨s0,s1,s2,s3,s4⟩:=hSw;go_simp <;> with_reducible rfl
   try simp only[nA]
   refine tr (i:=32) (oi:=⟨some 51,.convert 5 100 (.tmp 50),100,"ref.go:303",#[⟨31,.data⟩],none⟩) (v:=?_) (Or.inl ⟨by rfl,?_⟩) ?_
   rotate_left 1
   ·intro w hSw;(try dsimp only at hSw);obtain⟨s0,s1,s2,s3,s4⟩:=hSw;go_simp <;> with_reducible rfl
   try simp only[nA]
   refine tr (i:=33) (oi:=⟨some 52,.binOp .or 100 (.tmp 44) (.tmp 51) 100,100,"ref.go:303",#[⟨25,.data⟩,⟨32,.data⟩],none⟩) (v:=?_) (Or.inl ⟨by rfl,?_⟩) ?_
   rotate_left 1
   ·intro w hSw;(try dsimp only at hSw);obtain⟨s0,s1,s2,s3,s4⟩:=hSw;go_simp <;> with_reducible rfl
   try simp only[nA]
   refine tr (i:=34) (oi:=⟨some 53,.convert 100 21 (.tmp 52),21,"ref.go:303",#[⟨33,.data⟩],none⟩) (v:=?_) (Or.inl ⟨by rfl,?_⟩) ?_
   rotate_left 1
   ·intro w hSw;(try dsimp only at hSw);obtain⟨s0,s1,s2,s3,s4⟩:=hSw;go_simp <;> with_reducible rfl
   try simp only[nA]
   refine tr (i:=35) (oi:=⟨some 54,.convert 21 3 (.tmp 53),3,"ref.go:303",#[⟨34,.data⟩],none⟩) (v:=?_) (Or.inl ⟨by rfl,?_⟩) ?_
   rotate_left 1
   ·intro w hSw;(try dsimp only at hSw);obtain⟨s0,s1,s2,s3,s4⟩:=hSw;go_simp <;> with_reducible rfl
   try simp only[nA]
   refine tr (i:=36) (oi:=⟨some 3,.assign (.tmp 54),3,"ref.go:303",#[⟨35,.data⟩,⟨0,.phase⟩,⟨1,.phase⟩,⟨2,.phase⟩,⟨3,.phase⟩,⟨4,.phase⟩,⟨5,.phase⟩,⟨6,.phase⟩,⟨7,.phase⟩,⟨8,.phase⟩,⟨9,.phase⟩,⟨10,.phase⟩,⟨11,.phase⟩,⟨12,.phase⟩,⟨13,.phase⟩,⟨14,.phase⟩,⟨15,.phase⟩,⟨16,.phase⟩,⟨17,.phase⟩,⟨18,.phase⟩,⟨19,.phase⟩,⟨20,.phase⟩,⟨21,.phase⟩,⟨22,.phase⟩,⟨23,.phase⟩,⟨24,.phase⟩,⟨25,.phase⟩,⟨26,.phase⟩,⟨27,.phase⟩,⟨28,.phase⟩,⟨29,.phase⟩,⟨30,.phase⟩,⟨31,.phase⟩,⟨32,.phase⟩,⟨33,.phase⟩,⟨34,.phase⟩,⟨35,.phase⟩],none⟩) (v:=?_) (Or.inl ⟨by rfl,?_⟩) ?_
   rotate_left 1
   ·intro w hSw;(try dsimp only at hSw);obtain⟨s0,s1,s2,s3,s4⟩:=hSw;go_simp <;> with_reducible rfl
   try simp only[nA]
   refine wpAnyH_done (by kernel_rfl) ?_ _
   rename Hid (RS _ _ _ _ _)=>hR
   have hnv:=num_val a8 b8 c8 d8;have hbv:=hR.out.b
   go_wp2
   ·go_ret
    rename cap=4=>hc4
    have hq:=hR.out.set0 (ByV.dropE hbv 4 hn4 hc4) ⟨_,_,_,_,rfl⟩;exact⟨rfl,⟨_,hq.1⟩,((Cg.refl _ y).drew).trans hq.2⟩
   ·go_ret;have hq:=hR.out.set0 (ByV.drop hbv 4 hn4) ⟨_,_,_,_,rfl⟩;exact⟨rfl,⟨_,hq.1⟩,((Cg.refl _ y).drew).trans hq.2⟩
end Wd
end Go.Proofs.YtgfnelhbdhbklaaGreat
namespace Go.Proofs.YtgfnelhbdhbklaaGreat
open Go.RowKit
set_option linter.unusedVariables false
set_option maxRecDepth 20000
namespace Wd
set_option maxHeartbeats 16000000 in
theorem count_c {w y:World} {p:Nat} {v:Value} {s:Rd8} (h:RS w y p v s) :
  Calls Tryz.prog 53 #[.pointer (some ⟨p,0,none⟩)] y fun e y'=>e=.returned (.int .i64 (cntR s).1)∧(∃ v',RS w y' p v' (cntR s).2)∧Cg (fun k=>k=p) y y':=by
 have hmx':maxLen≤9223372036854775807:=by decide
 have P0:=num_c h;rcases hx:numR s with ⟨x,M,b⟩;have hcn:cntR s=if x < 0∨(M.length:Int) < x then (0,(M,true)) else (x,(M,b)):=by unfold cntR;rw[hx]
 rw[hx] at P0;rw[hcn];have P1:=HD P0;clear P0 h hcn hx;obtain⟨n,hn⟩:∃ n,n=M.length:=⟨_,rfl⟩
 rw[← hn];replace hn:=HD hn;by_cases hno:x < 0∨(n:Int) < x
 ·rw[if_pos hno];by_cases hneg:x < 0
  ·have d0:decide (x < 0)=true:=by simpa using hneg
   clear hno hneg;go_enter Tryz.func53,Tryz.ntmps53
   go_upto_region 2 with (first | (go_at_call 56;((with_reducible refine P1.out.mono ?_);rintro e1 y1 ⟨rfl,⟨v1,hR⟩,hc⟩)))
   clear P1;obtain⟨ad,cap,rfl,hcap,hmx⟩:=hR.b.form;simp only at hcap;rw[← hn.out] at hR hcap;replace hR:=HD hR;replace hc:=HD hc;have c0:=hR.out.c0;have c1:=hR.out.c1;have z1:=hR.out.z 1
   go_wp2
   go_ret;exact⟨rfl,⟨_,(hR.out.set1 true).1⟩,hc.out.trans (hR.out.set1 true).2⟩
  ·have d0:decide (x < 0)=false:=by simpa using hneg
   have d1:decide ((n:Int) < x)=true:=by simp;omega
   clear hno hneg;go_enter Tryz.func53,Tryz.ntmps53
   go_upto_region 2 with (first | (go_at_call 56;((with_reducible refine P1.out.mono ?_);rintro e1 y1 ⟨rfl,⟨v1,hR⟩,hc⟩)))
   clear P1;obtain⟨ad,cap,rfl,hcap,hmx⟩:=hR.b.form;simp only at hcap;rw[← hn.out] at hR hcap;replace hR:=HD hR;replace hc:=HD hc;have c0:=hR.out.c0;have c1:=hR.out.c1;have z1:=hR.out.z 1
   go_wp2
   go_ret;exact⟨rfl,⟨_,(hR.out.set1 true).1⟩,hc.out.trans (hR.out.set1 true).2⟩
 ·rw[if_neg hno];have d0:decide (x < 0)=false:=by simp;omega
  have d1:decide ((n:Int) < x)=false:=by simp;omega
  clear hno;go_enter Tryz.func53,Tryz.ntmps53
  go_upto_region 2 with (first | (go_at_call 56;((with_reducible refine P1.out.mono ?_);rintro e1 y1 ⟨rfl,⟨v1,hR⟩,hc⟩)))
  clear P1;obtain⟨ad,cap,rfl,hcap,hmx⟩:=hR.b.form;simp only at hcap;rw[← hn.out] at hR hcap;replace hR:=HD hR;replace hc:=HD hc;have c0:=hR.out.c0;have c1:=hR.out.c1;have z1:=hR.out.z 1
  go_wp2
  go_ret;exact⟨rfl,⟨_,hR.out⟩,hc.out⟩
theorem cnt_bd (s:Rd8):0≤(cntR s).1∧(cntR s).1≤(cntR s).2.1.length:=by
 unfold cntR;simp only
 split
 ·exact⟨Int.le_refl _,by simp only;omega⟩
 ·omega
set_option maxHeartbeats 16000000 in
theorem rtext_c {w y:World} {p:Nat} {v:Value} {s:Rd8} (h:RS w y p v s) :
  Calls Tryz.prog 54 #[.pointer (some ⟨p,0,none⟩)] y fun e y'=>e=.returned (.string (nmR s).1)∧(∃ v',RS w y' p v' (nmR s).2)∧Cg (fun k=>k=p) y y':=by
 have hmx':maxLen≤9223372036854775807:=by decide
 have P0:=count_c h;have hbd:=cnt_bd s;have hnm:nmR s=(textOf ((cntR s).2.1.take (cntR s).1.toNat),((cntR s).2.1.drop (cntR s).1.toNat,(cntR s).2.2)):=rfl;rw[hnm];clear hnm;generalize cntR s=r at P0 hbd ⊢;obtain⟨x,M,b⟩:=r;replace hbd:0≤x∧x≤(M.length:Int):=hbd;obtain⟨k,rfl⟩:∃ k:Nat,x=k:=⟨x.toNat,by omega⟩
 have hkM:k≤M.length:=by omega
 have hkn:((k:Int)).toNat=k:=by omega
 simp only[hkn];have P1:=HD P0;clear P0 h hbd hkn;go_enter Tryz.func54,Tryz.ntmps54
 go_upto_region 2 with (first | (go_at_call 53;((with_reducible refine P1.out.mono ?_);rintro e1 y1 ⟨rfl,⟨v1,hR⟩,hc⟩)))
 clear P1;obtain⟨g,off,n,cap,rfl⟩:=hR.f;obtain⟨_,_,ev,hcap,hmx⟩:=hR.b.form;cases ev;obtain⟨n,hn⟩:∃ n,n=M.length:=⟨_,rfl⟩
 replace hcap:M.length≤cap:=hcap;have PC:=by_text ((ByV.take hR.b k hkM).up hR.bel);rw[← hn] at hR hcap hkM;have hbv:=HD hR.b;replace hn:=HD hn;replace hR:=HD hR;replace hc:=HD hc;have c0:=hR.out.c0;have z0:=hR.out.z 0
 go_wp2
 ·go_ret
  rename cap=k=>hck
  have hq:=hR.out.set0 (ByV.dropE hbv.out k hkM hck) ⟨_,_,_,_,rfl⟩;exact⟨rfl,⟨_,hq.1⟩,hc.out.trans hq.2⟩
 ·go_ret;have hq:=hR.out.set0 (ByV.drop hbv.out k hkM) ⟨_,_,_,_,rfl⟩;exact⟨rfl,⟨_,hq.1⟩,hc.out.trans hq.2⟩
end Wd
end Go.Proofs.YtgfnelhbdhbklaaGreat
namespace Go.Proofs.YtgfnelhbdhbklaaGreat
open Go.RowKit
set_option linter.unusedVariables false
set_option maxRecDepth 20000
namespace Wd
theorem RS.cg {w y y1:World} {p:Nat} {v:Value} {s:Rd8} {F:Nat→Prop} (h:RS w y p v s) (c:Cg F y y1) (hF:∀ k,F k→k≠p∧w.heap.size≤k):RS w y1 p v s :=
 ⟨(c.block p h.lt (fun e=>(hF p e).1 rfl)).trans h.h,h.b,wr_bel c (fun k e=>(hF k e).2) (Nat.le_refl _) h.bel,h.lo,h.f⟩
theorem cntR_len (s:Rd8):(cntR s).2.1.length≤s.1.length:=by
 have hn:(numR s).2.1.length≤s.1.length:=by
  by_cases hno:s.2=true∨s.1.length < 4
  ·rw[numR_no hno];exact Nat.le_refl _
  ·obtain⟨L,b⟩:=s;obtain⟨hb,h4⟩:=not_or.1 hno;simp only[Bool.not_eq_true] at hb;subst hb
   match L,h4 with
   | [],h4=>simp at h4
   | [_],h4=>simp at h4
   | [_,_],h4=>simp at h4
   | [_,_,_],h4=>simp at h4
   | a :: b :: c :: d :: M,_=>show M.length≤_;simp;omega
 unfold cntR;simp only
 split <;> exact hn
set_option maxHeartbeats 16000000 in
theorem vals_c {w y:World} {p:Nat} {v:Value} {s:Rd8} (h:RS w y p v s) (hs:s.1.length≤100000) :
  Calls Tryz.prog 57 #[.pointer (some ⟨p,0,none⟩)] y fun e y'=>(∃ v',e=.returned v'∧y'.ownsRow y.heap.size 68 2 v' (rowR prR s).1.length (pr2 (rowR prR s).1))∧(∃ v',RS w y' p v' (rowR prR s).2)∧Cg (fun k=>k=p) y y':=by
 obtain⟨i0,hi0,hz0,hz1,hz2⟩:=info_parts infoVal;have hmx:400000≤maxLen:=by decide
 have P0:=count_c h;have hbd:=cnt_bd s;have hle:=cntR_len s;have hr:rowR prR s=manyR prR (cntR s).1.toNat [] (cntR s).2:=rfl;generalize rowR prR s=R at hr ⊢;have hpy:=h.lt;generalize cntR s=r at P0 hbd hle hr;obtain⟨x,s0⟩:=r;replace hbd:0≤x∧x≤(s0.1.length:Int):=hbd;replace hle:s0.1.length≤s.1.length:=hle;obtain⟨n,rfl⟩:∃ k:Nat,x=k:=⟨x.toNat,by omega⟩
 replace hr:R=manyR prR n [] s0:=hr;have hn1:n≤100000:=by omega
 have P1:=HD P0;have hwp:=h.lo;replace hr:=HD hr;clear P0 h hbd hle hs;go_enter Tryz.func57,Tryz.ntmps57
 go_wp2_with (first | (go_at_call 53;((with_reducible refine P1.out.mono ?_);rintro e1 y1 ⟨rfl,⟨v1,hR⟩,hc⟩)))
 clear P1;replace hR:=HD hR;replace hc:=HD hc;have hO:Hid (y1.ownsRow y.heap.size 68 2 (.slice none 0 0) 0 (pr2 [])):=HD ⟨rfl,Or.inl ⟨rfl,rfl⟩⟩
 go_loopw [3,4] (fun i3 i4 wr=>∃ (j:Nat) (A:List (Int × Int)) (s':Rd8) (v':Value),A.length+j≤n∧i4=.int .i64 j∧Hid (R=manyR prR j A s')∧Hid (RS w wr p v' s')∧Hid (wr.ownsRow y.heap.size 68 2 i3 A.length (pr2 A))∧Hid (Cg (fun k=>k=p) y wr)) (fun _ i4 _=>(intOf i4).toNat)
 case atStart=>exact⟨n,[],s0,_,by simp,rfl,hr,hR,hO,hc⟩
 case round =>
  clear hR hc hO hr;obtain⟨j,A,s',v',hj,rfl,hr,hR,hO,hc⟩:=hrel;have c1:=hR.out.c1;obtain⟨M,b⟩:=s';simp only at c1;cases j with
  | zero =>
   have d1:decide ((0:Int) < ((0:Nat):Int))=false:=by decide
   have hr':R=(A,(M,b)):=hr.out;replace hr':=HD hr';clear hr
   go_wp2
   go_ret;rw[hr'.out];exact⟨⟨_,rfl,hO.out⟩,⟨_,hR.out⟩,hc.out⟩
  | succ j =>
   have d1:decide ((0:Int) < ((j+1:Nat):Int))=true:=by simp
   cases b with
   | true =>
    have hr':R=(A,(M,true)):=hr.out;replace hr':=HD hr';clear hr
    go_wp2
    go_ret;rw[hr'.out];exact⟨⟨_,rfl,hO.out⟩,⟨_,hR.out⟩,hc.out⟩
   | false =>
    have hr':R=manyR prR j (A++[(prR (M,false)).1]) (prR (M,false)).2:=hr.out;have hpr:prR (M,false)=(((numR (M,false)).1,(numR (numR (M,false)).2).1),(numR (numR (M,false)).2).2):=rfl;rw[hpr] at hr';replace hr':=HD hr';clear hr hpr;have P1:=num_c hR.out;generalize numR (M,false)=q1 at P1 hr';obtain⟨a,s1⟩:=q1;replace P1:=HD P1;simp only at hr';have hown0:=hO.out;have hlo:∀ k,(u3:Value).ownBlock=some k→y.heap.size≤k:=fun k e=>(hown0.lt k e).1;replace hlo:=HD hlo;clear hown0
    go_upto_region 6 with (first | (go_at_call 56;((with_reducible refine P1.out.mono ?_);rintro e1 y1 ⟨rfl,⟨v1,hR1⟩,hc1⟩)))
    clear P1;have P2:=num_c hR1;generalize numR s1=q2 at P2 hr';obtain⟨b,s2⟩:=q2;replace P2:=HD P2;simp only at hr';replace hO:=HD (row_cg hO.out hc1 (fun k hk e=>by have:=hlo.out k hk;omega));replace hc:=HD (hc.out.trans hc1);clear hc1 hR1 hR;have hyr:=hc.out.size
    go_wp2_with (first | (go_at_call 56;((with_reducible refine P2.out.mono ?_);rintro e1 y2 ⟨rfl,⟨v2,hR2⟩,hc2⟩;replace hO:=HD (row_cg hO.out hc2 (fun k hk e=>by have:=hlo.out k hk;omega));replace hc:=HD (hc.out.trans hc2);have hys:=hc.out.size;replace hR2:=HD hR2;clear P2 hc2;have hOA:=HD (row_bel hO.out ((Below.refl y2.heap.size y2).alloc (Nat.le_refl _) (.cells #[.int .i64 a,.int .i64 b] 68))))) | (at_builtin;refine wpList_append_lies _ rfl (.tmp 21) (.tmp 26) 53 rfl y.heap.size 68 i0 (.agg #[.int .i64 0,.int .i64 0]) 2 16 Tryz.underlying53 hi0 hz0 hz1 hz2 rfl (by decide) u3 A.length _ (by simp[Act.eval]) hOA.out ⟨y2.heap.size,0,none⟩ 1 1 (pr2 [(a,b)]) (by simp[Act.eval]) (by simp[pr2]) (World.news_of_block (alloc_at _ _ _ rfl)) (pr2_one _) (by omega) (by omega) (by omega) (by simp only[World.size_alloc];omega) _ rfl ?_;intro g1 cap1 w7 hown1 hgrow1 hat1 hlt1))
    have hc3:Cg (fun k=>(u3:Value).ownBlock=some k) y2 w7:=((Cg.refl _ y2).alloc _).grown hgrow1 (fun k e=>Or.inl e);have hl:(A++[(a,b)]).length=A.length+1:=by simp
    refine⟨⟨j,A++[(a,b)],s2,_,by rw[hl];omega,rfl,hr',HD (hR2.out.cg hc3 (fun k e=>?_)),HD (by rw[hl,pr2_app];exact hown1),HD (hc.out.trans' hc3 (fun k e=>Or.inr (hlo.out k e)))⟩,by simp[intOf]⟩;have h1:=hlo.out k e;exact⟨by omega,by omega⟩
theorem first_0:∀ {X:List Int},firstE X=0→∀ e∈X,e=0
 | [],_,e,h=>by cases h
 | a :: X,h0,e,h=>by
  rw[firstE] at h0;by_cases ha:a=0
  ·rw[if_pos ha] at h0;rcases List.mem_cons.1 h with rfl | h
   ·exact ha
   ·exact first_0 h0 e h
  ·rw[if_neg ha] at h0;exact absurd h0 ha
theorem args_16 {s:ByteArray} (h:0≤argsR s):s.size≤16:=by
 unfold argsR at h
 split at h
 ·omega
 ·omega
structure RightU (U:UnitA):Prop where
 nn:U.names.length≤48
 ns:∀ s∈U.names,s.size≤16
 nc:U.classes.length≤12
 cs:∀ c∈U.classes,c.nm.size≤16∧-1≤c.super∧c.super < 12∧0≤c.fields∧c.fields≤62∧c.binds.length≤16∧∀ v∈c.binds,0≤v.1∧v.1 < 48∧0≤v.2∧v.2 < 32
 nm:U.methods.length≤32
 ms:∀ m∈U.methods,0≤m.args∧m.args≤8∧0≤m.temps∧m.temps≤8∧m.lits.length≤16∧(∀ v∈m.lits,0≤v.1∧v.1≤7∧-1073741824≤v.2∧v.2≤1073741823)∧m.code.length≤128
 no:U.objects.length≤40
 os:∀ o∈U.objects,0≤o.cls∧o.cls < 12∧o.flds.length≤62∧∀ v∈o.flds,0≤v.1∧v.1≤4∧-1073741824≤v.2∧v.2≤1073741823
 mn:0≤U.main∧U.main < 32
theorem from_cls {L:List ClassA} {names methods:Int}:∀ (C:List ClassA) (i:Nat),i+C.length≤12→shapeFrom L names methods i C=0→∀ c∈C,c.nm.size≤16∧-1≤c.super∧c.super < 12∧0≤c.fields∧c.fields≤62∧c.binds.length≤16
 | [],_,_,_,c,h=>by cases h
 | d :: C,i,hi,e,c,h=>by
  rw[List.length_cons] at hi;rw[shapeFrom] at e
  split at e
  ·cases e
  ·rename_i ht
   split at e
   ·cases e
   ·split at e
    ·cases e
    ·rename_i hc
     split at e
     ·cases e
     ·rename_i hb;rcases List.mem_cons.1 h with rfl | h
      ·have ht':textOk c.nm=true:=by simpa using ht
       have hc':classOk L i c=true:=by simpa using hc
       have hb':bindsOk c.binds names methods=true:=by simpa using hb
       unfold textOk at ht';unfold classOk at hc';unfold bindsOk at hb';simp only[Bool.and_eq_true,decide_eq_true_iff] at ht' hc' hb';obtain⟨⟨⟨⟨⟨a1,a2⟩,a3⟩,a4⟩,_⟩,_⟩:=hc';exact⟨ht'.2,a1,by omega,a3,a4,hb'.2⟩
      ·exact from_cls C (i+1) (by omega) e c h
theorem right_u {U:UnitA} (h:unitR U=0):RightU U:=by
 have h0:=first_0 h;have hl:longB U=false:=by
  have:=h0 _ (List.mem_cons_self ..);cases hb:longB U with
  | false=>rfl
  | true=>rw[hb] at this;cases this
 have hn:namesB U.names=true:=by
  have:=h0 _ (List.mem_cons_of_mem _ (List.mem_cons_self ..));cases hb:namesB U.names with
  | true=>rfl
  | false=>rw[hb] at this;cases this
 have hs:shapeR U.classes U.names.length U.methods.length=0:=h0 _ (List.mem_cons_of_mem _ (List.mem_cons_of_mem _ (List.mem_cons_self ..)));have hr:∀ e∈restC U 0,e=0:=fun e he=>h0 e (List.mem_cons_of_mem _ (List.mem_cons_of_mem _ (List.mem_cons_of_mem _ he)));have hM:∀ e∈restM U 0,e=0:=fun e he=>hr e (by unfold restC;exact List.mem_append_right _ he);have hO:∀ e∈restO U 0,e=0:=fun e he=>hM e (by unfold restM restA;exact List.mem_append_right _ (List.mem_append_right _ he));have hm:∀ m∈U.methods,metR m U.names.length U.classes.length U.methods.length=0:=fun m hm=>hM _ (by unfold restM;rw[List.drop_zero];exact List.mem_append_left _ (List.mem_map_of_mem hm));have ho:∀ x∈U.objects,objB x U.classes U.objects.length=true:=fun x hx=>by
  have:=hO _ (by unfold restO;rw[List.drop_zero];exact List.mem_append_left _ (List.mem_map_of_mem hx));cases hb:objB x U.classes U.objects.length with
  | true=>rfl
  | false=>rw[hb] at this;cases this
 have hmn:mainE U=0:=hO _ (by unfold restO;simp);unfold longB at hl;simp only[Bool.or_eq_false_iff,decide_eq_false_iff_not] at hl;obtain⟨l1,l2,l3,l4,l5⟩:=hl;have hcl:2≤U.classes.length∧U.classes.length≤12∧shapeFrom U.classes U.names.length U.methods.length 0 U.classes=0:=by
  unfold shapeR at hs
  split at hs
  ·cases hs
  ·split at hs
   ·cases hs
   ·exact⟨by omega,by omega,hs⟩
 refine⟨by omega,fun s h=>?_,hcl.2.1,fun c hc=>?_,by omega,fun m h=>?_,by omega,fun o h=>?_,?_⟩
 ·unfold namesB at hn;simp only[Bool.and_eq_true,List.all_eq_true,decide_eq_true_iff] at hn;exact args_16 (hn.1 s h)
 ·obtain⟨a1,a2,a3,a4,a5,a6⟩:=from_cls U.classes 0 (by omega) hcl.2.2 c hc;refine⟨a1,a2,a3,a4,a5,a6,fun v hv=>?_⟩;obtain⟨k,hk⟩:=List.getElem?_of_mem hc;obtain⟨j,hj⟩:=List.getElem?_of_mem hv;have:=shape_binds hs hk hj;omega
 ·have e:=hm m h;unfold metR at e
  split at e
  ·cases e
  ·rename_i g1
   split at e
   ·cases e
   ·split at e
    ·cases e
    ·split at e
     ·cases e
     ·rename_i g2;have hlit:m.lits.all (fun x=>litR x U.names.length U.classes.length U.methods.length)=true:=by simpa using g2
      refine⟨by omega,by omega,by omega,by omega,by omega,fun v hv=>?_,by omega⟩;have hv':=List.all_eq_true.1 hlit v hv;unfold litR at hv'
      split at hv'
      ·simp only[Bool.and_eq_true,decide_eq_true_iff] at hv';omega
      ·split at hv'
       ·simp only[Bool.and_eq_true,decide_eq_true_iff] at hv';omega
       ·split at hv'
        ·simp only[Bool.and_eq_true,decide_eq_true_iff] at hv';omega
        ·split at hv'
         ·simp only[Bool.and_eq_true,decide_eq_true_iff] at hv';omega
         ·cases hv'
 ·have e:=ho o h;unfold objB at e;rw[Bool.and_eq_true] at e;obtain⟨e1,e2⟩:=e;unfold objHead at e1
  split at e1
  ·cases e1
  ·split at e1
   ·cases e1
   ·rw[decide_eq_true_iff] at e1;refine⟨by omega,by omega,e1,fun v hv=>?_⟩;have hv':=List.all_eq_true.1 e2 v hv;unfold fldOk at hv'
    split at hv'
    ·have:=eq_of_beq hv';omega
    ·split at hv'
     ·unfold num30 at hv';simp only[Bool.and_eq_true,decide_eq_true_iff] at hv';omega
     ·split at hv'
      ·unfold inN at hv';simp only[Bool.and_eq_true,decide_eq_true_iff] at hv';omega
      ·cases hv'
 ·unfold mainE at hmn
  split at hmn
  ·rename_i g;omega
  ·cases hmn
theorem RightU.fit {U:UnitA} (h:RightU U):Fit U:=by
 refine⟨by have:=h.nn;omega,fun s hs=>by have:=h.ns s hs;omega,by have:=h.nc;omega,fun c hc=>?_,by have:=h.nm;omega,fun m hm=>?_,by have:=h.no;omega,fun o ho=>?_,by obtain⟨a,b⟩:=h.mn;exact⟨by omega,by omega⟩⟩
 ·obtain⟨a1,a2,a3,a4,a5,a6,a7⟩:=h.cs c hc;exact⟨by omega,⟨by omega,by omega⟩,⟨by omega,by omega⟩,by omega,fun v hv=>by obtain⟨b1,b2,b3,b4⟩:=a7 v hv;exact⟨⟨by omega,by omega⟩,⟨by omega,by omega⟩⟩⟩
 ·obtain⟨a1,a2,a3,a4,a5,a6,a7⟩:=h.ms m hm;exact⟨⟨by omega,by omega⟩,⟨by omega,by omega⟩,by omega,fun v hv=>by obtain⟨b1,b2,b3,b4⟩:=a6 v hv;exact⟨⟨by omega,by omega⟩,⟨by omega,by omega⟩⟩,by omega⟩
 ·obtain⟨a1,a2,a3,a4⟩:=h.os o ho;exact⟨⟨by omega,by omega⟩,by omega,fun v hv=>by obtain⟨b1,b2,b3,b4⟩:=a4 v hv;exact⟨⟨by omega,by omega⟩,⟨by omega,by omega⟩⟩⟩
theorem flatB_le {T:Type} {g:T→List Int} {k:Nat}:∀ (X:List T),(∀ x∈X,(g x).length≤k)→((X.map g).flatten).length≤X.length*k
 | [],_=>by simp
 | x :: X,h=>by
  have h1:=h x (List.mem_cons_self ..);have h2:=flatB_le X (fun y hy=>h y (List.mem_cons_of_mem _ hy));rw[List.map_cons,List.flatten_cons,List.length_append,List.length_cons,Nat.succ_mul];omega
theorem rowB_le {T:Type} {g:T→List Int} {k n:Nat} {X:List T} (hn:X.length≤n) (h:∀ x∈X,(g x).length≤k):(rowB g X).length≤4+n*k:=by
 have h1:=flatB_le X h;have h2:X.length*k≤n*k:=Nat.mul_le_mul_right k hn;unfold rowB;rw[List.length_append,b4_len];omega
theorem rowP_le {n:Nat} {X:List (Int × Int)} (hn:X.length≤n):(rowP X).length≤4+n*8:=by
 rw[rowP_eq];exact rowB_le hn (fun v _=>by simp[b4])
theorem bytes_le {U:UnitA} (h:RightU U):(bytesU U).length≤31768:=by
 have a1:(rowB txt U.names).length≤4+48*20:=rowB_le h.nn (fun s hs=>by unfold txt;rw[List.length_append,b4_len,tby_len];have:=h.ns s hs;omega);have a2:(rowB clB U.classes).length≤4+12*160:=rowB_le h.nc (fun c hc=>by
  obtain⟨b1,_,_,_,_,b2,_⟩:=h.cs c hc;have:=rowP_le b2;unfold clB txt;simp only[List.length_append,b4_len,tby_len];omega)
 have a3:(rowB mtB U.methods).length≤4+32*272:=rowB_le h.nm (fun m hm=>by
  obtain⟨_,_,_,_,b1,_,b2⟩:=h.ms m hm;have:=rowP_le b1;unfold mtB;simp only[List.length_append,b4_len];omega)
 have a4:(rowB obB U.objects).length≤4+40*504:=rowB_le h.no (fun o ho=>by
  obtain⟨_,_,b1,_⟩:=h.os o ho;have:=rowP_le b1;unfold obB;simp only[List.length_append,b4_len];omega)
 unfold bytesU bodyU;simp only[List.length_append,b4_len,List.length_cons,List.length_nil];omega
theorem bytes_inj {U V:UnitA} (hu:unitR U=0) (hv:unitR V=0) (h:bytesU U=bytesU V):U=V:=by
 have e:bodyU U=bodyU V:=List.append_cancel_left h;have h1:=unR_body (right_u hu).fit;have h2:=unR_body (right_u hv).fit;rw[e,h2] at h1;exact (congrArg Prod.fst h1).symm
def cutR (n:Int) (s:Rd8):List Int × Rd8:=if (s.1.length:Int) < n then ([],(s.1,true)) else (s.1.take n.toNat,(s.1.drop n.toNat,s.2))
def numL:Rd8→Int × Rd8
 | (a :: b :: c :: d :: L,f)=>(num4 a b c d,(L,f))
 | (L,_)=>(0,(L,true))
def lenL (s:Rd8):Int × Rd8:=let x:=numL s;if x.1 < 0 then (0,(x.2.1,true)) else x
def txtL (s:Rd8):List Int × Rd8:=let x:=lenL s;cutR x.1 x.2
def nmL (s:Rd8):ByteArray × Rd8:=let x:=txtL s;(textOf x.1,x.2)
def rowL {T:Type} (f:Rd8→T × Rd8) (s:Rd8):List T × Rd8:=let x:=lenL s;manyR f x.1.toNat [] x.2
def prL (s:Rd8):(Int × Int) × Rd8:=let x:=numL s;let y:=numL x.2;((x.1,y.1),y.2)
def clL (s:Rd8):ClassA × Rd8:=let a:=nmL s;let b:=numL a.2;let c:=numL b.2;let d:=rowL prL c.2;(⟨a.1,b.1,c.1,d.1⟩,d.2)
def mtL (s:Rd8):MethA × Rd8:=let a:=numL s;let b:=numL a.2;let c:=rowL prL b.2;let d:=txtL c.2;(⟨a.1,b.1,c.1,d.1⟩,d.2)
def obL (s:Rd8):ObjA × Rd8:=let a:=numL s;let b:=rowL prL a.2;(⟨a.1,b.1⟩,b.2)
def unL (s:Rd8):UnitA × Rd8:=let a:=rowL nmL s;let b:=rowL clL a.2;let c:=rowL mtL b.2;let d:=rowL obL c.2;let e:=numL d.2;(⟨a.1,b.1,c.1,d.1,e.1⟩,e.2)
def Bd8 (L:List Int):Prop:=∀ x∈L,0≤x∧x≤255
structure Eat {T:Type} (f:Rd8→T × Rd8) (g:T→List Int):Prop where
 le:∀ s,(f s).2.1.length≤s.1.length
 lt:∀ s,(f s).2.2=true∨(f s).2.1.length < s.1.length
 st:∀ s,s.2=true→(f s).2.2=true
 bd:∀ s,Bd8 s.1→Bd8 (f s).2.1
 bk:∀ s,Bd8 s.1→(f s).2.2=false→s.1=g (f s).1++(f s).2.1
theorem numL_no {s:Rd8} (h:s.1.length < 4):numL s=(0,(s.1,true)):=by
 obtain⟨L,b⟩:=s
 match L,h with
 | [],h=>rfl
 | [_],h=>rfl
 | [_,_],h=>rfl
 | [_,_,_],h=>rfl
 | _ :: _ :: _ :: _ :: _,h=>exfalso;simp at h;omega
theorem numL_yes {s:Rd8} (h:¬ s.1.length < 4):∃ a b c d L,s.1=a :: b :: c :: d :: L∧numL s=(num4 a b c d,(L,s.2)):=by
 obtain⟨L,f⟩:=s
 match L,h with
 | [],h=>simp at h
 | [_],h=>simp at h
 | [_,_],h=>simp at h
 | [_,_,_],h=>simp at h
 | a :: b :: c :: d :: L,h=>exact⟨a,b,c,d,L,rfl,rfl⟩
theorem b4_num {a b c d:Int} (ha:0≤a∧a≤255) (hb:0≤b∧b≤255) (hc:0≤c∧c≤255) (hd:0≤d∧d≤255):b4 (num4 a b c d)=[a,b,c,d]:=by
 unfold b4 num4 i32;have e:∀ m:Int,(m=a*16777216+b*65536+c*256+d∨m=a*16777216+b*65536+c*256+d - 4294967296)→[m % 4294967296 / 16777216,m % 4294967296 / 65536 % 256,m % 4294967296 / 256 % 256,m % 4294967296 % 256]=[a,b,c,d]:=by
  intro m hm;have e1:m % 4294967296=a*16777216+b*65536+c*256+d:=by omega
  rw[e1]
  congr 1
  ·omega
  congr 1
  ·omega
  congr 1
  ·omega
  congr 1
  omega
 split
 ·exact e _ (Or.inl rfl)
 ·exact e _ (Or.inr rfl)
theorem num4_R {a b c d:Int} (ha:0≤a∧a≤255) (hb:0≤b∧b≤255) (hc:0≤c∧c≤255) (hd:0≤d∧d≤255):R32 (num4 a b c d):=by
 unfold num4 i32 R32
 split <;> omega
theorem Bd8.tail {a:Int} {L:List Int} (h:Bd8 (a :: L)):Bd8 L:=fun x hx=>h x (List.mem_cons_of_mem _ hx)
theorem Bd8.head {a:Int} {L:List Int} (h:Bd8 (a :: L)):0≤a∧a≤255:=h a (List.mem_cons_self ..)
theorem Bd8.drop {L:List Int} (h:Bd8 L) (n:Nat):Bd8 (L.drop n):=fun x hx=>h x (List.mem_of_mem_drop hx)
theorem Bd8.take {L:List Int} (h:Bd8 L) (n:Nat):Bd8 (L.take n):=fun x hx=>h x (List.mem_of_mem_take hx)
theorem numL_R {s:Rd8} (h:Bd8 s.1):R32 (numL s).1:=by
 by_cases q:s.1.length < 4
 ·rw[numL_no q];exact⟨by omega,by omega⟩
 ·obtain⟨a,b,c,d,L,e,e2⟩:=numL_yes q;rw[e] at h;rw[e2];exact num4_R h.head h.tail.head h.tail.tail.head h.tail.tail.tail.head
theorem numL_eat:Eat numL b4:=by
 refine⟨fun s=>?_,fun s=>?_,fun s hs=>?_,fun s hb=>?_,fun s hb hf=>?_⟩ <;> (by_cases q:s.1.length < 4)
 ·rw[numL_no q];exact Nat.le_refl _
 ·obtain⟨a,b,c,d,L,e,e2⟩:=numL_yes q;rw[e2,e];simp;omega
 ·rw[numL_no q];exact Or.inl rfl
 ·obtain⟨a,b,c,d,L,e,e2⟩:=numL_yes q;rw[e2,e];right;simp;omega
 ·rw[numL_no q]
 ·obtain⟨a,b,c,d,L,e,e2⟩:=numL_yes q;rw[e2];exact hs
 ·rw[numL_no q];exact hb
 ·obtain⟨a,b,c,d,L,e,e2⟩:=numL_yes q;rw[e2];rw[e] at hb;exact hb.tail.tail.tail.tail
 ·rw[numL_no q] at hf;cases hf
 ·obtain⟨a,b,c,d,L,e,e2⟩:=numL_yes q;rw[e] at hb;rw[e2,e];show _=b4 (num4 a b c d)++L;rw[b4_num hb.head hb.tail.head hb.tail.tail.head hb.tail.tail.tail.head];rfl
theorem lenL_eat:Eat lenL b4:=by
 have h:=numL_eat;refine⟨fun s=>?_,fun s=>?_,fun s hs=>?_,fun s hb=>?_,fun s hb hf=>?_⟩
 ·unfold lenL;simp only;split
  ·exact h.le s
  ·exact h.le s
 ·unfold lenL;simp only;split
  ·exact Or.inl rfl
  ·exact h.lt s
 ·unfold lenL;simp only;split
  ·rfl
  ·exact h.st s hs
 ·unfold lenL;simp only;split
  ·exact h.bd s hb
  ·exact h.bd s hb
 ·unfold lenL at hf ⊢;simp only at hf ⊢
  split at hf
  ·cases hf
  ·rename_i hn;rw[if_neg hn];exact h.bk s hb hf
theorem lenL_pos (s:Rd8):0≤(lenL s).1:=by
 unfold lenL;simp only;split
 ·exact Int.le_refl _
 ·omega
theorem lenL_R {s:Rd8} (h:Bd8 s.1):(lenL s).1 < 2147483648:=by
 have:=(numL_R h).2;unfold lenL;simp only;split
 ·show (0:Int) < _;omega
 ·exact this
theorem cutR_all (n:Int) (hn:0≤n) (s:Rd8):(cutR n s).2.1.length≤s.1.length∧(s.2=true→(cutR n s).2.2=true)∧(Bd8 s.1→Bd8 (cutR n s).2.1∧Bd8 (cutR n s).1)∧((cutR n s).2.2=false→s.2=false∧s.1=(cutR n s).1++(cutR n s).2.1∧((cutR n s).1.length:Int)=n):=by
 unfold cutR
 split
 ·exact⟨Nat.le_refl _,fun _=>rfl,fun h=>⟨h,fun x hx=>by cases hx⟩,fun h=>by cases h⟩
 ·refine⟨by simp,fun h=>h,fun h=>⟨h.drop _,h.take _⟩,fun h=>⟨h,?_,?_⟩⟩
  ·simp
  ·simp only[List.length_take];omega
theorem txtL_eat:Eat txtL (fun A=>b4 A.length++A):=by
 have h:=lenL_eat;refine⟨fun s=>?_,fun s=>?_,fun s hs=>?_,fun s hb=>?_,fun s hb hf=>?_⟩ <;> (have t:=cutR_all (lenL s).1 (lenL_pos s) (lenL s).2;unfold txtL)
 ·exact Nat.le_trans t.1 (h.le s)
 ·rcases h.lt s with e | e
  ·exact Or.inl (t.2.1 e)
  ·exact Or.inr (Nat.lt_of_le_of_lt t.1 e)
 ·exact t.2.1 (h.st s hs)
 ·exact (t.2.2.1 (h.bd s hb)).1
 ·obtain⟨t1,t2,t3⟩:=t.2.2.2 hf;have e:=h.bk s hb t1;simp only;rw[t3,List.append_assoc,← t2];exact e
theorem txtL_bd {s:Rd8} (hb:Bd8 s.1):Bd8 (txtL s).1:=((cutR_all (lenL s).1 (lenL_pos s) (lenL s).2).2.2.1 (lenL_eat.bd s hb)).2
theorem tby_of {A:List Int} (h:Bd8 A):tby (textOf A)=A:=by
 unfold tby textOf byteL;simp only[List.map_map];have:∀ x∈A,((fun b:UInt8=>(b.toNat:Int)) ∘ fun x:Int=>UInt8.ofNat x.toNat) x=x:=fun x hx=>by
  obtain⟨h1,h2⟩:=h x hx;simp only[Function.comp];have:(UInt8.ofNat x.toNat).toNat=x.toNat:=by
   rw[UInt8.toNat_ofNat'];omega
  rw[this];omega
 exact (List.map_congr_left this).trans (List.map_id' A)
theorem textOf_len (A:List Int):(textOf A).size=A.length:=by
 unfold textOf byteL;show (A.map _).toArray.size=_;simp
theorem nmL_eat:Eat nmL txt:=by
 have h:=txtL_eat;refine⟨h.le,h.lt,h.st,h.bd,fun s hb hf=>?_⟩;have e:=h.bk s hb hf;show s.1=txt (textOf (txtL s).1)++(txtL s).2.1;unfold txt;rw[tby_of (txtL_bd hb),textOf_len];exact e
theorem manyR_eat {T:Type} {f:Rd8→T × Rd8} {g:T→List Int} (h:Eat f g):∀ (n:Nat) (acc:List T) (s:Rd8),(manyR f n acc s).2.1.length≤s.1.length∧(s.2=true→(manyR f n acc s).2.2=true)∧(Bd8 s.1→Bd8 (manyR f n acc s).2.1)∧(Bd8 s.1→(manyR f n acc s).2.2=false→∃ Y:List T,(manyR f n acc s).1=acc++Y∧Y.length=n∧s.1=(Y.map g).flatten++(manyR f n acc s).2.1)
 | 0,acc,s=>⟨Nat.le_refl _,fun e=>e,fun e=>e,fun _ _=>⟨[],by simp[manyR],rfl,rfl⟩⟩
 | n+1,acc,s=>by
  rw[manyR];by_cases hs:s.2=true
  ·rw[if_pos hs];exact⟨Nat.le_refl _,fun _=>hs,fun e=>e,fun _ e=>by rw[hs] at e;cases e⟩
  ·rw[if_neg hs];simp only;obtain⟨i1,i2,i3,i4⟩:=manyR_eat h n (acc++[(f s).1]) (f s).2;refine⟨Nat.le_trans i1 (h.le s),fun e=>absurd e hs,fun e=>i3 (h.bd s e),fun hb e=>?_⟩;obtain⟨Y,y1,y2,y3⟩:=i4 (h.bd s hb) e;have hf:(f s).2.2=false:=by
    cases q:(f s).2.2 with
    | false=>rfl
    | true=>rw[i2 q] at e;cases e
   refine⟨(f s).1 :: Y,by rw[y1,List.append_assoc];rfl,by rw[List.length_cons,y2],?_⟩;have e1:=h.bk s hb hf;rw[List.map_cons,List.flatten_cons,List.append_assoc,← y3];exact e1
theorem rowL_eat {T:Type} {f:Rd8→T × Rd8} {g:T→List Int} (h:Eat f g):Eat (rowL f) (rowB g):=by
 have l:=lenL_eat;refine⟨fun s=>?_,fun s=>?_,fun s hs=>?_,fun s hb=>?_,fun s hb hf=>?_⟩ <;> (have t:=manyR_eat h (lenL s).1.toNat [] (lenL s).2;unfold rowL)
 ·exact Nat.le_trans t.1 (l.le s)
 ·rcases l.lt s with e | e
  ·exact Or.inl (t.2.1 e)
  ·exact Or.inr (Nat.lt_of_le_of_lt t.1 e)
 ·exact t.2.1 (l.st s hs)
 ·exact t.2.2.1 (l.bd s hb)
 ·obtain⟨Y,y1,y2,y3⟩:=t.2.2.2 (l.bd s hb) hf;have hl:(lenL s).2.2=false:=by
   cases q:(lenL s).2.2 with
   | false=>rfl
   | true=>have:=t.2.1 q;unfold rowL at hf;simp only at hf;rw[this] at hf;cases hf
  have e:=l.bk s hb hl;have hp:=lenL_pos s;simp only;rw[y1,List.nil_append];unfold rowB;rw[y2,List.append_assoc,← y3,Int.toNat_of_nonneg hp];exact e
theorem prL_eat:Eat prL (fun v=>b4 v.1++b4 v.2):=by
 have h:=numL_eat;refine⟨fun s=>Nat.le_trans (h.le _) (h.le s),fun s=>?_,fun s hs=>h.st _ (h.st s hs),fun s hb=>h.bd _ (h.bd s hb),fun s hb hf=>?_⟩
 ·rcases h.lt s with e | e
  ·exact Or.inl (h.st _ e)
  ·exact Or.inr (Nat.lt_of_le_of_lt (h.le _) e)
 ·have hf2:(numL (numL s).2).2.2=false:=hf;have h1:(numL s).2.2=false:=by
   cases q:(numL s).2.2 with
   | false=>rfl
   | true=>rw[h.st _ q] at hf2;cases hf2
  have e1:=h.bk s hb h1;have e2:=h.bk _ (h.bd s hb) hf2;show s.1=b4 (numL s).1++b4 (numL (numL s).2).1++(numL (numL s).2).2.1;rw[List.append_assoc,← e2];exact e1
theorem Eat.no {T:Type} {f:Rd8→T × Rd8} {g:T→List Int} (h:Eat f g) {s:Rd8} (hf:(f s).2.2=false):s.2=false:=by
 cases q:s.2 with
 | false=>rfl
 | true=>rw[h.st s q] at hf;cases hf
theorem rowP_eat:Eat (rowL prL) rowP:=rowL_eat prL_eat
theorem clL_eat:Eat clL clB:=by
 have n:=numL_eat;have t:=nmL_eat;have r:=rowP_eat;refine⟨fun s=>?_,fun s=>?_,fun s hs=>?_,fun s hb=>?_,fun s hb hf=>?_⟩
 ·exact Nat.le_trans (r.le _) (Nat.le_trans (n.le _) (Nat.le_trans (n.le _) (t.le s)))
 ·rcases t.lt s with e | e
  ·exact Or.inl (r.st _ (n.st _ (n.st _ e)))
  ·exact Or.inr (Nat.lt_of_le_of_lt (Nat.le_trans (r.le _) (Nat.le_trans (n.le _) (n.le _))) e)
 ·exact r.st _ (n.st _ (n.st _ (t.st s hs)))
 ·exact r.bd _ (n.bd _ (n.bd _ (t.bd s hb)))
 ·have b1:=t.bd s hb;have b2:=n.bd _ b1;have b3:=n.bd _ b2;have f4:(rowL prL (numL (numL (nmL s).2).2).2).2.2=false:=hf;have f3:=r.no f4;have f2:=n.no f3;have f1:=n.no f2;have e1:=t.bk s hb f1;have e2:=n.bk _ b1 f2;have e3:=n.bk _ b2 f3;have e4:=r.bk _ b3 f4;show s.1=txt (nmL s).1++b4 (numL (nmL s).2).1++b4 (numL (numL (nmL s).2).2).1++rowP (rowL prL (numL (numL (nmL s).2).2).2).1++(rowL prL (numL (numL (nmL s).2).2).2).2.1;rw[List.append_assoc,← e4,List.append_assoc,← e3,List.append_assoc,← e2];exact e1
theorem mtL_eat:Eat mtL mtB:=by
 have n:=numL_eat;have t:=txtL_eat;have r:=rowP_eat;refine⟨fun s=>?_,fun s=>?_,fun s hs=>?_,fun s hb=>?_,fun s hb hf=>?_⟩
 ·exact Nat.le_trans (t.le _) (Nat.le_trans (r.le _) (Nat.le_trans (n.le _) (n.le s)))
 ·rcases n.lt s with e | e
  ·exact Or.inl (t.st _ (r.st _ (n.st _ e)))
  ·exact Or.inr (Nat.lt_of_le_of_lt (Nat.le_trans (t.le _) (Nat.le_trans (r.le _) (n.le _))) e)
 ·exact t.st _ (r.st _ (n.st _ (n.st s hs)))
 ·exact t.bd _ (r.bd _ (n.bd _ (n.bd s hb)))
 ·have b1:=n.bd s hb;have b2:=n.bd _ b1;have b3:=r.bd _ b2;have f4:(txtL (rowL prL (numL (numL s).2).2).2).2.2=false:=hf;have f3:=t.no f4;have f2:=r.no f3;have f1:=n.no f2;have e1:=n.bk s hb f1;have e2:=n.bk _ b1 f2;have e3:=r.bk _ b2 f3;have e4:=t.bk _ b3 f4;show s.1=b4 (numL s).1++b4 (numL (numL s).2).1++rowP (rowL prL (numL (numL s).2).2).1++(b4 ((txtL (rowL prL (numL (numL s).2).2).2).1.length:Int)++(txtL (rowL prL (numL (numL s).2).2).2).1)++(txtL (rowL prL (numL (numL s).2).2).2).2.1;rw[List.append_assoc,← e4,List.append_assoc,← e3,List.append_assoc,← e2];exact e1
theorem obL_eat:Eat obL obB:=by
 have n:=numL_eat;have r:=rowP_eat;refine⟨fun s=>Nat.le_trans (r.le _) (n.le s),fun s=>?_,fun s hs=>r.st _ (n.st s hs),fun s hb=>r.bd _ (n.bd s hb),fun s hb hf=>?_⟩
 ·rcases n.lt s with e | e
  ·exact Or.inl (r.st _ e)
  ·exact Or.inr (Nat.lt_of_le_of_lt (r.le _) e)
 ·have f2:(rowL prL (numL s).2).2.2=false:=hf;have e1:=n.bk s hb (r.no f2);have e2:=r.bk _ (n.bd s hb) f2;show s.1=b4 (numL s).1++rowP (rowL prL (numL s).2).1++(rowL prL (numL s).2).2.1;rw[List.append_assoc,← e2];exact e1
theorem unL_eat:Eat unL bodyU:=by
 have n:=numL_eat;have r1:=rowL_eat nmL_eat;have r2:=rowL_eat clL_eat;have r3:=rowL_eat mtL_eat;have r4:=rowL_eat obL_eat;refine⟨fun s=>?_,fun s=>?_,fun s hs=>?_,fun s hb=>?_,fun s hb hf=>?_⟩
 ·exact Nat.le_trans (n.le _) (Nat.le_trans (r4.le _) (Nat.le_trans (r3.le _) (Nat.le_trans (r2.le _) (r1.le s))))
 ·rcases r1.lt s with e | e
  ·exact Or.inl (n.st _ (r4.st _ (r3.st _ (r2.st _ e))))
  ·exact Or.inr (Nat.lt_of_le_of_lt (Nat.le_trans (n.le _) (Nat.le_trans (r4.le _) (Nat.le_trans (r3.le _) (r2.le _)))) e)
 ·exact n.st _ (r4.st _ (r3.st _ (r2.st _ (r1.st s hs))))
 ·exact n.bd _ (r4.bd _ (r3.bd _ (r2.bd _ (r1.bd s hb))))
 ·obtain⟨a,ha⟩:∃ a,rowL nmL s=a:=⟨_,rfl⟩
  obtain⟨b,hb2⟩:∃ b,rowL clL a.2=b:=⟨_,rfl⟩
  obtain⟨c,hc⟩:∃ c,rowL mtL b.2=c:=⟨_,rfl⟩
  obtain⟨d,hd⟩:∃ d,rowL obL c.2=d:=⟨_,rfl⟩
  obtain⟨e,he⟩:∃ e,numL d.2=e:=⟨_,rfl⟩
  have hu:unL s=(⟨a.1,b.1,c.1,d.1,e.1⟩,e.2):=by unfold unL;simp only[ha,hb2,hc,hd,he]
  rw[hu] at hf ⊢;have f5:(numL d.2).2.2=false:=by rw[he];exact hf
  have f4:(rowL obL c.2).2.2=false:=by rw[hd];exact n.no f5
  have f3:(rowL mtL b.2).2.2=false:=by rw[hc];exact r4.no f4
  have f2:(rowL clL a.2).2.2=false:=by rw[hb2];exact r3.no f3
  have f1:(rowL nmL s).2.2=false:=by rw[ha];exact r2.no f2
  have b1:Bd8 a.2.1:=by rw[← ha];exact r1.bd s hb
  have b2:Bd8 b.2.1:=by rw[← hb2];exact r2.bd _ b1
  have b3:Bd8 c.2.1:=by rw[← hc];exact r3.bd _ b2
  have b4':Bd8 d.2.1:=by rw[← hd];exact r4.bd _ b3
  have e1:=r1.bk s hb f1;have e2:=r2.bk _ b1 f2;have e3:=r3.bk _ b2 f3;have e4:=r4.bk _ b3 f4;have e5:=n.bk _ b4' f5;rw[ha] at e1;rw[hb2] at e2;rw[hc] at e3;rw[hd] at e4;rw[he] at e5;unfold bodyU;simp only;rw[List.append_assoc,← e5,List.append_assoc,← e4,List.append_assoc,← e3,List.append_assoc,← e2];exact e1
theorem numL_b4 {n:Int} (h:R32 n) (L:List Int):numL (b4 n++L,false)=(n,(L,false)):=by
 show (num4 _ _ _ _,(L,false))=_;rw[num_b4 h]
theorem lenL_b4 (n:Nat) (L:List Int) (h32:n < 2147483648):lenL (b4 n++L,false)=((n:Int),(L,false)):=by
 unfold lenL;rw[numL_b4 ⟨by omega,by omega⟩];simp only;rw[if_neg (by omega)]
theorem txtL_b4 (A L:List Int) (h32:A.length < 2147483648):txtL (b4 A.length++(A++L),false)=(A,(L,false)):=by
 unfold txtL;rw[lenL_b4 A.length (A++L) h32];simp only;unfold cutR;rw[if_neg (by simp only[List.length_append];omega)];simp
theorem nmL_txt (s:ByteArray) (L:List Int) (h32:s.size < 2147483648):nmL (txt s++L,false)=(s,(L,false)):=by
 unfold nmL txt;rw[List.append_assoc];have h:=txtL_b4 (tby s) L (by rw[tby_len];exact h32);rw[tby_len] at h;rw[h];simp only;rw[tby_text]
theorem prL_b4 {v:Int × Int} (h:R32 v.1∧R32 v.2) (L:List Int):prL (b4 v.1++b4 v.2++L,false)=(v,(L,false)):=by
 unfold prL;rw[List.append_assoc,numL_b4 h.1];simp only;rw[numL_b4 h.2]
theorem rowL_rowB {T:Type} {f:Rd8→T × Rd8} {g:T→List Int} (X:List T) (L:List Int) (h:∀ x∈X,∀ L,f (g x++L,false)=(x,(L,false))) (h32:X.length < 2147483648):rowL f (rowB g X++L,false)=(X,(L,false)):=by
 unfold rowL rowB;rw[List.append_assoc,lenL_b4 X.length _ h32];simp only;rw[Int.toNat_natCast,manyR_app X [] L h];rfl
theorem rowL_P {X:List (Int × Int)} (L:List Int) (h:∀ v∈X,R32 v.1∧R32 v.2) (h32:X.length < 2147483648):rowL prL (rowP X++L,false)=(X,(L,false)):=by
 rw[rowP_eq];exact rowL_rowB X L (fun v hv L=>prL_b4 (h v hv) L) h32
theorem clL_clB {c:ClassA} (h:c.nm.size < 2147483648∧R32 c.super∧R32 c.fields∧c.binds.length < 2147483648∧∀ v∈c.binds,R32 v.1∧R32 v.2) (L:List Int):clL (clB c++L,false)=(c,(L,false)):=by
 obtain⟨h1,h2,h3,h4,h5⟩:=h;unfold clL clB;rw[List.append_assoc,List.append_assoc,List.append_assoc,nmL_txt _ _ h1];simp only;rw[numL_b4 h2];simp only;rw[numL_b4 h3];simp only;rw[rowL_P L h5 h4]
theorem mtL_mtB {m:MethA} (h:R32 m.args∧R32 m.temps∧m.lits.length < 2147483648∧(∀ v∈m.lits,R32 v.1∧R32 v.2)∧m.code.length < 2147483648) (L:List Int):mtL (mtB m++L,false)=(m,(L,false)):=by
 obtain⟨h1,h2,h3,h4,h5⟩:=h;unfold mtL mtB;rw[List.append_assoc,List.append_assoc,List.append_assoc,numL_b4 h1];simp only;rw[numL_b4 h2];simp only;rw[rowL_P _ h4 h3];simp only;rw[List.append_assoc,txtL_b4 _ _ h5]
theorem obL_obB {o:ObjA} (h:R32 o.cls∧o.flds.length < 2147483648∧∀ v∈o.flds,R32 v.1∧R32 v.2) (L:List Int):obL (obB o++L,false)=(o,(L,false)):=by
 obtain⟨h1,h2,h3⟩:=h;unfold obL obB;rw[List.append_assoc,numL_b4 h1];simp only;rw[rowL_P _ h3 h2]
theorem unL_body {U:UnitA} (h:Fit U):unL (bodyU U,false)=(U,([],false)):=by
 unfold unL bodyU;rw[List.append_assoc,List.append_assoc,List.append_assoc,rowL_rowB U.names _ (fun s hs L=>nmL_txt s L (h.ns s hs)) h.nn];simp only;rw[rowL_rowB U.classes _ (fun c hc L=>clL_clB (h.cs c hc) L) h.nc];simp only;rw[rowL_rowB U.methods _ (fun c hc L=>mtL_mtB (h.ms c hc) L) h.nm];simp only;rw[rowL_rowB U.objects _ (fun c hc L=>obL_obB (h.os c hc) L) h.no];simp only;have:=numL_b4 h.mn [];rw[List.append_nil] at this;rw[this]
def markL (b:List Int):Rd8:=let t:=cutR 4 (b,false);if t.1=[84,87,49,0] then t.2 else (t.2.1,true)
def Good (b:List Int) (U:UnitA):Prop:=unitR U=0∧bytesU U=b
theorem markL_bd {b:List Int} (h:Bd8 b):Bd8 (markL b).1:=by
 have t:=((cutR_all 4 (by omega) (b,false)).2.2.1 h).1;unfold markL;simp only;split
 ·exact t
 ·exact t
theorem markL_le (b:List Int):(markL b).1.length≤b.length:=by
 have t:=(cutR_all 4 (by omega) (b,false)).1;unfold markL;simp only;split
 ·exact t
 ·exact t
theorem good_of {b:List Int} {U:UnitA} (hb:Bd8 b) (h:unL (markL b)=(U,([],false))) (hr:unitR U=0):Good b U:=by
 have u:=unL_eat;have hf:(unL (markL b)).2.2=false:=by rw[h]
 have hm:=u.no hf;have e:=u.bk _ (markL_bd hb) hf;rw[h] at e;simp only[List.append_nil] at e;obtain⟨-,-,-,t⟩:=cutR_all 4 (by omega) (b,false);refine⟨hr,?_⟩;unfold bytesU;rw[← e];unfold markL at hm ⊢;simp only at hm ⊢
 split at hm
 ·rename_i q;rw[if_pos q];obtain⟨t1,t2,t3⟩:=t hm;rw[q] at t2;exact t2.symm
 ·cases hm
theorem of_good {b:List Int} {U:UnitA} (h:Good b U):unL (markL b)=(U,([],false)):=by
 obtain⟨hr,rfl⟩:=h;have e:markL (bytesU U)=(bodyU U,false):=by
  have h4:¬ ((([84,87,49,0]++bodyU U:List Int).length:Int) < 4):=by rw[List.length_append];simp;omega
  unfold markL bytesU cutR;simp only;rw[if_neg h4];simp
 rw[e];exact unL_body (right_u hr).fit
theorem good_one {b:List Int} {U V:UnitA} (h:Good b U) (g:Good b V):U=V:=bytes_inj h.1 g.1 (h.2.trans g.2.symm)
theorem good_le {b:List Int} {U:UnitA} (h:Good b U):b.length≤31768:=by rw[← h.2];exact bytes_le (right_u h.1)
theorem good_r {b M:List Int} {U:UnitA} (h:Good b U) (e:b=[84,87,49,0]++M):unR (M,false)=(U,([],false)):=by
 have e1:bodyU U=M:=List.append_cancel_left ((show [84,87,49,0]++bodyU U=b from h.2).trans e);rw[← e1];exact unR_body (right_u h.1).fit
def SlF (v:Value):Prop:=(∃ ad,v=.slice ad 0 0)∨∃ g off n cap,v=.slice (some ⟨g,off,none⟩) n cap
structure RI (w y:World) (p:Nat) (v:Value) (s:Rd8):Prop where
 h:y.heap[p]?=some (.cells #[v,.bool s.2] 85 (0,0))
 b:ByV w v s.1
 bel:Below w.heap.size w y
 lo:w.heap.size≤p
 f:SlF v
section
variable {w y y1:World} {p:Nat} {v:Value} {s:Rd8}
theorem RI.c0 (h:RI w y p v s):y.cell? ⟨p,0,none⟩=some v:=cells_at h.h rfl
theorem RI.c1 (h:RI w y p v s):y.cell? ⟨p,1,none⟩=some (.bool s.2):=cells_at h.h rfl
theorem RI.z (h:RI w y p v s) (o:Nat):y.frozen? ⟨p,o,none⟩=false:=loose_at h.h o
theorem RI.lt (h:RI w y p v s):p < y.heap.size:=(Array.getElem?_eq_some_iff.1 h.h).1
theorem RI.up (h:RI w y p v s) (b:Below y.heap.size y y1):RI w y1 p v s:=⟨(b.block p h.lt).trans h.h,h.b,h.bel.trans (b.mono h.bel.size),h.lo,h.f⟩
theorem RI.bd (h:RI w y p v s):Bd8 s.1:=fun x hx=>by
 obtain⟨k,hk⟩:=List.getElem?_of_mem hx;obtain⟨ad,cap,e,h1,h2,h3⟩:=h.b.ex;exact (h3 k x hk).1
theorem RI.cg {F:Nat→Prop} (h:RI w y p v s) (c:Cg F y y1) (hF:∀ k,F k→k≠p∧w.heap.size≤k):RI w y1 p v s :=
 ⟨(c.block p h.lt (fun e=>(hF p e).1 rfl)).trans h.h,h.b,wr_bel c (fun k e=>(hF k e).2) (Nat.le_refl _) h.bel,h.lo,h.f⟩
theorem RI.set1 (h:RI w y p v s) (b:Bool):RI w (y.setCell ⟨p,1,none⟩ (.bool b)) p v (s.1,b)∧Cg (fun k=>k=p) y (y.setCell ⟨p,1,none⟩ (.bool b)):=by
 have c:=(Cg.refl (fun k=>k=p) y).set ⟨p,1,none⟩ rfl (.bool b);refine⟨⟨?_,h.b,wr_bel c (fun k e=>e ▸ h.lo) (Nat.le_refl _) h.bel,h.lo,h.f⟩,c⟩;rw[setCell_eq_setRow y p 1 _ _ _ _ h.h];exact setRow_heap y p _ _ _ _ h.h
theorem RI.set0 (h:RI w y p v s) {v':Value} {L:List Int} (hv:ByV w v' L) (hf:SlF v'):RI w (y.setCell ⟨p,0,none⟩ v') p v' (L,s.2)∧Cg (fun k=>k=p) y (y.setCell ⟨p,0,none⟩ v'):=by
 have c:=(Cg.refl (fun k=>k=p) y).set ⟨p,0,none⟩ rfl v';refine⟨⟨?_,hv,wr_bel c (fun k e=>e ▸ h.lo) (Nat.le_refl _) h.bel,h.lo,hf⟩,c⟩;rw[setCell_eq_setRow y p 0 _ _ _ _ h.h];exact setRow_heap y p _ _ _ _ h.h
end
theorem byv_nil {w:World} {ad:Option Addr}:ByV w (.slice ad 0 0) []:=⟨ad,0,rfl,Nat.le_refl _,Nat.zero_le _,fun k x hx=>by cases hx⟩
theorem cutR_no {n:Int} {s:Rd8} (h:(s.1.length:Int) < n):cutR n s=([],(s.1,true)):=if_pos h
theorem cutR_yes {n:Nat} {s:Rd8} (h:n≤s.1.length):cutR n s=(s.1.take n,(s.1.drop n,s.2)):=by
 unfold cutR;rw[if_neg (by omega),Int.toNat_natCast]
set_option maxHeartbeats 16000000 in
theorem take_c {w y:World} {p:Nat} {v:Value} {s:Rd8} (h:RI w y p v s) (k:Nat) (hk64:k < 9223372036854775808) :
  Calls Tryz.prog 68 #[.pointer (some ⟨p,0,none⟩),.int .i64 k] y fun e y'=>(∃ t,e=.returned t∧SlF t∧ByV w t (cutR k s).1)∧(∃ v',RI w y' p v' (cutR k s).2)∧Cg (fun k=>k=p) y y':=by
 have hmx':maxLen≤9223372036854775807:=by decide
 by_cases hno:(s.1.length:Int) < k
 ·rw[cutR_no hno];obtain⟨ad,cap,rfl,hcap,hmx⟩:=h.b.form;obtain⟨n,hn⟩:∃ n,n=s.1.length:=⟨_,rfl⟩
  rw[← hn] at h hcap hno;have d0:decide ((n:Int) < (k:Int))=true:=by simpa using hno
  replace hn:=HD hn;replace h:=HD h;have c0:=h.out.c0;have c1:=h.out.c1;have z1:=h.out.z 1;go_enter Tryz.func68,Tryz.ntmps68
  go_wp2
  go_ret;exact⟨⟨_,rfl,Or.inl ⟨_,rfl⟩,byv_nil⟩,⟨_,(h.out.set1 true).1⟩,(h.out.set1 true).2⟩
 ·have hkM:k≤s.1.length:=by omega
  rw[cutR_yes hkM];rcases h.f with hf | hf
  ·obtain⟨ad,hf⟩:=hf;subst hf;have hl0:s.1.length=0:=by
    obtain⟨_,_,ev,hcap,hmx⟩:=h.b.form;injection ev with _ hl1 _
    exact hl1.symm
   have hk0:k=0:=by omega
   obtain⟨M,b⟩:=s;obtain rfl:=List.length_eq_zero_iff.1 hl0;subst hk0;replace h:=HD h;have c0:=h.out.c0;have z0:=h.out.z 0;clear hno hl0 hkM;cases ad with
   | none =>
    go_enter Tryz.func68,Tryz.ntmps68
    go_wp2
    go_ret;have hq:=h.out.set0 (byv_nil (ad:=none)) (Or.inl ⟨none,rfl⟩);exact⟨⟨_,rfl,Or.inl ⟨_,rfl⟩,byv_nil⟩,⟨_,hq.1⟩,hq.2⟩
   | some a =>
    go_enter Tryz.func68,Tryz.ntmps68
    go_wp2
    go_ret;have hq:=h.out.set0 (byv_nil (ad:=some a)) (Or.inl ⟨some a,rfl⟩);exact⟨⟨_,rfl,Or.inl ⟨_,rfl⟩,byv_nil⟩,⟨_,hq.1⟩,hq.2⟩
  ·obtain⟨g,off,n,cap,rfl⟩:=hf;obtain⟨_,_,ev,hcap,hmx⟩:=h.b.form;cases ev;obtain⟨n,hn⟩:∃ n,n=s.1.length:=⟨_,rfl⟩
   replace hcap:s.1.length≤cap:=hcap;have PT:=HD (ByV.take h.b k hkM);rw[← hn] at h hcap hkM hno;have d0:decide ((n:Int) < (k:Int))=false:=by simpa using hno
   have hbv:=HD h.b;replace hn:=HD hn;have hR:=HD h;clear h;have c0:=hR.out.c0;have z0:=hR.out.z 0;clear hno;go_enter Tryz.func68,Tryz.ntmps68
   go_wp2
   ·go_ret
    rename cap=k=>hck
    have hq:=hR.out.set0 (ByV.dropE hbv.out k hkM hck) (Or.inr ⟨_,_,_,_,rfl⟩);have PT2:=PT.out;rw[hck] at PT2;exact⟨⟨_,rfl,Or.inr ⟨_,_,_,_,rfl⟩,PT2⟩,⟨_,hq.1⟩,hq.2⟩
   ·go_ret;have hq:=hR.out.set0 (ByV.drop hbv.out k hkM) (Or.inr ⟨_,_,_,_,rfl⟩);exact⟨⟨_,rfl,Or.inr ⟨_,_,_,_,rfl⟩,PT.out⟩,⟨_,hq.1⟩,hq.2⟩
theorem take_i {w y:World} {p:Nat} {v:Value} {s:Rd8} (h:RI w y p v s) (k:Int) (h0:0≤k) (h1:k < 9223372036854775808) :
  Calls Tryz.prog 68 #[.pointer (some ⟨p,0,none⟩),.int .i64 k] y fun e y'=>(∃ t,e=.returned t∧SlF t∧ByV w t (cutR k s).1)∧(∃ v',RI w y' p v' (cutR k s).2)∧Cg (fun k=>k=p) y y':=by
 obtain⟨n,rfl⟩:∃ n:Nat,k=n:=⟨k.toNat,by omega⟩
 exact take_c h n (by omega)
end Wd
end Go.Proofs.YtgfnelhbdhbklaaGreat
