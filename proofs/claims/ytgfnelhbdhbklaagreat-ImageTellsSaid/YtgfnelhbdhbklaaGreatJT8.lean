/- Texts joined: ILV, UOV, UOL. -/
import Derived.Test.YtgfnelhbdhbklaaGreatJT1
import Derived.Test.YtgfnelhbdhbklaaGreatJT2
import Derived.Test.YtgfnelhbdhbklaaGreatJT7
namespace Go.Proofs.YtgfnelhbdhbklaaGreat
open Go.RowKit
set_option linter.unusedVariables false
set_option maxRecDepth 20000
namespace Wd
theorem infoStr16:(Tryz.prog.info? 9).map (fun i=>(i.zero,i.size,i.bytes))=some (some (.string ByteArray.empty),1,16):=by kernel_rfl
theorem strs_app' (A:List ByteArray) (x:ByteArray):strs (A++[x])=strs A++strs [x]:=strs_app _ _
theorem cl4s_app' (A:List (ClassA × Value)) (x:ClassA × Value):cl4s (A++[x])=cl4s A++cl4s [x]:=cl4s_app _ _
theorem mt4s_app' (A:List (MethA × Value × Value)) (x:MethA × Value × Value):mt4s (A++[x])=mt4s A++mt4s [x]:=mt4s_app _ _
theorem ob2s_app' (A:List (ObjA × Value)) (x:ObjA × Value):ob2s (A++[x])=ob2s A++ob2s [x]:=ob2s_app _ _
theorem text_g {w y:World} {p:Nat} {v:Value} {s:Rd8} (h:RI w y p v s) :
  Calls Tryz.prog 70 #[.pointer (some ⟨p,0,none⟩)] y fun e y'=>e=.returned (.string (nmL s).1)∧(∃ v',RI w y' p v' (nmL s).2)∧Cg (fun k=>k=p) y y':=itext_c h
set_option maxHeartbeats 16000000 in
theorem grows_c {w y:World} {p:Nat} {v:Value} {s:Rd8} (h:RI w y p v s) (hs:s.1.length≤100000) :
  Calls Tryz.prog 69 #[.pointer (some ⟨p,0,none⟩),.func (.func 70) #[.pointer (some ⟨p,0,none⟩)] #[]] y fun e y'=>(∃ u A I,e=.returned u∧GrN y.heap.size y' I u A∧A=(rowL nmL s).1)∧(∃ v',RI w y' p v' (rowL nmL s).2)∧Cg (fun k=>k=p) y y':=by
 obtain⟨i0,hi0,hz0,hz1,hz2⟩:=info_parts infoStr16;have hmx:400000≤maxLen:=by decide
 have P0:=length_c h;have hbd:=lenL_pos s;have hle:=lenL_eat.le s;have hl31:=lenL_R h.bd;have hr:rowL nmL s=manyR nmL (lenL s).1.toNat [] (lenL s).2:=rfl;generalize rowL nmL s=R at hr ⊢;have hpy:=h.lt;generalize lenL s=r at P0 hbd hle hr hl31;obtain⟨x,s0⟩:=r;replace hl31:x < 2147483648:=hl31;replace hbd:0≤x:=hbd;replace hle:s0.1.length≤s.1.length:=hle;obtain⟨n,rfl⟩:∃ k:Nat,x=k:=⟨x.toNat,by omega⟩
 replace hr:R=manyR nmL n [] s0:=hr;have hF:=HD (Few.start s0);obtain⟨N,hN⟩:∃ N,s0.1.length=N:=⟨_,rfl⟩
 rw[hN] at hF hle;have hN1:N≤100000:=by omega
 have P1:=HD P0;replace hr:=HD hr;clear P0 h hbd hle hs hN;go_enter Tryz.func69,Tryz.ntmps69
 go_wp2_with (first | (go_at_call 96;((with_reducible refine P1.out.mono ?_);rintro e1 y1 ⟨rfl,⟨v1,hR⟩,hc⟩)))
 clear P1;have hG:Hid (GrN y.heap.size y1 (fun _=>False) (.slice none 0 0) []):=HD (GrX.nil rfl);replace hR:=HD hR;replace hc:=HD hc
 go_loopw [5,6] (fun i5 i6 wr=>∃ (j:Nat) (A:List ByteArray) (s':Rd8) (v':Value) (I:Nat→Prop),j≤n∧i6=.int .i64 j∧Hid (Few N A.length s')∧Hid (R=manyR nmL j (A) s')∧Hid (RI w wr p v' s')∧Hid (GrN y.heap.size wr I i5 A)∧Hid (Cg (fun k=>k=p) y wr)) (fun _ i6 _=>(intOf i6).toNat)
 case atStart=>exact⟨n,[],s0,_,_,Nat.le_refl _,rfl,hF,hr,hR,hG,hc⟩
 case round =>
  clear hR hc hG hr hF;obtain⟨j,A,s',v',I,hjn,rfl,hF,hr,hR,hG,hc⟩:=hrel;have c1:=hR.out.c1;obtain⟨M,b⟩:=s';simp only at c1;cases j with
  | zero =>
   have d1:decide ((0:Int) < ((0:Nat):Int))=false:=by decide
   have hr':Hid (R=(A,(M,b))):=HD hr.out;clear hr
   go_wp2
   go_ret;rw[hr'.out];exact⟨⟨_,A,I,rfl,hG.out,rfl⟩,⟨_,hR.out⟩,hc.out⟩
  | succ j =>
   have d1:decide ((0:Int) < ((j+1:Nat):Int))=true:=by simp
   cases b with
   | true =>
    have hr':Hid (R=(A,(M,true))):=HD hr.out;clear hr
    go_wp2
    go_ret;rw[hr'.out];exact⟨⟨_,A,I,rfl,hG.out,rfl⟩,⟨_,hR.out⟩,hc.out⟩
   | false =>
    have hr':R=manyR nmL j (A++[(nmL (M,false)).1]) (nmL (M,false)).2:=hr.out;have hF2:=hF.out.next rfl (nmL_eat.lt (M,false));have hn:=hF.out.1;have P1:=text_g hR.out;generalize nmL (M,false)=q at P1 hr' hF2;obtain⟨c,s2⟩:=q;simp only at P1 hr' hF2;replace P1:=HD P1;replace hr':=HD hr';replace hF2:=HD hF2;have hlt:=HD (fun k hk=>(hG.out.own.lt k hk).2);have hyr:=hc.out.size;clear hr hF
    go_wp2_with (first | (go_at_call 70;((with_reducible refine P1.out.mono ?_);rintro e1 y2 ⟨rfl,⟨v2,hR2⟩,hc2⟩;replace hG:=HD (hG.out.cg hc2 (fun k e=>by omega));replace hc:=HD (hc.out.trans hc2);have hys:=hc2.size;replace hR2:=HD hR2;clear P1 hc2;have hA2:=(Below.refl y2.heap.size y2).alloc (Nat.le_refl _) (.cells #[.string c] 9);have hOA:=HD (row_bel hG.out.own hA2);replace hA2:=HD hA2)) | (at_builtin;refine wpList_append_lies _ rfl (.tmp 20) (.tmp 23) 22 rfl y.heap.size 9 i0 (.string ByteArray.empty) 1 16 Tryz.underlying22 hi0 hz0 hz1 hz2 rfl (by decide) u5 A.length _ (by simp[Act.eval]) hOA.out ⟨y2.heap.size,0,none⟩ 1 1 (strs [c]) (by simp[Act.eval]) rfl (World.news_of_block (alloc_at _ _ _ rfl)) (strs_one _) (by omega) (by omega) (by omega) (by simp only[World.size_alloc];omega) _ rfl ?_;intro g1 cap1 w7 hown1 hgrow1 hat1 hlt1))
    go_roundw
    case rel =>
     have hP:=hG.out.push (x:=c) (J:=fun _=>False) (s:=wr.heap.size) (Stay.const trivial) (fun k e=>e.elim) hlt.out (by omega) hA2.out hown1 hgrow1 (fun k hk=>by
      have e1:g1=k:=by simpa [Value.ownBlock] using hk
      rcases hat1 with e | e
      ·exact Or.inl (by rw[← e1];exact e)
      ·exact Or.inr (by rw[← e1];exact e)) (strs_app' A c)
     have hc3:Cg (fun k=>(u5:Value).ownBlock=some k) y2 w7:=(Cg.below _ hA2.out).grown hgrow1 (fun k e=>Or.inl e);have hbk:=HD (fun k (e:(u5:Value).ownBlock=some k)=>(hG.out.own.lt k e).1);have hlo:=hR2.out.lo;have hb2:=hR2.out.bel.size;refine⟨j,A++[c],s2,_,_,by omega,by go_num,HD (by rw[List.length_append];exact hF2.out),HD (hr'.out),HD (hR2.out.cg hc3 (fun k e=>?_)),HD hP,HD (hc.out.trans' hc3 (fun k e=>Or.inr (hbk.out k e)))⟩;have:=hbk.out k e;exact⟨by omega,by omega⟩
    case measure=>simp[intOf]
set_option maxHeartbeats 16000000 in
theorem growc_c {w y:World} {p:Nat} {v:Value} {s:Rd8} (h:RI w y p v s) (hs:s.1.length≤100000) :
  Calls Tryz.prog 71 #[.pointer (some ⟨p,0,none⟩),.func (.func 72) #[.pointer (some ⟨p,0,none⟩)] #[]] y fun e y'=>(∃ u A I,e=.returned u∧GrC y.heap.size y' I u A∧(A.map (·.1))=(rowL clL s).1)∧(∃ v',RI w y' p v' (rowL clL s).2)∧Cg (fun k=>k=p) y y':=by
 obtain⟨i0,hi0,hz0,hz1,hz2⟩:=info_parts infoCls;have hmx:400000≤maxLen:=by decide
 have P0:=length_c h;have hbd:=lenL_pos s;have hle:=lenL_eat.le s;have hl31:=lenL_R h.bd;have hr:rowL clL s=manyR clL (lenL s).1.toNat [] (lenL s).2:=rfl;generalize rowL clL s=R at hr ⊢;have hpy:=h.lt;generalize lenL s=r at P0 hbd hle hr hl31;obtain⟨x,s0⟩:=r;replace hl31:x < 2147483648:=hl31;replace hbd:0≤x:=hbd;replace hle:s0.1.length≤s.1.length:=hle;obtain⟨n,rfl⟩:∃ k:Nat,x=k:=⟨x.toNat,by omega⟩
 replace hr:R=manyR clL n [] s0:=hr;have hF:=HD (Few.start s0);obtain⟨N,hN⟩:∃ N,s0.1.length=N:=⟨_,rfl⟩
 rw[hN] at hF hle;have hN1:N≤100000:=by omega
 have P1:=HD P0;replace hr:=HD hr;clear P0 h hbd hle hs hN;go_enter Tryz.func71,Tryz.ntmps71
 go_wp2_with (first | (go_at_call 96;((with_reducible refine P1.out.mono ?_);rintro e1 y1 ⟨rfl,⟨v1,hR⟩,hc⟩)))
 clear P1;have hG:Hid (GrC y.heap.size y1 (fun _=>False) (.slice none 0 0) []):=HD (GrX.nil rfl);replace hR:=HD hR;replace hc:=HD hc
 go_loopw [5,6] (fun i5 i6 wr=>∃ (j:Nat) (A:List (ClassA × Value)) (s':Rd8) (v':Value) (I:Nat→Prop),j≤n∧i6=.int .i64 j∧Hid (Few N A.length s')∧Hid (R=manyR clL j ((A.map (·.1))) s')∧Hid (RI w wr p v' s')∧Hid (GrC y.heap.size wr I i5 A)∧Hid (Cg (fun k=>k=p) y wr)) (fun _ i6 _=>(intOf i6).toNat)
 case atStart=>exact⟨n,[],s0,_,_,Nat.le_refl _,rfl,hF,hr,hR,hG,hc⟩
 case round =>
  clear hR hc hG hr hF;obtain⟨j,A,s',v',I,hjn,rfl,hF,hr,hR,hG,hc⟩:=hrel;have c1:=hR.out.c1;obtain⟨M,b⟩:=s';simp only at c1;cases j with
  | zero =>
   have d1:decide ((0:Int) < ((0:Nat):Int))=false:=by decide
   have hr':Hid (R=((A.map (·.1)),(M,b))):=HD hr.out;clear hr
   go_wp2
   go_ret;rw[hr'.out];exact⟨⟨_,A,I,rfl,hG.out,rfl⟩,⟨_,hR.out⟩,hc.out⟩
  | succ j =>
   have d1:decide ((0:Int) < ((j+1:Nat):Int))=true:=by simp
   cases b with
   | true =>
    have hr':Hid (R=((A.map (·.1)),(M,true))):=HD hr.out;clear hr
    go_wp2
    go_ret;rw[hr'.out];exact⟨⟨_,A,I,rfl,hG.out,rfl⟩,⟨_,hR.out⟩,hc.out⟩
   | false =>
    have hr':R=manyR clL j ((A.map (·.1))++[(clL (M,false)).1]) (clL (M,false)).2:=hr.out;have hF2:=hF.out.next rfl (clL_eat.lt (M,false));have hn:=hF.out.1;have P1:=class_g hR.out (by have:=hF.out.2 rfl;simp only at this;show M.length≤100000;omega);generalize clL (M,false)=q at P1 hr' hF2;obtain⟨c,s2⟩:=q;simp only at P1 hr' hF2;replace P1:=HD P1;replace hr':=HD hr';replace hF2:=HD hF2;have hlt:=HD (fun k hk=>(hG.out.own.lt k hk).2);have hyr:=hc.out.size;clear hr hF
    go_wp2_with (first | (go_at_call 72;((with_reducible refine P1.out.mono ?_);rintro e1 y2 ⟨⟨bv,J,rfl,hX,⟨ba,bm,bc,rfl⟩⟩,⟨v2,hR2⟩,hc2⟩;replace hX:=HD hX;replace hG:=HD (hG.out.cg hc2 (fun k e=>by omega));replace hc:=HD (hc.out.trans hc2);have hys:=hc2.size;replace hR2:=HD hR2;clear P1 hc2;have hA2:=(Below.refl y2.heap.size y2).alloc (Nat.le_refl _) (.cells #[.string c.nm,.int .i64 c.super,.int .i64 c.fields,.slice ba bm bc] 60);have hOA:=HD (row_bel hG.out.own hA2);replace hA2:=HD hA2)) | (at_builtin;refine wpList_append_lies _ rfl (.tmp 20) (.tmp 23) 23 rfl y.heap.size 60 i0 (.agg #[.string ByteArray.empty,.int .i64 0,.int .i64 0,.slice none 0 0]) 4 56 Tryz.underlying23 hi0 hz0 hz1 hz2 rfl (by decide) u5 A.length _ (by simp[Act.eval]) hOA.out ⟨y2.heap.size,0,none⟩ 1 1 (cl4s [(c,.slice ba bm bc)]) (by simp[Act.eval]) rfl (World.news_of_block (alloc_at _ _ _ rfl)) (cl4s_one _ (fun x hx=>by obtain rfl:=List.mem_singleton.1 hx;exact⟨_,_,_,rfl⟩)) (by omega) (by omega) (by omega) (by simp only[World.size_alloc];omega) _ rfl ?_;intro g1 cap1 w7 hown1 hgrow1 hat1 hlt1))
    go_roundw
    case rel =>
     have hP:=hG.out.push (x:=(c,.slice ba bm bc)) hX.out.1 hX.out.2 hlt.out (by omega) hA2.out hown1 hgrow1 (fun k hk=>by
      have e1:g1=k:=by simpa [Value.ownBlock] using hk
      rcases hat1 with e | e
      ·exact Or.inl (by rw[← e1];exact e)
      ·exact Or.inr (by rw[← e1];exact e)) (cl4s_app' A (c,.slice ba bm bc))
     have hc3:Cg (fun k=>(u5:Value).ownBlock=some k) y2 w7:=(Cg.below _ hA2.out).grown hgrow1 (fun k e=>Or.inl e);have hbk:=HD (fun k (e:(u5:Value).ownBlock=some k)=>(hG.out.own.lt k e).1);have hlo:=hR2.out.lo;have hb2:=hR2.out.bel.size;refine⟨j,A++[(c,.slice ba bm bc)],s2,_,_,by omega,by go_num,HD (by rw[List.length_append];exact hF2.out),HD (by rw[List.map_append];exact hr'.out),HD (hR2.out.cg hc3 (fun k e=>?_)),HD hP,HD (hc.out.trans' hc3 (fun k e=>Or.inr (hbk.out k e)))⟩;have:=hbk.out k e;exact⟨by omega,by omega⟩
    case measure=>simp[intOf]
set_option maxHeartbeats 16000000 in
theorem growo_c {w y:World} {p:Nat} {v:Value} {s:Rd8} (h:RI w y p v s) (hs:s.1.length≤100000) :
  Calls Tryz.prog 75 #[.pointer (some ⟨p,0,none⟩),.func (.func 76) #[.pointer (some ⟨p,0,none⟩)] #[]] y fun e y'=>(∃ u A I,e=.returned u∧GrO y.heap.size y' I u A∧(A.map (·.1))=(rowL obL s).1)∧(∃ v',RI w y' p v' (rowL obL s).2)∧Cg (fun k=>k=p) y y':=by
 obtain⟨i0,hi0,hz0,hz1,hz2⟩:=info_parts infoObj;have hmx:400000≤maxLen:=by decide
 have P0:=length_c h;have hbd:=lenL_pos s;have hle:=lenL_eat.le s;have hl31:=lenL_R h.bd;have hr:rowL obL s=manyR obL (lenL s).1.toNat [] (lenL s).2:=rfl;generalize rowL obL s=R at hr ⊢;have hpy:=h.lt;generalize lenL s=r at P0 hbd hle hr hl31;obtain⟨x,s0⟩:=r;replace hl31:x < 2147483648:=hl31;replace hbd:0≤x:=hbd;replace hle:s0.1.length≤s.1.length:=hle;obtain⟨n,rfl⟩:∃ k:Nat,x=k:=⟨x.toNat,by omega⟩
 replace hr:R=manyR obL n [] s0:=hr;have hF:=HD (Few.start s0);obtain⟨N,hN⟩:∃ N,s0.1.length=N:=⟨_,rfl⟩
 rw[hN] at hF hle;have hN1:N≤100000:=by omega
 have P1:=HD P0;replace hr:=HD hr;clear P0 h hbd hle hs hN;go_enter Tryz.func75,Tryz.ntmps75
 go_wp2_with (first | (go_at_call 96;((with_reducible refine P1.out.mono ?_);rintro e1 y1 ⟨rfl,⟨v1,hR⟩,hc⟩)))
 clear P1;have hG:Hid (GrO y.heap.size y1 (fun _=>False) (.slice none 0 0) []):=HD (GrX.nil rfl);replace hR:=HD hR;replace hc:=HD hc
 go_loopw [5,6] (fun i5 i6 wr=>∃ (j:Nat) (A:List (ObjA × Value)) (s':Rd8) (v':Value) (I:Nat→Prop),j≤n∧i6=.int .i64 j∧Hid (Few N A.length s')∧Hid (R=manyR obL j ((A.map (·.1))) s')∧Hid (RI w wr p v' s')∧Hid (GrO y.heap.size wr I i5 A)∧Hid (Cg (fun k=>k=p) y wr)) (fun _ i6 _=>(intOf i6).toNat)
 case atStart=>exact⟨n,[],s0,_,_,Nat.le_refl _,rfl,hF,hr,hR,hG,hc⟩
 case round =>
  clear hR hc hG hr hF;obtain⟨j,A,s',v',I,hjn,rfl,hF,hr,hR,hG,hc⟩:=hrel;have c1:=hR.out.c1;obtain⟨M,b⟩:=s';simp only at c1;cases j with
  | zero =>
   have d1:decide ((0:Int) < ((0:Nat):Int))=false:=by decide
   have hr':Hid (R=((A.map (·.1)),(M,b))):=HD hr.out;clear hr
   go_wp2
   go_ret;rw[hr'.out];exact⟨⟨_,A,I,rfl,hG.out,rfl⟩,⟨_,hR.out⟩,hc.out⟩
  | succ j =>
   have d1:decide ((0:Int) < ((j+1:Nat):Int))=true:=by simp
   cases b with
   | true =>
    have hr':Hid (R=((A.map (·.1)),(M,true))):=HD hr.out;clear hr
    go_wp2
    go_ret;rw[hr'.out];exact⟨⟨_,A,I,rfl,hG.out,rfl⟩,⟨_,hR.out⟩,hc.out⟩
   | false =>
    have hr':R=manyR obL j ((A.map (·.1))++[(obL (M,false)).1]) (obL (M,false)).2:=hr.out;have hF2:=hF.out.next rfl (obL_eat.lt (M,false));have hn:=hF.out.1;have P1:=obj_g hR.out (by have:=hF.out.2 rfl;simp only at this;show M.length≤100000;omega);generalize obL (M,false)=q at P1 hr' hF2;obtain⟨c,s2⟩:=q;simp only at P1 hr' hF2;replace P1:=HD P1;replace hr':=HD hr';replace hF2:=HD hF2;have hlt:=HD (fun k hk=>(hG.out.own.lt k hk).2);have hyr:=hc.out.size;clear hr hF
    go_wp2_with (first | (go_at_call 76;((with_reducible refine P1.out.mono ?_);rintro e1 y2 ⟨⟨bv,J,rfl,hX,⟨ba,bm,bc,rfl⟩⟩,⟨v2,hR2⟩,hc2⟩;replace hX:=HD hX;replace hG:=HD (hG.out.cg hc2 (fun k e=>by omega));replace hc:=HD (hc.out.trans hc2);have hys:=hc2.size;replace hR2:=HD hR2;clear P1 hc2;have hA2:=(Below.refl y2.heap.size y2).alloc (Nat.le_refl _) (.cells #[.int .i64 c.cls,.slice ba bm bc] 55);have hOA:=HD (row_bel hG.out.own hA2);replace hA2:=HD hA2)) | (at_builtin;refine wpList_append_lies _ rfl (.tmp 20) (.tmp 23) 25 rfl y.heap.size 55 i0 (.agg #[.int .i64 0,.slice none 0 0]) 2 32 Tryz.underlying25 hi0 hz0 hz1 hz2 rfl (by decide) u5 A.length _ (by simp[Act.eval]) hOA.out ⟨y2.heap.size,0,none⟩ 1 1 (ob2s [(c,.slice ba bm bc)]) (by simp[Act.eval]) rfl (World.news_of_block (alloc_at _ _ _ rfl)) (ob2s_one _ (fun x hx=>by obtain rfl:=List.mem_singleton.1 hx;exact⟨_,_,_,rfl⟩)) (by omega) (by omega) (by omega) (by simp only[World.size_alloc];omega) _ rfl ?_;intro g1 cap1 w7 hown1 hgrow1 hat1 hlt1))
    go_roundw
    case rel =>
     have hP:=hG.out.push (x:=(c,.slice ba bm bc)) hX.out.1 hX.out.2 hlt.out (by omega) hA2.out hown1 hgrow1 (fun k hk=>by
      have e1:g1=k:=by simpa [Value.ownBlock] using hk
      rcases hat1 with e | e
      ·exact Or.inl (by rw[← e1];exact e)
      ·exact Or.inr (by rw[← e1];exact e)) (ob2s_app' A (c,.slice ba bm bc))
     have hc3:Cg (fun k=>(u5:Value).ownBlock=some k) y2 w7:=(Cg.below _ hA2.out).grown hgrow1 (fun k e=>Or.inl e);have hbk:=HD (fun k (e:(u5:Value).ownBlock=some k)=>(hG.out.own.lt k e).1);have hlo:=hR2.out.lo;have hb2:=hR2.out.bel.size;refine⟨j,A++[(c,.slice ba bm bc)],s2,_,_,by omega,by go_num,HD (by rw[List.length_append];exact hF2.out),HD (by rw[List.map_append];exact hr'.out),HD (hR2.out.cg hc3 (fun k e=>?_)),HD hP,HD (hc.out.trans' hc3 (fun k e=>Or.inr (hbk.out k e)))⟩;have:=hbk.out k e;exact⟨by omega,by omega⟩
    case measure=>simp[intOf]
set_option maxHeartbeats 16000000 in
theorem growm_c {w y:World} {p:Nat} {v:Value} {s:Rd8} (h:RI w y p v s) (hs:s.1.length≤100000) :
  Calls Tryz.prog 73 #[.pointer (some ⟨p,0,none⟩),.func (.func 74) #[.pointer (some ⟨p,0,none⟩)] #[]] y fun e y'=>(∃ u A I,e=.returned u∧GrM y.heap.size y' I u A∧(A.map (·.1))=(rowL mtL s).1)∧(∃ v',RI w y' p v' (rowL mtL s).2)∧Cg (fun k=>k=p) y y':=by
 obtain⟨i0,hi0,hz0,hz1,hz2⟩:=info_parts infoMeth;have hmx:400000≤maxLen:=by decide
 have P0:=length_c h;have hbd:=lenL_pos s;have hle:=lenL_eat.le s;have hl31:=lenL_R h.bd;have hr:rowL mtL s=manyR mtL (lenL s).1.toNat [] (lenL s).2:=rfl;generalize rowL mtL s=R at hr ⊢;have hpy:=h.lt;generalize lenL s=r at P0 hbd hle hr hl31;obtain⟨x,s0⟩:=r;replace hl31:x < 2147483648:=hl31;replace hbd:0≤x:=hbd;replace hle:s0.1.length≤s.1.length:=hle;obtain⟨n,rfl⟩:∃ k:Nat,x=k:=⟨x.toNat,by omega⟩
 replace hr:R=manyR mtL n [] s0:=hr;have hF:=HD (Few.start s0);obtain⟨N,hN⟩:∃ N,s0.1.length=N:=⟨_,rfl⟩
 rw[hN] at hF hle;have hN1:N≤100000:=by omega
 have P1:=HD P0;replace hr:=HD hr;clear P0 h hbd hle hs hN;go_enter Tryz.func73,Tryz.ntmps73
 go_wp2_with (first | (go_at_call 96;((with_reducible refine P1.out.mono ?_);rintro e1 y1 ⟨rfl,⟨v1,hR⟩,hc⟩)))
 clear P1;have hG:Hid (GrM y.heap.size y1 (fun _=>False) (.slice none 0 0) []):=HD (GrX.nil rfl);replace hR:=HD hR;replace hc:=HD hc
 go_loopw [5,6] (fun i5 i6 wr=>∃ (j:Nat) (A:List (MethA × Value × Value)) (s':Rd8) (v':Value) (I:Nat→Prop),j≤n∧i6=.int .i64 j∧Hid (Few N A.length s')∧Hid (R=manyR mtL j ((A.map (·.1))) s')∧Hid (RI w wr p v' s')∧Hid (GrM y.heap.size wr I i5 A)∧Hid (Cg (fun k=>k=p) y wr)) (fun _ i6 _=>(intOf i6).toNat)
 case atStart=>exact⟨n,[],s0,_,_,Nat.le_refl _,rfl,hF,hr,hR,hG,hc⟩
 case round =>
  clear hR hc hG hr hF;obtain⟨j,A,s',v',I,hjn,rfl,hF,hr,hR,hG,hc⟩:=hrel;have c1:=hR.out.c1;obtain⟨M,b⟩:=s';simp only at c1;cases j with
  | zero =>
   have d1:decide ((0:Int) < ((0:Nat):Int))=false:=by decide
   have hr':Hid (R=((A.map (·.1)),(M,b))):=HD hr.out;clear hr
   go_wp2
   go_ret;rw[hr'.out];exact⟨⟨_,A,I,rfl,hG.out,rfl⟩,⟨_,hR.out⟩,hc.out⟩
  | succ j =>
   have d1:decide ((0:Int) < ((j+1:Nat):Int))=true:=by simp
   cases b with
   | true =>
    have hr':Hid (R=((A.map (·.1)),(M,true))):=HD hr.out;clear hr
    go_wp2
    go_ret;rw[hr'.out];exact⟨⟨_,A,I,rfl,hG.out,rfl⟩,⟨_,hR.out⟩,hc.out⟩
   | false =>
    have hr':R=manyR mtL j ((A.map (·.1))++[(mtL (M,false)).1]) (mtL (M,false)).2:=hr.out;have hF2:=hF.out.next rfl (mtL_eat.lt (M,false));have hn:=hF.out.1;have P1:=method_g hR.out (by have:=hF.out.2 rfl;simp only at this;show M.length≤100000;omega);generalize mtL (M,false)=q at P1 hr' hF2;obtain⟨c,s2⟩:=q;simp only at P1 hr' hF2;replace P1:=HD P1;replace hr':=HD hr';replace hF2:=HD hF2;have hlt:=HD (fun k hk=>(hG.out.own.lt k hk).2);have hyr:=hc.out.size;clear hr hF
    go_wp2_with (first | (go_at_call 74;((with_reducible refine P1.out.mono ?_);rintro e1 y2 ⟨⟨lv,cv,J,rfl,hX,⟨la,lm,lc,rfl⟩,⟨ca,cm,cc,rfl⟩⟩,⟨v2,hR2⟩,hc2⟩;replace hX:=HD hX;replace hG:=HD (hG.out.cg hc2 (fun k e=>by omega));replace hc:=HD (hc.out.trans hc2);have hys:=hc2.size;replace hR2:=HD hR2;clear P1 hc2;have hA2:=(Below.refl y2.heap.size y2).alloc (Nat.le_refl _) (.cells #[.int .i64 c.args,.int .i64 c.temps,.slice la lm lc,.slice ca cm cc] 63);have hOA:=HD (row_bel hG.out.own hA2);replace hA2:=HD hA2)) | (at_builtin;refine wpList_append_lies _ rfl (.tmp 20) (.tmp 23) 24 rfl y.heap.size 63 i0 (.agg #[.int .i64 0,.int .i64 0,.slice none 0 0,.slice none 0 0]) 4 64 Tryz.underlying24 hi0 hz0 hz1 hz2 rfl (by decide) u5 A.length _ (by simp[Act.eval]) hOA.out ⟨y2.heap.size,0,none⟩ 1 1 (mt4s [(c,.slice la lm lc,.slice ca cm cc)]) (by simp[Act.eval]) rfl (World.news_of_block (alloc_at _ _ _ rfl)) (mt4s_one _ (fun x hx=>by obtain rfl:=List.mem_singleton.1 hx;exact⟨⟨_,_,_,rfl⟩,_,_,_,rfl⟩)) (by omega) (by omega) (by omega) (by simp only[World.size_alloc];omega) _ rfl ?_;intro g1 cap1 w7 hown1 hgrow1 hat1 hlt1))
    go_roundw
    case rel =>
     have hP:=hG.out.push (x:=(c,.slice la lm lc,.slice ca cm cc)) hX.out.1 hX.out.2 hlt.out (by omega) hA2.out hown1 hgrow1 (fun k hk=>by
      have e1:g1=k:=by simpa [Value.ownBlock] using hk
      rcases hat1 with e | e
      ·exact Or.inl (by rw[← e1];exact e)
      ·exact Or.inr (by rw[← e1];exact e)) (mt4s_app' A (c,.slice la lm lc,.slice ca cm cc))
     have hc3:Cg (fun k=>(u5:Value).ownBlock=some k) y2 w7:=(Cg.below _ hA2.out).grown hgrow1 (fun k e=>Or.inl e);have hbk:=HD (fun k (e:(u5:Value).ownBlock=some k)=>(hG.out.own.lt k e).1);have hlo:=hR2.out.lo;have hb2:=hR2.out.bel.size;refine⟨j,A++[(c,.slice la lm lc,.slice ca cm cc)],s2,_,_,by omega,by go_num,HD (by rw[List.length_append];exact hF2.out),HD (by rw[List.map_append];exact hr'.out),HD (hR2.out.cg hc3 (fun k e=>?_)),HD hP,HD (hc.out.trans' hc3 (fun k e=>Or.inr (hbk.out k e)))⟩;have:=hbk.out k e;exact⟨by omega,by omega⟩
    case measure=>simp[intOf]
theorem bys_app (A B:List Int):bys (A++B)=bys A++bys B:=by simp[bys]
theorem bys_len (L:List Int):(bys L).length=L.length:=by simp[bys]
theorem umask15 (n:Int):bits .and .i64 n 15=n % 16:=by
 have h127:(BitVec.ofInt 64 15).toNat=2 ^ 4 - 1:=by decide
 have key:(BitVec.ofInt 64 n &&& BitVec.ofInt 64 15).toNat=(n % ((2 ^ 64:Nat):Int)).toNat % 2 ^ 4:=by
  rw[BitVec.toNat_and,BitVec.toNat_ofInt,h127,Nat.and_two_pow_sub_one_eq_mod]
 show IntKind.i64.wrap ((BitVec.ofInt 64 n &&& BitVec.ofInt 64 15).toNat:Nat)=n % 16;rw[key,IntKind.wrap_i64];omega
theorem umask7 (n:Int):bits .and .i64 n 7=n % 8:=by
 have h127:(BitVec.ofInt 64 7).toNat=2 ^ 3 - 1:=by decide
 have key:(BitVec.ofInt 64 n &&& BitVec.ofInt 64 7).toNat=(n % ((2 ^ 64:Nat):Int)).toNat % 2 ^ 3:=by
  rw[BitVec.toNat_and,BitVec.toNat_ofInt,h127,Nat.and_two_pow_sub_one_eq_mod]
 show IntKind.i64.wrap ((BitVec.ofInt 64 n &&& BitVec.ofInt 64 7).toNat:Nat)=n % 8;rw[key,IntKind.wrap_i64];omega
theorem umask3 (n:Int):bits .and .i64 n 3=n % 4:=by
 have h127:(BitVec.ofInt 64 3).toNat=2 ^ 2 - 1:=by decide
 have key:(BitVec.ofInt 64 n &&& BitVec.ofInt 64 3).toNat=(n % ((2 ^ 64:Nat):Int)).toNat % 2 ^ 2:=by
  rw[BitVec.toNat_and,BitVec.toNat_ofInt,h127,Nat.and_two_pow_sub_one_eq_mod]
 show IntKind.i64.wrap ((BitVec.ofInt 64 n &&& BitVec.ofInt 64 3).toNat:Nat)=n % 4;rw[key,IntKind.wrap_i64];omega
theorem umask1 (n:Int):bits .and .i64 n 1=n % 2:=by
 have h127:(BitVec.ofInt 64 1).toNat=2 ^ 1 - 1:=by decide
 have key:(BitVec.ofInt 64 n &&& BitVec.ofInt 64 1).toNat=(n % ((2 ^ 64:Nat):Int)).toNat % 2 ^ 1:=by
  rw[BitVec.toNat_and,BitVec.toNat_ofInt,h127,Nat.and_two_pow_sub_one_eq_mod]
 show IntKind.i64.wrap ((BitVec.ofInt 64 n &&& BitVec.ofInt 64 1).toNat:Nat)=n % 2;rw[key,IntKind.wrap_i64];omega
def ulenAt (v:Option Value):Nat:=match v with | some (.slice _ n _)=>n | _=>0
theorem rd_obj (w:World) (x:Int) (a:Option Addr) (n c:Nat) (t:TypeId) (L:List (Int × Int)):∀ j u,(ob2s [((⟨x,L⟩:ObjA),Value.slice a n c)])[j]?=some u→(w.alloc (.cells #[.int .i64 x,.slice a n c] t)).cell? ((⟨w.heap.size,0,none⟩:Addr).add j)=some u:=by
 intro j u hj;rw[Addr.add_lit];rw[World.cell?_alloc_new,← hj]
 match j with
 | 0=>rfl
 | 1=>rfl
 | j+2=>simp[ob2s]
theorem rd_pair (w:World) (x y:Int) (t:TypeId):∀ j u,(pr2 [(x,y)])[j]?=some u→(w.alloc (.cells #[.int .i64 x,.int .i64 y] t)).cell? ((⟨w.heap.size,0,none⟩:Addr).add j)=some u:=by
 intro j u hj;rw[Addr.add_lit];rw[World.cell?_alloc_new,← hj]
 match j with
 | 0=>rfl
 | 1=>rfl
 | j+2=>simp[pr2]
theorem app_two {W w3 w4:World} {v3 v4:Value} {o:Obj} {L:List (Int × Int)} {p:Int × Int} {t:TypeId} {s nx:Nat} (hl:nx=L.length) (B3:Below W.heap.size W w3) (na3:∀ k,v3.ownBlock=some k→W.heap.size≤k) (ho:w4.ownsRow (s+2) t 2 v4 (nx+1) (pr2 L++pr2 [p])) (hg:(w3.alloc o).grownBy w4 v3.ownBlock) (hat:v4.ownBlock=v3.ownBlock∨v4.ownBlock=some (w3.alloc o).heap.size) (hb:∀ x∈L,In64 x.1∧In64 x.2) (hp:In64 p.1∧In64 p.2) :
  Below W.heap.size W w4∧(∀ k,v4.ownBlock=some k→W.heap.size≤k)∧PrV w4 v4 (L++[p]):=by
 have hs:=B3.size;refine⟨(B3.alloc hs o).grown hg (by simp only[World.size_alloc];omega) na3,fun k hk=>?_,PrV.own (by rw[List.length_append,List.length_singleton,← hl,pr2_app];exact ho) (fun y hy=>?_)⟩
 ·rcases hat with e | e
  ·exact na3 k (by rw[← e];exact hk)
  ·rw[e] at hk;have:(w3.alloc o).heap.size=k:=Option.some.inj hk;simp only[World.size_alloc] at this;omega
 ·rcases List.mem_append.1 hy with hy | hy
  ·exact hb y hy
  ·rw[List.mem_singleton.1 hy];exact hp
section
variable {w0 W w4:World} {b:Nat} {N:List ByteArray} {T:List (ClassA × Value)} {M:List (MethA × Value × Value)} {O:List (ObjA × Value)} {nv cv mv ov v4:Value} {main:Int}
theorem OU.bind {g n cp k:Nat} {cx:ClassA} {bv:Value} {p:Int × Int} (h:OU w0 W (fun _=>False) b N T M O nv (.slice (some ⟨g,0,none⟩) n cp) mv ov main) (hn:T.length=n) (hx:T[k]?=some (cx,bv)) (hb4:(cx.binds++[p]).length≤b+50) (B4:Below W.heap.size W w4) (na4:∀ k,v4.ownBlock=some k→W.heap.size≤k) (hp:PrV w4 v4 (cx.binds++[p])):w4.cell? ⟨g,k*4+3,none⟩=some bv∧w4.frozen? ⟨g,k*4+3,none⟩=false∧OUf w0 (w4.setCell ⟨g,k*4+3,none⟩ v4) (b+50):=by
 have hk:=(List.getElem?_eq_some_iff.1 hx).1;have h1:=(h.more (b':=b+50) (I':=fun q=>v4.ownBlock=some q) (by omega) (fun q e=>e.elim) (fun q e=>Or.inr (na4 q e))).up B4;have ho:=h1.oc;rw[hn] at ho;have hget:=cl4s_get T k _ hx;have hup:=cl4s_set T k _ (cx.binds++[p]) v4 hx;simp only at hget hup;obtain⟨s0,f0,nb,pb⟩:=h1.ic _ (List.mem_of_getElem? hx);simp only at s0 f0 nb pb;refine⟨(ho.cellAt (k*4+3) (by omega)).trans hget.2.2.2,ho.frozenAt (k*4+3),?_⟩;exact (h1.cls (k:=k) (j:=3) (y:=(⟨cx.nm,cx.super,cx.fields,cx.binds++[p]⟩,v4)) (u:=v4) hn hup ⟨s0,f0,hb4,StP.new hp (fun q e=>e)⟩ (h1.cs (cx,bv) (List.mem_of_getElem? hx))).fin (Nat.le_refl _)
theorem OU.litr {g n cp k:Nat} {mx:MethA} {lv kv:Value} {p:Int × Int} (h:OU w0 W (fun _=>False) b N T M O nv cv (.slice (some ⟨g,0,none⟩) n cp) ov main) (hn:M.length=n) (hx:M[k]?=some (mx,lv,kv)) (hb4:(mx.lits++[p]).length≤b+50) (B4:Below W.heap.size W w4) (na4:∀ k,v4.ownBlock=some k→W.heap.size≤k) (hp:PrV w4 v4 (mx.lits++[p])):w4.cell? ⟨g,k*4+2,none⟩=some lv∧w4.frozen? ⟨g,k*4+2,none⟩=false∧OUf w0 (w4.setCell ⟨g,k*4+2,none⟩ v4) (b+50):=by
 have hk:=(List.getElem?_eq_some_iff.1 hx).1;have h1:=(h.more (b':=b+50) (I':=fun q=>v4.ownBlock=some q) (by omega) (fun q e=>e.elim) (fun q e=>Or.inr (na4 q e))).up B4;have ho:=h1.om;rw[hn] at ho;have hget:=mt4s_get M k _ hx;have hup:=(mt4s_row M k _ hx (mx.lits++[p]) [] v4).1;simp only at hget hup;obtain⟨s0,f0,nl,nk,pl,pk⟩:=h1.im _ (List.mem_of_getElem? hx);simp only at s0 f0 nl nk pl pk;refine⟨(ho.cellAt (k*4+2) (by omega)).trans hget.2.2.1,ho.frozenAt (k*4+2),?_⟩;exact (h1.met (k:=k) (j:=2) (y:=(⟨mx.args,mx.temps,mx.lits++[p],mx.code⟩,v4,kv)) (u:=v4) hn hup ⟨s0,f0,hb4,nk,StP.new hp (fun q e=>e),pk⟩).fin (Nat.le_refl _)
theorem OU.coder {g n cp k:Nat} {mx:MethA} {lv kv:Value} {C:List Int} (h:OU w0 W (fun _=>False) b N T M O nv cv (.slice (some ⟨g,0,none⟩) n cp) ov main) (hn:M.length=n) (hx:M[k]?=some (mx,lv,kv)) (hb4:C.length≤b+50) (B4:Below W.heap.size W w4) (na4:∀ k,v4.ownBlock=some k→W.heap.size≤k) (hp:ByV w4 v4 C):w4.cell? ⟨g,k*4+3,none⟩=some kv∧w4.frozen? ⟨g,k*4+3,none⟩=false∧OUf w0 (w4.setCell ⟨g,k*4+3,none⟩ v4) (b+50):=by
 have hk:=(List.getElem?_eq_some_iff.1 hx).1;have h1:=(h.more (b':=b+50) (I':=fun q=>v4.ownBlock=some q) (by omega) (fun q e=>e.elim) (fun q e=>Or.inr (na4 q e))).up B4;have ho:=h1.om;rw[hn] at ho;have hget:=mt4s_get M k _ hx;have hup:=(mt4s_row M k _ hx [] C v4).2;simp only at hget hup;obtain⟨s0,f0,nl,nk,pl,pk⟩:=h1.im _ (List.mem_of_getElem? hx);simp only at s0 f0 nl nk pl pk;refine⟨(ho.cellAt (k*4+3) (by omega)).trans hget.2.2.2,ho.frozenAt (k*4+3),?_⟩;exact (h1.met (k:=k) (j:=3) (y:=(⟨mx.args,mx.temps,mx.lits,C⟩,lv,v4)) (u:=v4) hn hup ⟨s0,f0,nl,hb4,pl,StB.new hp (fun q e=>e)⟩).fin (Nat.le_refl _)
theorem OU.fldr {g n cp k:Nat} {ox:ObjA} {fv:Value} {p:Int × Int} (h:OU w0 W (fun _=>False) b N T M O nv cv mv (.slice (some ⟨g,0,none⟩) n cp) main) (hn:O.length=n) (hx:O[k]?=some (ox,fv)) (hb4:(ox.flds++[p]).length≤b+50) (B4:Below W.heap.size W w4) (na4:∀ k,v4.ownBlock=some k→W.heap.size≤k) (hp:PrV w4 v4 (ox.flds++[p])):w4.cell? ⟨g,k*2+1,none⟩=some fv∧w4.frozen? ⟨g,k*2+1,none⟩=false∧OUf w0 (w4.setCell ⟨g,k*2+1,none⟩ v4) (b+50):=by
 have hk:=(List.getElem?_eq_some_iff.1 hx).1;have h1:=(h.more (b':=b+50) (I':=fun q=>v4.ownBlock=some q) (by omega) (fun q e=>e.elim) (fun q e=>Or.inr (na4 q e))).up B4;have ho:=h1.oo;rw[hn] at ho;have hget:=ob2s_get O k _ hx;have hup:=(ob2s_up O k _ hx 0 (ox.flds++[p]) v4).2;simp only at hget hup;obtain⟨s0,nf,pf⟩:=h1.io _ (List.mem_of_getElem? hx);simp only at s0 nf pf;refine⟨(ho.cellAt (k*2+1) (by omega)).trans hget.2,ho.frozenAt (k*2+1),?_⟩;exact (h1.obj (k:=k) (j:=1) (y:=(⟨ox.cls,ox.flds++[p]⟩,v4)) (u:=v4) hn hup ⟨s0,hb4,StP.new hp (fun q e=>e)⟩).fin (Nat.le_refl _)
end
structure OL (w0 wr:World) (b:Nat) (N:List ByteArray) (T:List (ClassA × Value)) (M:List (MethA × Value × Value)) (O:List (ObjA × Value)) (nv cv mv ov:Value) (main:Int) (k:Nat) (c:Int) (B:List (Int × Int)) (g3 n3 c3:Nat):Prop where
 bx:OB w0 wr nv cv mv ov main
 on:wr.ownsRow (w0.heap.size+2) 9 1 nv N.length (strs N)
 oc:wr.ownsRow (w0.heap.size+2) 60 4 cv T.length (cl4s T)
 om:wr.ownsRow (w0.heap.size+2) 63 4 mv M.length (mt4s M)
 oo:wr.ownsRow (w0.heap.size+2) 55 2 ov O.length (ob2s (O.set k (⟨c,B⟩,.slice (some ⟨g3,0,none⟩) n3 c3)))
 o3:wr.ownsRow (w0.heap.size+2) 68 2 (.slice (some ⟨g3,0,none⟩) n3 c3) n3 (pr2 B)
 bl:B.length=n3
 b64:∀ x∈B,In64 x.1∧In64 x.2
 nb:n3≤b
 c64:In64 c
 ic:∀ x∈T,In64 x.1.super∧In64 x.1.fields∧x.1.binds.length≤b∧StP w0.heap.size (fun _=>False) wr x.2 x.1.binds
 im:∀ x∈M,In64 x.1.args∧In64 x.1.temps∧x.1.lits.length≤b∧x.1.code.length≤b∧StP w0.heap.size (fun _=>False) wr x.2.1 x.1.lits∧StB w0.heap.size (fun _=>False) wr x.2.2 x.1.code
 io:∀ x∈O,In64 x.1.cls∧x.1.flds.length≤b∧StP w0.heap.size (fun _=>False) wr x.2 x.1.flds
 a3:nv.ownBlock≠some g3∧cv.ownBlock≠some g3∧mv.ownBlock≠some g3∧ov.ownBlock≠some g3
 hk:k < O.length
 ct:1≤T.length∧1≤M.length∧1≤O.length
 cn:N.length≤b∧T.length≤b∧M.length≤b∧O.length≤b
 ns:∀ x∈N,x.size≤140737488355328
 cs:∀ x∈T,x.1.nm.size≤140737488355328
section
variable {w0 wr w1:World} {b b':Nat} {N:List ByteArray} {T:List (ClassA × Value)} {M:List (MethA × Value × Value)} {O:List (ObjA × Value)} {nv cv mv ov:Value} {main:Int} {k:Nat} {c:Int} {B:List (Int × Int)} {g3 n3 c3:Nat}
theorem ob2s_same:∀ (O:List (ObjA × Value)) (k:Nat) (c:Int) (B B':List (Int × Int)) (v:Value),ob2s (O.set k (⟨c,B⟩,v))=ob2s (O.set k (⟨c,B'⟩,v))
 | [],k,c,B,B',v=>rfl
 | x :: O,0,c,B,B',v=>rfl
 | x :: O,k+1,c,B,B',v=>by simp only[List.set_cons_succ,ob2s,ob2s_same O k c B B' v]
theorem OL.turn (h:OL w0 wr b N T M O nv cv mv ov main k c B g3 n3 c3) {B':List (Int × Int)} (cg:Cg (fun q=>q=g3) wr w1) (h3:w1.ownsRow (w0.heap.size+2) 68 2 (.slice (some ⟨g3,0,none⟩) n3 c3) n3 (pr2 B')) (hl:B'.length=n3) (hb:∀ x∈B',In64 x.1∧In64 x.2):OL w0 w1 b N T M O nv cv mv ov main k c B' g3 n3 c3:=by
 have hg:=(h.o3.lt g3 rfl).1;have hi:∀ q,q=g3→w0.heap.size≤q∧¬ False:=fun q hq=>⟨by omega,fun e=>e⟩
 obtain⟨a1,a2,a3,a4⟩:=h.a3;exact⟨h.bx.cg cg (fun q hq=>by omega),row_cg h.on cg (fun q e hf=>a1 (by rw[e,hf])),row_cg h.oc cg (fun q e hf=>a2 (by rw[e,hf])),row_cg h.om cg (fun q e hf=>a3 (by rw[e,hf])),by rw[ob2s_same O k c B' B];exact row_cg h.oo cg (fun q e hf=>a4 (by rw[e,hf])),h3,hl,hb,h.nb,h.c64,fun x hx=>by obtain⟨a,d,e,f⟩:=h.ic x hx;exact⟨a,d,e,f.cg cg hi⟩,fun x hx=>by obtain⟨a,d,e,f,p,q⟩:=h.im x hx;exact⟨a,d,e,f,p.cg cg hi,q.cg cg hi⟩,fun x hx=>by obtain⟨a,d,e⟩:=h.io x hx;exact⟨a,d,e.cg cg hi⟩,h.a3,h.hk,h.ct,h.cn,h.ns,h.cs⟩
theorem OL.up (h:OL w0 wr b N T M O nv cv mv ov main k c B g3 n3 c3) (bl:Below wr.heap.size wr w1):OL w0 w1 b N T M O nv cv mv ov main k c B g3 n3 c3 :=
 h.turn (Cg.below _ bl) (row_bel h.o3 bl) h.bl h.b64
theorem OL.fin (h:OL w0 wr b N T M O nv cv mv ov main k c B g3 n3 c3) (hb:b≤b'):OUf w0 wr b':=by
 have hF:∀ {v:Value} {e:TypeId} {sz n:Nat} {xs:List Value},wr.ownsRow (w0.heap.size+2) e sz v n xs→∀ k,v.ownBlock=some k→¬ k=w0.heap.size+1:=fun hr k hk e=>by have:=(hr.lt k hk).1;omega
 have hi:∀ k,k=w0.heap.size+1→w0.heap.size≤k∧¬ False:=fun k hk=>⟨by omega,fun e=>e⟩
 have hmem:∀ x∈O.set k (⟨c,B⟩,.slice (some ⟨g3,0,none⟩) n3 c3),x=(⟨c,B⟩,.slice (some ⟨g3,0,none⟩) n3 c3)∨x∈O:=fun x hx=>(List.mem_or_eq_of_mem_set hx).symm;refine⟨nv,cv,mv,ov,⟨N,T.map (·.1),M.map (·.1),(O.set k (⟨c,B⟩,.slice (some ⟨g3,0,none⟩) n3 c3)).map (·.1),main⟩,h.bx,fun w2 cg=>?_,?_⟩
 ·exact⟨NmV.own2 (row_cg h.on cg (hF h.on)),ClV.own (row_cg h.oc cg (hF h.oc)) (fun x hx=>by obtain⟨a,d,_,f⟩:=h.ic x hx;exact⟨a,d,(f.cg cg hi).view⟩),MtV.own (row_cg h.om cg (hF h.om)) (fun x hx=>by obtain⟨a,d,_,_,f,g⟩:=h.im x hx;exact⟨a,d,(f.cg cg hi).view,(g.cg cg hi).view⟩),ObV.own (by rw[List.length_set];exact row_cg h.oo cg (hF h.oo)) (fun x hx=>by
   rcases hmem x hx with rfl | hx
   ·have h3:=row_cg h.o3 cg (hF h.o3);rw[← h.bl] at h3;have hp:=PrV.own h3 h.b64;rw[h.bl] at hp;exact⟨h.c64,hp⟩
   ·obtain⟨a,_,f⟩:=h.io x hx;exact⟨a,(f.cg cg hi).view⟩)⟩
 ·obtain⟨p,q,r⟩:=h.ct;obtain⟨n1,n2,n3',n4⟩:=h.cn;exact⟨Nat.le_trans n1 hb,by simpa using p,by simpa using Nat.le_trans n2 hb,by simpa using q,by simpa using Nat.le_trans n3' hb,by simpa using r,by simpa using Nat.le_trans n4 hb,fun x hx=>by obtain⟨y,hy,rfl⟩:=List.mem_map.1 hx;exact Nat.le_trans (h.ic y hy).2.2.1 hb,fun x hx=>by obtain⟨y,hy,rfl⟩:=List.mem_map.1 hx;exact⟨Nat.le_trans (h.im y hy).2.2.1 hb,Nat.le_trans (h.im y hy).2.2.2.1 hb⟩,fun x hx=>by
   obtain⟨y,hy,rfl⟩:=List.mem_map.1 hx;rcases hmem y hy with rfl | hy
   ·simp only;rw[h.bl];exact Nat.le_trans h.nb hb
   ·exact Nat.le_trans (h.io y hy).2.1 hb,h.ns,fun x hx=>by obtain⟨y,hy,rfl⟩:=List.mem_map.1 hx;exact h.cs y hy⟩
theorem OL.start {w3:World} {ox:ObjA} {fv:Value} {g n cp:Nat} (h:OU w0 wr (fun _=>False) b N T M O nv cv mv (.slice (some ⟨g,0,none⟩) n cp) main) (hn:O.length=n) (hx:O[k]?=some (ox,fv)) (B3:Below wr.heap.size wr w3) (hg3:wr.heap.size≤g3) (h3:w3.ownsRow (w0.heap.size+2) 68 2 (.slice (some ⟨g3,0,none⟩) n3 c3) n3 (pr2 ox.flds)) (hl:ox.flds.length=n3) (hb:∀ x∈ox.flds,In64 x.1∧In64 x.2) :
  w3.cell? ⟨g,k*2+1,none⟩=some fv∧w3.frozen? ⟨g,k*2+1,none⟩=false∧OL w0 (w3.setCell ⟨g,k*2+1,none⟩ (.slice (some ⟨g3,0,none⟩) n3 c3)) b N T M O nv cv mv (.slice (some ⟨g,0,none⟩) n cp) main k ox.cls ox.flds g3 n3 c3:=by
 have hk:=(List.getElem?_eq_some_iff.1 hx).1;have h1:=h.up B3;have ho:=h1.oo;rw[hn] at ho;have hgl:=(h.oo.lt g rfl)
 have hget:=ob2s_get O k _ hx;have hup:=(ob2s_up O k _ hx 0 ox.flds (.slice (some ⟨g3,0,none⟩) n3 c3)).2;simp only at hget hup;have hst:=(ho.stored (k*2+1) (.slice (some ⟨g3,0,none⟩) n3 c3)).1;rw[← hup] at hst;obtain⟨a1,a2,a3,a4⟩:=h1.ap;have c:Cg (fun q=>q=g) w3 (w3.setCell ⟨g,k*2+1,none⟩ (.slice (some ⟨g3,0,none⟩) n3 c3)):=(Cg.refl (fun q=>q=g) w3).set ⟨g,k*2+1,none⟩ rfl _;have hi:∀ q,q=g→w0.heap.size≤q∧¬ False:=fun q hq=>⟨by omega,fun e=>e⟩
 obtain⟨s0,nf,_⟩:=h1.io _ (List.mem_of_getElem? hx);simp only at s0 nf;refine⟨(ho.cellAt (k*2+1) (by omega)).trans hget.2,ho.frozenAt (k*2+1),?_⟩;exact⟨h1.bx.cg c (fun q hq=>by omega),row_set h1.on _ _ (fun e=>(a1 g e).2.2.1 rfl),row_set h1.oc _ _ (fun e=>(a2 g e).2.1 rfl),row_set h1.om _ _ (fun e=>(a3 g e).1 rfl),by rw[hn];exact hst,row_set h3 _ _ (fun e=>by have:g3=g:=(by simpa [Value.ownBlock] using e);omega),hl,hb,by rw[← hl];exact nf,s0,fun x hx=>by obtain⟨a,d,e,f⟩:=h1.ic x hx;exact⟨a,d,e,f.cg c hi⟩,fun x hx=>by obtain⟨a,d,e,f,p,q⟩:=h1.im x hx;exact⟨a,d,e,f,p.cg c hi,q.cg c hi⟩,fun x hx=>by obtain⟨a,d,e⟩:=h1.io x hx;exact⟨a,d,e.cg c hi⟩,
  ⟨fun e=>by have:=(h.on.lt _ e).2;omega,fun e=>by have:=(h.oc.lt _ e).2;omega,fun e=>by have:=(h.om.lt _ e).2;omega,fun e=>by have:=(h.oo.lt _ e).2;omega⟩,hk,h1.ct,h1.cn,h1.ns,h1.cs⟩
theorem OL.cell {g n cp:Nat} (h:OL w0 wr b N T M O nv cv mv (.slice (some ⟨g,0,none⟩) n cp) main k c B g3 n3 c3) (hn:O.length=n):wr.cell? ⟨g,k*2+1,none⟩=some (.slice (some ⟨g3,0,none⟩) n3 c3):=by
 have hk:=h.hk;have ho:=h.oo;rw[hn] at ho;exact (ho.cellAt (k*2+1) (by omega)).trans (ob2s_get _ k _ (List.getElem?_set_self hk)).2
theorem pr2_two:∀ (B:List (Int × Int)) (i:Nat),i < B.length→∀ (x y:Int),pr2 (B.set i (x,y))=((pr2 B).set (i*2) (.int .i64 x)).set (i*2+1) (.int .i64 y)
 | [],i,h,_,_=>by simp at h
 | s :: T,0,_,x,y=>by simp[pr2]
 | s :: T,i+1,h,x,y=>by
  have:=pr2_two T i (by simpa using h) x y;rw[List.set_cons_succ,show (i+1)*2=i*2+2 by omega,show i*2+2+1=i*2+1+2 by omega];simp[pr2,this]
theorem OL.put (h:OL w0 wr b N T M O nv cv mv ov main k c B g3 n3 c3) {i:Nat} (hi:i < n3) (x y:Int) (hx:In64 x) (hy:In64 y):OL w0 ((wr.setCell ⟨g3,i*2,none⟩ (.int .i64 x)).setCell ⟨g3,i*2+1,none⟩ (.int .i64 y)) b N T M O nv cv mv ov main k c (B.set i (x,y)) g3 n3 c3:=by
 have h1:=(h.o3.stored (i*2) (.int .i64 x)).1;have h2:=(h1.stored (i*2+1) (.int .i64 y)).1;rw[← pr2_two B i (by have:=h.bl;omega) x y] at h2;exact h.turn (((Cg.refl (fun q=>q=g3) wr).set ⟨g3,i*2,none⟩ rfl _).set ⟨g3,i*2+1,none⟩ rfl _) h2 (by rw[List.length_set];exact h.bl) (fun z hz=>by
  rcases List.mem_or_eq_of_mem_set hz with hz | rfl
  ·exact h.b64 z hz
  ·exact⟨hx,hy⟩)
end
end Wd
end Go.Proofs.YtgfnelhbdhbklaaGreat
