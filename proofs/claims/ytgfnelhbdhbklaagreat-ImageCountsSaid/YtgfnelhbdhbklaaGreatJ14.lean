/- Texts joined: ILC. -/
import Derived.Test.YtgfnelhbdhbklaaGreatJ3
import Derived.Test.YtgfnelhbdhbklaaGreatJ13
/- The landed image, written: a class, an object, a method, rows of them. -/
namespace Go.Proofs.YtgfnelhbdhbklaaGreat
open Go.RowKit
set_option linter.unusedVariables false
set_option maxRecDepth 20000
namespace Wd
theorem step_app_rb {P : Program} {w : World} {ops : Array Oper} {o : Oper} {a : Act} {K : Act → World → Prop} {Q : Exit → Act → World → Prop} {E : Prop} (hgd : o.guard = none) (s x : Operand) (t : TypeId)
    (ho : o.op = .call { callee := .builtin .append, args := #[s, x], argTypes := #[t, t] })
    (base : Nat) (e : TypeId) (i : TypeInfo) (z : Value) (ht : P.underlying t = some (.slice e)) (hi : P.info? e = some i) (hz : i.zero = some z)
    (hsize : i.size = 1) (hby : i.bytes = 1) (hzs : z.cells.size = 1)
    (v : Value) (xs : List Value) (hs : a.eval s = v) (hown : RB w base e v xs)
    (ad : Addr) (m c : Nat) (news : List Value) (hx : a.eval x = .slice (some ad) m c) (hl : news.length = m) (hnews : ∀ j u, news[j]? = some u → w.cell? (ad.add j) = some u) (h1 : ∀ u ∈ news, u.oneCell' = true)
    (h63 : xs.length + m ≤ maxLen) (hbytes : xs.length + m ≤ 140737488355328) (hbase : base ≤ w.heap.size)
    (h : ∀ v' w', RB w' base e v' (xs ++ news) → w.grownBy w' v.ownBlock → (v'.ownBlock = v.ownBlock ∨ v'.ownBlock = some w.heap.size) → K (a.put o.dst v') w') :
    if Region.wanted o (yielded ops a.tmps) = true then Oper.wp P o a w K Q else E := by
  have hw : Region.wanted o (yielded ops a.tmps) = true := by simp [Region.wanted, hgd]
  rw [if_pos hw]
  obtain ⟨v', w', hr, h2, h3, h5⟩ := run_app_rb (P := P) w base t o.type e i z ht hi hz hsize hby hzs v xs hown ad m c news hl hnews h1 h63 hbytes hbase
  unfold Oper.wp execOp
  simp only [ho, resolve, invoke, builtin, Sem.run_bind, Sem.run_pure, Result.andThen_ok, List.map_toArray, List.map_cons, List.map_nil, hs, hx, hr]
  exact h v' w' h2 h3 h5
theorem Wr.of_app {base : Nat} {w w1 : World} {v v1 : Value} {L M : List Int} (h : RB w1 base 5 v1 (bys L ++ bys M)) (g : w.grownBy w1 v.ownBlock) (ha : v1.ownBlock = v.ownBlock ∨ v1.ownBlock = some w.heap.size) : Wr base w w1 v v1 (L ++ M) :=
  ⟨by rw [bys_cat]; exact h, (Cg.refl _ w).grown g (fun k e => Or.inl e), fun k hk => by
    rcases ha with e | e
    · exact Or.inl (by rw [← e]; exact hk)
    · rw [e] at hk
      have := Option.some.inj hk
      exact Or.inr (by omega)⟩
theorem NmV.form {w : World} {v : Value} {L : List ByteArray} (h : NmV w v L) : ∃ ad cap, v = .slice ad L.length cap ∧ L.length ≤ cap ∧ cap ≤ maxLen := by
  obtain ⟨ad, cap, e, h1, h2, _⟩ := h.ex
  exact ⟨ad, cap, e, h1, h2⟩
theorem MtV.form {w : World} {v : Value} {L : List MethA} (h : MtV w v L) : ∃ ad cap, v = .slice ad L.length cap ∧ L.length ≤ cap ∧ cap ≤ maxLen := by
  obtain ⟨ad, cap, e, h1, h2, _⟩ := h.ex
  exact ⟨ad, cap, e, h1, h2⟩
theorem ByV.news {w : World} {g off n cap : Nat} {L : List Int} (h : ByV w (.slice (some ⟨g, off, none⟩) n cap) L) : ∀ j u, (bys L)[j]? = some u → w.cell? ((⟨g, off, none⟩ : Addr).add j) = some u := by
  intro j u hu
  unfold bys at hu
  rw [List.getElem?_map] at hu
  obtain ⟨x, hx, rfl⟩ := Option.map_eq_some_iff.1 hu
  obtain ⟨_, g', off', e, c⟩ := h.at hx
  cases e
  have hadd : (⟨g, off, none⟩ : Addr).add j = ⟨g, off + j, none⟩ := by unfold Addr.add; split <;> simp_all
  rw [hadd]
  exact c
theorem ClV.two {wu wr : World} {ad : Option Addr} {n cap : Nat} {L : List ClassA} (h : ClV wu (.slice ad n cap) L) (b : Below wu.heap.size wu wr) {k : Nat} {c : ClassA} (hk : L[k]? = some c) : ∃ g off l m, ad = some ⟨g, off, none⟩ ∧ wr.cell? ⟨g, off + k * 4, none⟩ = some (.string c.nm) ∧ wr.cell? ⟨g, off + k * 4 + 1, none⟩ = some (.int .i64 c.super) ∧ wr.cell? ⟨g, off + k * 4 + 2, none⟩ = some (.int .i64 c.fields) ∧ wr.cell? ⟨g, off + k * 4 + 3, none⟩ = some (.slice l c.binds.length m) ∧ PrV wu (.slice l c.binds.length m) c.binds := by
  obtain ⟨_, _, g, off, bv, e, c0, c1, c2, c3, p⟩ := h.at hk
  obtain ⟨l, m, rfl, _, _⟩ := p.form
  exact ⟨g, off, l, m, e, cell_up b c0, cell_up b c1, cell_up b c2, cell_up b c3, p⟩
theorem ObV.two {wu wr : World} {ad : Option Addr} {n cap : Nat} {L : List ObjA} (h : ObV wu (.slice ad n cap) L) (b : Below wu.heap.size wu wr) {k : Nat} {c : ObjA} (hk : L[k]? = some c) : ∃ g off l m, ad = some ⟨g, off, none⟩ ∧ wr.cell? ⟨g, off + k * 2, none⟩ = some (.int .i64 c.cls) ∧ wr.cell? ⟨g, off + k * 2 + 1, none⟩ = some (.slice l c.flds.length m) ∧ PrV wu (.slice l c.flds.length m) c.flds := by
  obtain ⟨_, g, off, bv, e, c0, c1, p⟩ := h.at hk
  obtain ⟨l, m, rfl, _, _⟩ := p.form
  exact ⟨g, off, l, m, e, cell_up b c0, cell_up b c1, p⟩
theorem MtV.two {wu wr : World} {ad : Option Addr} {n cap : Nat} {L : List MethA} (h : MtV wu (.slice ad n cap) L) (b : Below wu.heap.size wu wr) {k : Nat} {c : MethA} (hk : L[k]? = some c) : ∃ g off l m l2 m2, ad = some ⟨g, off, none⟩ ∧ wr.cell? ⟨g, off + k * 4, none⟩ = some (.int .i64 c.args) ∧ wr.cell? ⟨g, off + k * 4 + 1, none⟩ = some (.int .i64 c.temps) ∧ wr.cell? ⟨g, off + k * 4 + 2, none⟩ = some (.slice l c.lits.length m) ∧ wr.cell? ⟨g, off + k * 4 + 3, none⟩ = some (.slice l2 c.code.length m2) ∧ PrV wu (.slice l c.lits.length m) c.lits ∧ ByV wu (.slice l2 c.code.length m2) c.code := by
  obtain ⟨ad', cap', e, _, _, h3⟩ := h.ex
  cases e
  obtain ⟨_, _, g, off, lv, cv, e, c0, c1, c2, c3, p, q⟩ := h3 k c hk
  obtain ⟨l, m, rfl, _, _⟩ := p.form
  obtain ⟨l2, m2, rfl, _, _⟩ := q.form
  exact ⟨g, off, l, m, l2, m2, e, cell_up b c0, cell_up b c1, cell_up b c2, cell_up b c3, p, q⟩
theorem txt_len (x : ByteArray) : (txt x).length = 4 + x.size := by unfold txt; rw [List.length_append, b4_len, tby_len]
theorem ByV.some {w : World} {ad : Option Addr} {n cap : Nat} {L : List Int} (h : ByV w (.slice ad n cap) L) (h0 : 0 < L.length) : ∃ g off, ad = some ⟨g, off, none⟩ := by
  obtain ⟨_, g, off, e, _⟩ := h.at (k := 0) (x := L[0]) (by simp [h0])
  exact ⟨g, off, e⟩
set_option maxHeartbeats 16000000 in
theorem pcls_c {wu w : World} {base : Nat} {v bv : Value} {L : List Int} {B : List (Int × Int)} (nm : ByteArray) (su fi : Int) (hq : wu.heap.size ≤ base) (hu : PrV wu bv B) (hbu : Below wu.heap.size wu w) (h : RB w base 5 v (bys L)) (hb : base ≤ w.heap.size) (hl : L.length + (clB ⟨nm, su, fi, B⟩).length ≤ 800000000) :
    Calls Tryz.prog 34 #[v, .agg #[.string nm, .int .i64 su, .int .i64 fi, bv]] w fun e w' => ∃ v', e = .returned v' ∧ Wr base w w' v v' (L ++ clB ⟨nm, su, fi, B⟩) := by
  have hB := Lib.hid (BX.born h hb 60 [.string nm, .int .i64 su, .int .i64 fi, bv] #[.string nm, .int .i64 su, .int .i64 fi, bv] rfl)
  have hlt0 := Lib.hid (fun k hk => (h.lt k hk).1)
  have hln : L.length + (4 + nm.size) + 4 + 4 + (rowP B).length ≤ 800000000 := by
    unfold clB txt at hl
    simp only [List.length_append, b4_len, tby_len] at hl
    omega
  have hcl : clB ⟨nm, su, fi, B⟩ = txt nm ++ b4 su ++ b4 fi ++ rowP B := rfl
  rw [hcl]
  have ltx : (txt nm).length = 4 + nm.size := by unfold txt; rw [List.length_append, b4_len, tby_len]
  obtain ⟨l2, m2, rfl, _, _⟩ := hu.form
  replace hu := Lib.hid hu
  replace hbu := Lib.hid hbu
  clear h hcl hl
  go_enter Tryz.func34, Tryz.ntmps34
  obtain ⟨s0, s1, s2, s3⟩ := hB.out.s4
  have P := Lib.hid (ptext_c hB.out.wr.rb hB.out.hb nm (by omega))
  go_upto_region 2 with (first | (go_at_call 32; ((with_reducible refine P.out.mono ?_); rintro e1 w2 ⟨v2, rfl, hw2⟩)))
  replace hB := Lib.hid (hB.out.step hw2)
  clear P hw2 s0 s1 s2 s3
  obtain ⟨s0, s1, s2, s3⟩ := hB.out.s4
  have P := Lib.hid (pnum_c hB.out.wr.rb hB.out.hb (by rw [List.length_append, ltx]; omega) su)
  go_upto_region 3 with (first | (go_at_call 39; ((with_reducible refine P.out.mono ?_); rintro e1 w3 ⟨v3, rfl, hw3⟩)))
  replace hB := Lib.hid (hB.out.step hw3)
  clear P hw3 s0 s1 s2 s3
  obtain ⟨s0, s1, s2, s3⟩ := hB.out.s4
  have P := Lib.hid (pnum_c hB.out.wr.rb hB.out.hb (by rw [List.length_append, List.length_append, ltx, b4_len]; omega) fi)
  go_upto_region 4 with (first | (go_at_call 39; ((with_reducible refine P.out.mono ?_); rintro e1 w4 ⟨v4, rfl, hw4⟩)))
  replace hB := Lib.hid (hB.out.step hw4)
  clear P hw4 s0 s1 s2 s3
  obtain ⟨s0, s1, s2, s3⟩ := hB.out.s4
  have P := Lib.hid (prowb_c hq hu.out (wr_bel hB.out.wr.cg hlt0.out hq hbu.out) hB.out.wr.rb hB.out.hb (by rw [← rowP_eq]; simp only [List.length_append, ltx, b4_len]; omega))
  go_wp2_with (first | (go_at_call 64; ((with_reducible refine P.out.mono ?_); rintro e1 w5 ⟨v5, rfl, hw5⟩)))
  go_ret
  have hf := hB.out.wr.trans hw5
  refine ⟨_, rfl, ?_⟩
  simp only [List.append_assoc] at hf ⊢
  exact hf
set_option maxHeartbeats 16000000 in
theorem pobj_c {wu w : World} {base : Nat} {v bv : Value} {L : List Int} {B : List (Int × Int)} (c : Int) (hq : wu.heap.size ≤ base) (hu : PrV wu bv B) (hbu : Below wu.heap.size wu w) (h : RB w base 5 v (bys L)) (hb : base ≤ w.heap.size) (hl : L.length + (obB ⟨c, B⟩).length ≤ 800000000) :
    Calls Tryz.prog 38 #[v, .agg #[.int .i64 c, bv]] w fun e w' => ∃ v', e = .returned v' ∧ Wr base w w' v v' (L ++ obB ⟨c, B⟩) := by
  obtain ⟨l2, m2, rfl, _, _⟩ := hu.form
  have hB := Lib.hid (BX.born h hb 55 [.int .i64 c, .slice l2 B.length m2] #[.int .i64 c, .slice l2 B.length m2] rfl)
  have hlt0 := Lib.hid (fun k hk => (h.lt k hk).1)
  have hln : L.length + 4 + (rowP B).length ≤ 800000000 := by
    unfold obB at hl
    simp only [List.length_append, b4_len] at hl
    omega
  replace hu := Lib.hid hu
  replace hbu := Lib.hid hbu
  clear h hl
  go_enter Tryz.func38, Tryz.ntmps38
  go_upto_region 1 with fail
  obtain ⟨E, hE⟩ : ∃ E, w.heap.size = E := ⟨_, rfl⟩
  obtain ⟨y0, hy0⟩ : ∃ y, w.alloc (.cells #[.int .i64 c, .slice l2 B.length m2] 55) = y := ⟨_, rfl⟩
  rw [hy0, hE] at hB
  simp only [hy0, hE]
  clear hy0
  replace hB := Lib.hid hB.out.drew
  refine wp_region_held_drew (S := (fun y => y.cell? ⟨E, 0, none⟩ = some (.int .i64 c) ∧ y.cell? ⟨E, 1, none⟩ = some (.slice l2 B.length m2))) (by kernel_rfl) ?_ (fun hHeld => ?_)
  · (try dsimp only); exact hB.out.s2
  try simp only [Act.put, nA]
  generalize y0.drew = y1 at *
  have P1 := Lib.hid (pnum_c hB.out.wr.rb hB.out.hb (by omega) c)
  refine tk (i := 0) (oi := ⟨some 5, .move (.tmp 0), 36, "put.go:43", #[], none⟩) (hy := by intro w hSw; (try dsimp only at hSw); obtain ⟨s0, s1⟩ := hSw; go_simp <;> with_reducible rfl) ?_
  try simp only [Act.put, nA]
  refine tk (i := 1) (oi := ⟨some 6, .fieldAddr 55 (.tmp 3) 0, 0, "put.go:43", #[], none⟩) (hy := by intro w hSw; (try dsimp only at hSw); obtain ⟨s0, s1⟩ := hSw; go_simp <;> with_reducible rfl) ?_
  try simp only [Act.put, nA]
  refine tk (i := 2) (oi := ⟨some 7, .load 3 (.tmp 6), 3, "put.go:43", #[⟨1, .data⟩], none⟩) (hy := by intro w hSw; (try dsimp only at hSw); obtain ⟨s0, s1⟩ := hSw; go_simp <;> with_reducible rfl) ?_
  try simp only [Act.put, nA]
  refine tk (i := 4) (oi := ⟨some 9, .fieldAddr 55 (.tmp 3) 1, 0, "put.go:43", #[], none⟩) (hy := by intro w hSw; (try dsimp only at hSw); obtain ⟨s0, s1⟩ := hSw; go_simp <;> with_reducible rfl) ?_
  try simp only [Act.put, nA]
  refine tk (i := 5) (oi := ⟨some 10, .load 53 (.tmp 9), 53, "put.go:43", #[⟨4, .data⟩], none⟩) (hy := by intro w hSw; (try dsimp only at hSw); obtain ⟨s0, s1⟩ := hSw; go_simp <;> with_reducible rfl) ?_
  try simp only [Act.put, nA]
  refine wpAnyH_ready (rs := [3]) (by kernel_rfl) (by simp) ?_
  refine AllReadyH.cons (o := ⟨some 8, .call { callee := .value (.func 39), args := #[.tmp 5, .tmp 7], argTypes := #[36, 3] }, 36, "put.go:43", #[⟨0, .data⟩, ⟨2, .data⟩], none⟩) rfl (fun K9 hK => ?_) AllReadyH.nil
  go_simp
  with_reducible refine P1.out.mono ?_
  rintro e y2 ⟨v2, rfl, hR2⟩
  replace hB := Lib.hid (hB.out.step hR2)
  clear hR2 P1
  have P2 := Lib.hid (prowv_c hq hu.out (wr_bel hB.out.wr.cg hlt0.out hq hbu.out) hB.out.wr.rb hB.out.hb (by rw [← rowP_eq]; rw [List.length_append, b4_len]; omega))
  go_wp2_with fail
  refine hK.out _ _ ?_ ?_
  · (try dsimp only); exact hB.out.s2
  clear hK K9 hHeld; intro hHeld
  try simp only [Act.put, nA]
  refine wpAnyH_ready (rs := [6]) (by kernel_rfl) (by simp) ?_
  refine AllReadyH.cons (o := ⟨some 11, .call { callee := .value (.func 66), args := #[.tmp 8, .tmp 10, .func 67], argTypes := #[36, 53, 112] }, 36, "put.go:43", #[⟨3, .data⟩, ⟨5, .data⟩, ⟨3, .chain⟩], none⟩) rfl (fun K9 hK => ?_) AllReadyH.nil
  go_simp
  with_reducible refine P2.out.mono ?_
  rintro e y3 ⟨v3, rfl, hR3⟩
  replace hB := Lib.hid (hB.out.step hR3)
  clear hR3 P2
  go_wp2_with fail
  refine hK.out _ _ ?_ ?_
  · (try dsimp only); exact hB.out.s2
  clear hK K9 hHeld; intro hHeld
  try simp only [Act.put, nA]
  refine tk (i := 7) (oi := ⟨some 4, .assign (.tmp 11), 36, "put.go:43", #[⟨6, .data⟩, ⟨6, .chain⟩, ⟨0, .phase⟩, ⟨1, .phase⟩, ⟨2, .phase⟩, ⟨3, .phase⟩, ⟨4, .phase⟩, ⟨5, .phase⟩, ⟨6, .phase⟩], none⟩) (hy := by intro w hSw; (try dsimp only at hSw); obtain ⟨s0, s1⟩ := hSw; go_simp <;> with_reducible rfl) ?_
  try simp only [Act.put, nA]
  refine wpAnyH_done (by kernel_rfl) ?_ _
  go_wp2
  go_ret
  have hf := hB.out.wr
  rw [List.append_assoc] at hf
  exact ⟨_, rfl, hf⟩
set_option maxHeartbeats 16000000 in
theorem pmet_c {wu w : World} {base : Nat} {v lv cv : Value} {L : List Int} {B : List (Int × Int)} {C : List Int} (ar tm : Int) (hq : wu.heap.size ≤ base) (hu : PrV wu lv B) (hC : ByV wu cv C) (hC0 : 0 < C.length) (hbu : Below wu.heap.size wu w) (h : RB w base 5 v (bys L)) (hb : base ≤ w.heap.size) (hl : L.length + (mtB ⟨ar, tm, B, C⟩).length ≤ 800000000) :
    Calls Tryz.prog 36 #[v, .agg #[.int .i64 ar, .int .i64 tm, lv, cv]] w fun e w' => ∃ v', e = .returned v' ∧ Wr base w w' v v' (L ++ mtB ⟨ar, tm, B, C⟩) := by
  obtain ⟨i0, hi0, hz0, hz1, hz2⟩ := info_parts infoB8
  have hmx : 2000000000 ≤ maxLen := by decide
  obtain ⟨l2, m2, rfl, _, _⟩ := hu.form
  obtain ⟨l3, m3, rfl, _, _⟩ := hC.form
  obtain ⟨g, off, rfl⟩ := hC.some hC0
  have hB := Lib.hid (BX.born h hb 63 [.int .i64 ar, .int .i64 tm, .slice l2 B.length m2, .slice (some ⟨g, off, none⟩) C.length m3] #[.int .i64 ar, .int .i64 tm, .slice l2 B.length m2, .slice (some ⟨g, off, none⟩) C.length m3] rfl)
  have hlt0 := Lib.hid (fun k hk => (h.lt k hk).1)
  have hln : L.length + 4 + 4 + (rowP B).length + 4 + C.length ≤ 800000000 := by
    unfold mtB at hl
    simp only [List.length_append, b4_len] at hl
    omega
  have hcl : mtB ⟨ar, tm, B, C⟩ = b4 ar ++ b4 tm ++ rowP B ++ (b4 C.length ++ C) := rfl
  rw [hcl]
  replace hu := Lib.hid hu
  replace hC := Lib.hid hC
  replace hbu := Lib.hid hbu
  clear h hl hcl
  go_enter Tryz.func36, Tryz.ntmps36
  obtain ⟨s0, s1, s2, s3⟩ := hB.out.s4
  have P := Lib.hid (pnum_c hB.out.wr.rb hB.out.hb (by omega) ar)
  go_upto_region 2 with (first | (go_at_call 39; ((with_reducible refine P.out.mono ?_); rintro e1 w2 ⟨v2, rfl, hw2⟩)))
  replace hB := Lib.hid (hB.out.step hw2)
  clear P hw2 s0 s1 s2 s3
  obtain ⟨s0, s1, s2, s3⟩ := hB.out.s4
  have P := Lib.hid (pnum_c hB.out.wr.rb hB.out.hb (by simp only [List.length_append, b4_len]; omega) tm)
  go_upto_region 3 with (first | (go_at_call 39; ((with_reducible refine P.out.mono ?_); rintro e1 w3 ⟨v3, rfl, hw3⟩)))
  replace hB := Lib.hid (hB.out.step hw3)
  clear P hw3 s0 s1 s2 s3
  obtain ⟨s0, s1, s2, s3⟩ := hB.out.s4
  have P := Lib.hid (prowv_c hq hu.out (wr_bel hB.out.wr.cg hlt0.out hq hbu.out) hB.out.wr.rb hB.out.hb (by rw [← rowP_eq]; simp only [List.length_append, b4_len]; omega))
  go_upto_region 4 with (first | (go_at_call 66; ((with_reducible refine P.out.mono ?_); rintro e1 y4 ⟨v4, rfl, hw4⟩)))
  replace hB := Lib.hid (hB.out.step hw4)
  clear P hw4 s0 s1 s2 s3
  replace hB := Lib.hid hB.out.drew
  rw [← rowP_eq] at hB
  generalize w.heap.size = E at hB ⊢
  refine wp_region_held_drew (S := (fun y => y.cell? ⟨E, 3, none⟩ = some (.slice (some ⟨g, off, none⟩) C.length m3))) (by kernel_rfl) ?_ (fun hHeld => ?_)
  · (try dsimp only); exact hB.out.s4.2.2.2
  try simp only [Act.put, nA]
  generalize y4.drew = y5 at *
  have P1 := Lib.hid (pnum_c hB.out.wr.rb hB.out.hb (by simp only [List.length_append, b4_len]; omega) (C.length : Int))
  refine tk (i := 0) (oi := ⟨some 17, .move (.tmp 0), 36, "put.go:39", #[], none⟩) ?_
  try simp only [Act.put, nA]
  refine tk (i := 1) (oi := ⟨some 18, .fieldAddr 63 (.tmp 3) 3, 0, "put.go:39", #[], none⟩) ?_
  try simp only [Act.put, nA]
  refine tk (i := 2) (oi := ⟨some 19, .load 36 (.tmp 18), 36, "put.go:39", #[⟨1, .data⟩], none⟩) ?_
  try simp only [Act.put, nA]
  refine tk (i := 3) (oi := ⟨some 20, .call { callee := .builtin .len, args := #[.tmp 19], argTypes := #[36] }, 3, "put.go:39", #[⟨2, .data⟩], none⟩) ?_
  try simp only [Act.put, nA]
  refine tk (i := 5) (oi := ⟨some 22, .fieldAddr 63 (.tmp 3) 3, 0, "put.go:39", #[], none⟩) ?_
  try simp only [Act.put, nA]
  refine tk (i := 6) (oi := ⟨some 23, .load 36 (.tmp 22), 36, "put.go:39", #[⟨5, .data⟩], none⟩) ?_
  try simp only [Act.put, nA]
  refine wpAnyH_ready (rs := [4]) (by kernel_rfl) (by simp) ?_
  refine AllReadyH.cons (o := ⟨some 21, .call { callee := .value (.func 39), args := #[.tmp 17, .tmp 20], argTypes := #[36, 3] }, 36, "put.go:39", #[⟨0, .data⟩, ⟨3, .data⟩], none⟩) rfl (fun K9 hK => ?_) AllReadyH.nil
  go_simp
  with_reducible refine P1.out.mono ?_
  rintro e y6 ⟨v6, rfl, hR6⟩
  replace hB := Lib.hid (hB.out.step hR6)
  clear hR6 P1
  go_wp2_with fail
  refine hK.out _ _ ?_ ?_
  · (try dsimp only); exact hB.out.s4.2.2.2
  clear hK K9 hHeld; intro hHeld
  try simp only [Act.put, nA]
  refine wpAnyH_ready (rs := [7]) (by kernel_rfl) (by simp) ?_
  refine AllReadyH.cons (o := ⟨some 24, .call { callee := .builtin .append, args := #[.tmp 21, .tmp 23], argTypes := #[36, 36] }, 36, "put.go:39", #[⟨4, .data⟩, ⟨6, .data⟩, ⟨4, .chain⟩], none⟩) rfl (fun K9 hK => ?_) AllReadyH.nil
  refine step_app_rb rfl (.tmp 21) (.tmp 23) 36 rfl base 5 i0 (.int .u8 0) Tryz.underlying36 hi0 hz0 hz1 hz2 rfl v6 (bys _) rfl hB.out.wr.rb ⟨g, off, none⟩ C.length m3 (bys C) rfl (bys_ln C) ((hC.out.up (wr_bel hB.out.wr.cg hlt0.out hq hbu.out)).news) (bys_one _) (by rw [bys_ln]; simp only [List.length_append, b4_len]; omega) (by rw [bys_ln]; simp only [List.length_append, b4_len]; omega) hB.out.hb ?_
  intro v7 y7 hown7 hgrow7 hat7
  replace hB := Lib.hid (hB.out.step (Wr.of_app hown7 hgrow7 hat7))
  clear hown7 hgrow7 hat7
  refine hK.out _ _ ?_ ?_
  · (try dsimp only); exact hB.out.s4.2.2.2
  clear hK K9 hHeld; intro hHeld
  try simp only [Act.put, nA]
  refine tk (i := 8) (oi := ⟨some 4, .assign (.tmp 24), 36, "put.go:39", #[⟨7, .data⟩, ⟨7, .chain⟩, ⟨0, .phase⟩, ⟨1, .phase⟩, ⟨2, .phase⟩, ⟨3, .phase⟩, ⟨4, .phase⟩, ⟨5, .phase⟩, ⟨6, .phase⟩, ⟨7, .phase⟩], none⟩) ?_
  try simp only [Act.put, nA]
  refine wpAnyH_done (by kernel_rfl) ?_ _
  go_wp2
  go_ret
  have hf := hB.out.wr
  refine ⟨_, rfl, ?_⟩
  simp only [List.append_assoc] at hf ⊢
  exact hf
set_option maxHeartbeats 16000000 in
theorem prows_c {wu w : World} {base : Nat} {v u : Value} {L : List Int} {V : List ByteArray} (hq : wu.heap.size ≤ base) (hu : NmV wu u V) (hbu : Below wu.heap.size wu w) (h : RB w base 5 v (bys L)) (hb : base ≤ w.heap.size) (hl : L.length + (rowB txt V).length ≤ 800000000) :
    Calls Tryz.prog 31 #[v, u, .func (.func 32) #[] #[]] w fun e w' => ∃ v', e = .returned v' ∧ Wr base w w' v v' (L ++ rowB txt V) := by
  obtain ⟨ad, cap, rfl, hcap, hmx⟩ := hu.form
  rw [rowB_fl] at hl ⊢
  rw [List.length_append, b4_len] at hl
  have hat := Lib.hid (fun k x (hx : V[k]? = some x) => fl_at (f := txt) hx)
  obtain ⟨n, hn⟩ : ∃ n, n = V.length := ⟨_, rfl⟩
  rw [← hn] at hu hcap ⊢
  have hn64 : n ≤ maxLen := by omega
  have hmx' : maxLen ≤ 9223372036854775807 := by decide
  replace hu := Lib.hid hu
  have hn' := Lib.hid hn
  replace hbu := Lib.hid hbu
  replace h := Lib.hid h
  have hlt0 := Lib.hid (fun k hk => (h.out.lt k hk).1)
  clear hmx hn
  go_enter Tryz.func31, Tryz.ntmps31
  go_wp2_with fail
  with_reducible refine (pnum_c h.out hb (by omega) _).mono ?_
  rintro e w1 ⟨v1, rfl, h1⟩
  replace h1 := Lib.hid h1
  go_wp2
  have hst : Hid (Wr base w w1 v v1 (L ++ b4 n ++ fl txt (V.take 0))) := Lib.hid (by simpa [fl] using h1.out)
  go_loopw [0, 15] (fun i0 i15 wr => ∃ (k : Nat), k ≤ n ∧ i15 = .int .i64 k ∧ Hid (Wr base w wr v i0 (L ++ b4 n ++ fl txt (V.take k)))) (fun _ i15 _ => n - (intOf i15).toNat)
  case atStart => exact ⟨0, by omega, rfl, hst⟩
  case round =>
    clear hst h1
    obtain ⟨k, hk, rfl, hR⟩ := hrel
    by_cases hlt : k < n
    · have d1 : decide ((k : Int) < (n : Int)) = true := by simp; omega
      have p0 : (0 : Int) ≤ (k : Int) := by omega
      have p1 : (k : Int) < (n : Int) := by omega
      obtain ⟨x, hx⟩ : ∃ x, V[k]? = some x := ⟨V[k]'(by have := hn'.out; omega), by simp⟩
      have hbr := wr_bel hR.out.cg hlt0.out hq hbu.out
      obtain ⟨g, off, rfl, c0⟩ := (hu.out.up hbr).at hx
      have hle : (fl txt (V.take k)).length + (txt x).length ≤ (fl txt V).length := hat.out k x hx
      have hlen : (L ++ b4 ↑n ++ fl txt (V.take k)).length + (txt x).length ≤ 800000000 := by rw [List.length_append, List.length_append, b4_len]; omega
      have hnx := Lib.hid (fl_next (f := txt) hx)
      have hsz := hR.out.cg.size
      clear hx hle
      have P := Lib.hid (ptext_c hR.out.rb (by omega) x (by rw [txt_len] at hlen; omega))
      clear hbr
      go_wp2_with (first | (go_at_call 32; ((with_reducible refine P.out.mono ?_); rintro e1 w2 ⟨v2, rfl, hw2⟩)))
      have hf := hR.out.trans hw2
      rw [List.append_assoc, ← hnx.out] at hf
      replace hf := Lib.hid hf
      clear hw2 P
      go_roundw
      case rel => exact ⟨k + 1, by omega, by go_num, hf⟩
      case measure => simp [intOf]; omega
    · have d1 : decide ((k : Int) < (n : Int)) = false := by simp; omega
      have hf := hR.out
      rw [show k = V.length by have := hn'.out; omega, List.take_length, List.append_assoc] at hf
      replace hf := Lib.hid hf
      go_wp2
      go_ret
      exact ⟨_, rfl, hf.out⟩
set_option maxHeartbeats 16000000 in
theorem prowc_c {wu w : World} {base : Nat} {v u : Value} {L : List Int} {V : List ClassA} (hq : wu.heap.size ≤ base) (hu : ClV wu u V) (hbu : Below wu.heap.size wu w) (h : RB w base 5 v (bys L)) (hb : base ≤ w.heap.size) (hl : L.length + (rowB clB V).length ≤ 800000000) :
    Calls Tryz.prog 33 #[v, u, .func (.func 34) #[] #[]] w fun e w' => ∃ v', e = .returned v' ∧ Wr base w w' v v' (L ++ rowB clB V) := by
  obtain ⟨ad, cap, rfl, hcap, hmx⟩ := hu.form
  rw [rowB_fl] at hl ⊢
  rw [List.length_append, b4_len] at hl
  have hat := Lib.hid (fun k x (hx : V[k]? = some x) => fl_at (f := clB) hx)
  obtain ⟨n, hn⟩ : ∃ n, n = V.length := ⟨_, rfl⟩
  rw [← hn] at hu hcap ⊢
  have hn64 : n ≤ maxLen := by omega
  have hmx' : maxLen ≤ 9223372036854775807 := by decide
  replace hu := Lib.hid hu
  have hn' := Lib.hid hn
  replace hbu := Lib.hid hbu
  replace h := Lib.hid h
  have hlt0 := Lib.hid (fun k hk => (h.out.lt k hk).1)
  clear hmx hn
  go_enter Tryz.func33, Tryz.ntmps33
  go_wp2_with fail
  with_reducible refine (pnum_c h.out hb (by omega) _).mono ?_
  rintro e w1 ⟨v1, rfl, h1⟩
  replace h1 := Lib.hid h1
  go_wp2
  have hst : Hid (Wr base w w1 v v1 (L ++ b4 n ++ fl clB (V.take 0))) := Lib.hid (by simpa [fl] using h1.out)
  go_loopw [0, 15] (fun i0 i15 wr => ∃ (k : Nat), k ≤ n ∧ i15 = .int .i64 k ∧ Hid (Wr base w wr v i0 (L ++ b4 n ++ fl clB (V.take k)))) (fun _ i15 _ => n - (intOf i15).toNat)
  case atStart => exact ⟨0, by omega, rfl, hst⟩
  case round =>
    clear hst h1
    obtain ⟨k, hk, rfl, hR⟩ := hrel
    by_cases hlt : k < n
    · have d1 : decide ((k : Int) < (n : Int)) = true := by simp; omega
      have p0 : (0 : Int) ≤ (k : Int) := by omega
      have p1 : (k : Int) < (n : Int) := by omega
      obtain ⟨x, hx⟩ : ∃ x, V[k]? = some x := ⟨V[k]'(by have := hn'.out; omega), by simp⟩
      have hbr := wr_bel hR.out.cg hlt0.out hq hbu.out
      obtain ⟨g, off, l1, m1, rfl, c0, c1, c2, c3, pv⟩ := hu.out.two hbr hx
      replace pv := Lib.hid pv
      have hle : (fl clB (V.take k)).length + (clB x).length ≤ (fl clB V).length := hat.out k x hx
      have hlen : (L ++ b4 ↑n ++ fl clB (V.take k)).length + (clB x).length ≤ 800000000 := by rw [List.length_append, List.length_append, b4_len]; omega
      have hnx := Lib.hid (fl_next (f := clB) hx)
      have hsz := hR.out.cg.size
      clear hx hle
      have hR0 := Lib.hid (hR.out.app (.cells #[.string x.nm, .int .i64 x.super, .int .i64 x.fields, .slice l1 x.binds.length m1] 60))
      have hbs : base ≤ (wr.alloc (.cells #[.string x.nm, .int .i64 x.super, .int .i64 x.fields, .slice l1 x.binds.length m1] 60)).heap.size := by simp only [World.size_alloc]; omega
      have P := Lib.hid (pcls_c x.nm x.super x.fields hq pv.out (hbr.trans (((Below.refl wr.heap.size wr).alloc (Nat.le_refl _) (.cells #[.string x.nm, .int .i64 x.super, .int .i64 x.fields, .slice l1 x.binds.length m1] 60)).mono hbr.size)) hR0.out.rb hbs (by omega))
      clear hbr
      go_wp2_with (first | (go_at_call 34; ((with_reducible refine P.out.mono ?_); rintro e1 w2 ⟨v2, rfl, hw2⟩)))
      have hf := hR0.out.trans hw2
      rw [List.append_assoc, ← hnx.out] at hf
      replace hf := Lib.hid hf
      clear hw2 P
      go_roundw
      case rel => exact ⟨k + 1, by omega, by go_num, hf⟩
      case measure => simp [intOf]; omega
    · have d1 : decide ((k : Int) < (n : Int)) = false := by simp; omega
      have hf := hR.out
      rw [show k = V.length by have := hn'.out; omega, List.take_length, List.append_assoc] at hf
      replace hf := Lib.hid hf
      go_wp2
      go_ret
      exact ⟨_, rfl, hf.out⟩
set_option maxHeartbeats 16000000 in
theorem prowo_c {wu w : World} {base : Nat} {v u : Value} {L : List Int} {V : List ObjA} (hq : wu.heap.size ≤ base) (hu : ObV wu u V) (hbu : Below wu.heap.size wu w) (h : RB w base 5 v (bys L)) (hb : base ≤ w.heap.size) (hl : L.length + (rowB obB V).length ≤ 800000000) :
    Calls Tryz.prog 37 #[v, u, .func (.func 38) #[] #[]] w fun e w' => ∃ v', e = .returned v' ∧ Wr base w w' v v' (L ++ rowB obB V) := by
  obtain ⟨ad, cap, rfl, hcap, hmx⟩ := hu.form
  rw [rowB_fl] at hl ⊢
  rw [List.length_append, b4_len] at hl
  have hat := Lib.hid (fun k x (hx : V[k]? = some x) => fl_at (f := obB) hx)
  obtain ⟨n, hn⟩ : ∃ n, n = V.length := ⟨_, rfl⟩
  rw [← hn] at hu hcap ⊢
  have hn64 : n ≤ maxLen := by omega
  have hmx' : maxLen ≤ 9223372036854775807 := by decide
  replace hu := Lib.hid hu
  have hn' := Lib.hid hn
  replace hbu := Lib.hid hbu
  replace h := Lib.hid h
  have hlt0 := Lib.hid (fun k hk => (h.out.lt k hk).1)
  clear hmx hn
  go_enter Tryz.func37, Tryz.ntmps37
  go_wp2_with fail
  with_reducible refine (pnum_c h.out hb (by omega) _).mono ?_
  rintro e w1 ⟨v1, rfl, h1⟩
  replace h1 := Lib.hid h1
  go_wp2
  have hst : Hid (Wr base w w1 v v1 (L ++ b4 n ++ fl obB (V.take 0))) := Lib.hid (by simpa [fl] using h1.out)
  go_loopw [0, 15] (fun i0 i15 wr => ∃ (k : Nat), k ≤ n ∧ i15 = .int .i64 k ∧ Hid (Wr base w wr v i0 (L ++ b4 n ++ fl obB (V.take k)))) (fun _ i15 _ => n - (intOf i15).toNat)
  case atStart => exact ⟨0, by omega, rfl, hst⟩
  case round =>
    clear hst h1
    obtain ⟨k, hk, rfl, hR⟩ := hrel
    by_cases hlt : k < n
    · have d1 : decide ((k : Int) < (n : Int)) = true := by simp; omega
      have p0 : (0 : Int) ≤ (k : Int) := by omega
      have p1 : (k : Int) < (n : Int) := by omega
      obtain ⟨x, hx⟩ : ∃ x, V[k]? = some x := ⟨V[k]'(by have := hn'.out; omega), by simp⟩
      have hbr := wr_bel hR.out.cg hlt0.out hq hbu.out
      obtain ⟨g, off, l1, m1, rfl, c0, c1, pv⟩ := hu.out.two hbr hx
      replace pv := Lib.hid pv
      have hle : (fl obB (V.take k)).length + (obB x).length ≤ (fl obB V).length := hat.out k x hx
      have hlen : (L ++ b4 ↑n ++ fl obB (V.take k)).length + (obB x).length ≤ 800000000 := by rw [List.length_append, List.length_append, b4_len]; omega
      have hnx := Lib.hid (fl_next (f := obB) hx)
      have hsz := hR.out.cg.size
      clear hx hle
      have hR0 := Lib.hid (hR.out.app (.cells #[.int .i64 x.cls, .slice l1 x.flds.length m1] 55))
      have hbs : base ≤ (wr.alloc (.cells #[.int .i64 x.cls, .slice l1 x.flds.length m1] 55)).heap.size := by simp only [World.size_alloc]; omega
      have P := Lib.hid (pobj_c x.cls hq pv.out (hbr.trans (((Below.refl wr.heap.size wr).alloc (Nat.le_refl _) (.cells #[.int .i64 x.cls, .slice l1 x.flds.length m1] 55)).mono hbr.size)) hR0.out.rb hbs (by omega))
      clear hbr
      go_wp2_with (first | (go_at_call 38; ((with_reducible refine P.out.mono ?_); rintro e1 w2 ⟨v2, rfl, hw2⟩)))
      have hf := hR0.out.trans hw2
      rw [List.append_assoc, ← hnx.out] at hf
      replace hf := Lib.hid hf
      clear hw2 P
      go_roundw
      case rel => exact ⟨k + 1, by omega, by go_num, hf⟩
      case measure => simp [intOf]; omega
    · have d1 : decide ((k : Int) < (n : Int)) = false := by simp; omega
      have hf := hR.out
      rw [show k = V.length by have := hn'.out; omega, List.take_length, List.append_assoc] at hf
      replace hf := Lib.hid hf
      go_wp2
      go_ret
      exact ⟨_, rfl, hf.out⟩
set_option maxHeartbeats 16000000 in
theorem prowm_c {wu w : World} {base : Nat} {v u : Value} {L : List Int} {V : List MethA} (hq : wu.heap.size ≤ base) (hu : MtV wu u V) (hbu : Below wu.heap.size wu w) (h : RB w base 5 v (bys L)) (hb : base ≤ w.heap.size) (h0 : ∀ x ∈ V, 0 < x.code.length) (hl : L.length + (rowB mtB V).length ≤ 800000000) :
    Calls Tryz.prog 35 #[v, u, .func (.func 36) #[] #[]] w fun e w' => ∃ v', e = .returned v' ∧ Wr base w w' v v' (L ++ rowB mtB V) := by
  obtain ⟨ad, cap, rfl, hcap, hmx⟩ := hu.form
  rw [rowB_fl] at hl ⊢
  rw [List.length_append, b4_len] at hl
  replace h0 := Lib.hid h0
  have hat := Lib.hid (fun k x (hx : V[k]? = some x) => fl_at (f := mtB) hx)
  obtain ⟨n, hn⟩ : ∃ n, n = V.length := ⟨_, rfl⟩
  rw [← hn] at hu hcap ⊢
  have hn64 : n ≤ maxLen := by omega
  have hmx' : maxLen ≤ 9223372036854775807 := by decide
  replace hu := Lib.hid hu
  have hn' := Lib.hid hn
  replace hbu := Lib.hid hbu
  replace h := Lib.hid h
  have hlt0 := Lib.hid (fun k hk => (h.out.lt k hk).1)
  clear hmx hn
  go_enter Tryz.func35, Tryz.ntmps35
  go_wp2_with fail
  with_reducible refine (pnum_c h.out hb (by omega) _).mono ?_
  rintro e w1 ⟨v1, rfl, h1⟩
  replace h1 := Lib.hid h1
  go_wp2
  have hst : Hid (Wr base w w1 v v1 (L ++ b4 n ++ fl mtB (V.take 0))) := Lib.hid (by simpa [fl] using h1.out)
  go_loopw [0, 15] (fun i0 i15 wr => ∃ (k : Nat), k ≤ n ∧ i15 = .int .i64 k ∧ Hid (Wr base w wr v i0 (L ++ b4 n ++ fl mtB (V.take k)))) (fun _ i15 _ => n - (intOf i15).toNat)
  case atStart => exact ⟨0, by omega, rfl, hst⟩
  case round =>
    clear hst h1
    obtain ⟨k, hk, rfl, hR⟩ := hrel
    by_cases hlt : k < n
    · have d1 : decide ((k : Int) < (n : Int)) = true := by simp; omega
      have p0 : (0 : Int) ≤ (k : Int) := by omega
      have p1 : (k : Int) < (n : Int) := by omega
      obtain ⟨x, hx⟩ : ∃ x, V[k]? = some x := ⟨V[k]'(by have := hn'.out; omega), by simp⟩
      have hbr := wr_bel hR.out.cg hlt0.out hq hbu.out
      obtain ⟨g, off, l1, m1, l2, m2, rfl, c0, c1, c2, c3, pv, pw⟩ := hu.out.two hbr hx
      replace pv := Lib.hid pv
      replace pw := Lib.hid pw
      have hx0 := h0.out x (List.mem_of_getElem? hx)
      have hle : (fl mtB (V.take k)).length + (mtB x).length ≤ (fl mtB V).length := hat.out k x hx
      have hlen : (L ++ b4 ↑n ++ fl mtB (V.take k)).length + (mtB x).length ≤ 800000000 := by rw [List.length_append, List.length_append, b4_len]; omega
      have hnx := Lib.hid (fl_next (f := mtB) hx)
      have hsz := hR.out.cg.size
      clear hx hle
      have hR0 := Lib.hid (hR.out.app (.cells #[.int .i64 x.args, .int .i64 x.temps, .slice l1 x.lits.length m1, .slice l2 x.code.length m2] 63))
      have hbs : base ≤ (wr.alloc (.cells #[.int .i64 x.args, .int .i64 x.temps, .slice l1 x.lits.length m1, .slice l2 x.code.length m2] 63)).heap.size := by simp only [World.size_alloc]; omega
      have P := Lib.hid (pmet_c x.args x.temps hq pv.out pw.out hx0 (hbr.trans (((Below.refl wr.heap.size wr).alloc (Nat.le_refl _) (.cells #[.int .i64 x.args, .int .i64 x.temps, .slice l1 x.lits.length m1, .slice l2 x.code.length m2] 63)).mono hbr.size)) hR0.out.rb hbs (by omega))
      clear hbr
      go_wp2_with (first | (go_at_call 36; ((with_reducible refine P.out.mono ?_); rintro e1 w2 ⟨v2, rfl, hw2⟩)))
      have hf := hR0.out.trans hw2
      rw [List.append_assoc, ← hnx.out] at hf
      replace hf := Lib.hid hf
      clear hw2 P
      go_roundw
      case rel => exact ⟨k + 1, by omega, by go_num, hf⟩
      case measure => simp [intOf]; omega
    · have d1 : decide ((k : Int) < (n : Int)) = false := by simp; omega
      have hf := hR.out
      rw [show k = V.length by have := hn'.out; omega, List.take_length, List.append_assoc] at hf
      replace hf := Lib.hid hf
      go_wp2
      go_ret
      exact ⟨_, rfl, hf.out⟩
end Wd
end Go.Proofs.YtgfnelhbdhbklaaGreat
