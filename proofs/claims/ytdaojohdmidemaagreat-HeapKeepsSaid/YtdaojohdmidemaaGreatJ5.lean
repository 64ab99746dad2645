/- Texts joined: EApp, EPut, EAlloc, EScan, EFlip, ENew. -/
import Derived.Test.YtdaojohdmidemaaGreatJ4
/- An append to a row of words. -/
namespace Go.Proofs.YtdaojohdmidemaaGreat
open Go.RowKit
set_option linter.unusedVariables false
namespace Wd
theorem wrds_one (L : List Int) : ∀ u ∈ wrds L, u.oneCell' = true := by
  intro u hu
  obtain ⟨x, _, rfl⟩ := List.mem_map.1 hu
  rfl
theorem wrds_len (L : List Int) : (wrds L).length = L.length * 1 := by simp [wrds]
theorem wone_at {w : World} {g : Nat} {i : Int} (h : w.cell? ⟨g, 0, none⟩ = some (.int .u32 i)) : ∀ j u, (wrds [i])[j]? = some u → w.cell? ((⟨g, 0, none⟩ : Addr).add j) = some u := by
  intro j u hu
  match j, hu with
  | 0, hu =>
    simp [wrds] at hu; subst hu
    rw [Addr.add_lit]; exact h
/-- what an append reads: nothing, or a row of numbers -/
def ReadsW (w : World) (u : Value) (M : List Int) : Prop := (u = .slice none 0 0 ∧ M = []) ∨ ∃ ad c, u = .slice (some ad) M.length c ∧ ∀ j x, (wrds M)[j]? = some x → w.cell? (ad.add j) = some x
theorem SW.reads {w : World} {v : Value} {M : List Int} (h : SW w v M) : ReadsW w v M := by
  rcases h.cases with ⟨rfl, rfl⟩ | ⟨g, cap, rfl, _, _, _, hown⟩
  · exact Or.inl ⟨rfl, rfl⟩
  · refine Or.inr ⟨_, _, rfl, fun j x hx => ?_⟩
    simp only [wrds, List.getElem?_map, Option.map_eq_some_iff] at hx
    obtain ⟨y, hy, rfl⟩ := hx
    rw [Addr.add_lit, Nat.zero_add]
    exact wrow_cell hown hy
theorem ReadsW.one {w : World} {g : Nat} {i : Int} (h : w.cell? ⟨g, 0, none⟩ = some (.int .u32 i)) : ReadsW w (.slice (some ⟨g, 0, none⟩) 1 1) [i] := Or.inr ⟨_, _, rfl, wone_at h⟩
/-- nothing is appended -/
theorem run_appw_nil {P : Program} (w : World) (base : Nat) (t ty e : TypeId) (i : TypeInfo) (size n : Nat) (ht : P.underlying t = some (.slice e)) (hi : P.info? e = some i) (v : Value) (xs : List Value) (hown : w.ownsRow base e size v n xs) :
    (Builtin.append_ #[t, t] ty #[v, .slice none 0 0]).run P w = .ok v w := by
  rcases hown.2 with ⟨rfl, rfl⟩ | ⟨g, cap, cur, rfl, _, _, hle, _⟩
  · simp [Builtin.append_, run_underlying ht, sizeOf, typeInfo, hi, Builtin.lenOf, Builtin.firstCells]
  · simp [Builtin.append_, run_underlying ht, sizeOf, typeInfo, hi, Builtin.lenOf, Builtin.firstCells, hle, storeCells]
/-- an append of a row of numbers, or of none, onto a row of numbers of the call's own -/
theorem run_appw (w : World) (base n : Nat) (v u : Value) (X M : List Int) (ty : TypeId) (hown : w.ownsRow base 37 1 v n (wrds X)) (hu : ReadsW w u M) (h63 : n + M.length ≤ 100000) (hbase : base ≤ w.heap.size) :
    ∃ v' w', (Builtin.append_ #[36, 36] ty #[v, u]).run Tryz.prog w = .ok v' w' ∧ w'.ownsRow base 37 1 v' (n + M.length) (wrds (X ++ M)) ∧ w.grownBy w' v.ownBlock ∧ (v'.ownBlock = v.ownBlock ∨ v'.ownBlock = some w.heap.size) := by
  obtain ⟨i0, hi0, hz0, hz1, hz2⟩ := info_parts infoW
  rcases hu with ⟨rfl, rfl⟩ | ⟨ad, c, rfl, hc⟩
  · refine ⟨v, w, run_appw_nil w base 36 ty 37 i0 1 n Tryz.underlying36 hi0 v _ hown, by simpa using hown, grown_refl _ _, Or.inl rfl⟩
  · have hmx : 100000 ≤ maxLen := by decide
    obtain ⟨v', w', hr, h2, h3, _, h5⟩ := run_append_own_at (P := Tryz.prog) w base 36 ty 37 i0 (.int .u32 0) 1 4 Tryz.underlying36 hi0 hz0 hz1 hz2 rfl (by decide) v n (wrds X) hown ad M.length c (wrds M) (wrds_len M) hc (wrds_one _) (by omega) (by omega) hbase
    exact ⟨v', w', hr, by simpa [wrds] using h2, h3, h5⟩
/-- the same, at a step of a region that draws -/
theorem step_appw {w : World} {ops : Array Oper} {o : Oper} {a : Act} {K : Act → World → Prop} {Q : Exit → Act → World → Prop} {E : Prop} (hgd : o.guard = none) (s x : Operand)
    (ho : o.op = .call { callee := .builtin .append, args := #[s, x], argTypes := #[36, 36] }) (base n : Nat) (v u : Value) (X M : List Int) (hs : a.eval s = v) (hx : a.eval x = u)
    (hown : w.ownsRow base 37 1 v n (wrds X)) (hu : ReadsW w u M) (h63 : n + M.length ≤ 100000) (hbase : base ≤ w.heap.size)
    (h : ∀ v' w', w'.ownsRow base 37 1 v' (n + M.length) (wrds (X ++ M)) → w.grownBy w' v.ownBlock → (v'.ownBlock = v.ownBlock ∨ v'.ownBlock = some w.heap.size) → K (a.put o.dst v') w') :
    if Region.wanted o (yielded ops a.tmps) = true then Oper.wp Tryz.prog o a w K Q else E := by
  have hw : Region.wanted o (yielded ops a.tmps) = true := by simp [Region.wanted, hgd]
  rw [if_pos hw]
  obtain ⟨v', w', hr, h2, h3, h5⟩ := run_appw w base n v u X M o.type hown hu h63 hbase
  unfold Oper.wp execOp
  simp only [ho, resolve, invoke, builtin, Sem.run_bind, Sem.run_pure, Result.andThen_ok, List.map_toArray, List.map_cons, List.map_nil, hs, hx, hr]
  exact h v' w' h2 h3 h5
/-- the same, at the head of a list of operations -/
theorem wpList_appw {w : World} {ops : Array Oper} {rest : List Oper} {o : Oper} {a : Act} {Q : Exit → Act → World → Prop} (hgd : o.guard = none) (s x : Operand)
    (ho : o.op = .call { callee := .builtin .append, args := #[s, x], argTypes := #[36, 36] }) (base n : Nat) (v u : Value) (X M : List Int) (hs : a.eval s = v) (hx : a.eval x = u)
    (hown : w.ownsRow base 37 1 v n (wrds X)) (hu : ReadsW w u M) (h63 : n + M.length ≤ 100000) (hbase : base ≤ w.heap.size)
    (h : ∀ v' w', w'.ownsRow base 37 1 v' (n + M.length) (wrds (X ++ M)) → w.grownBy w' v.ownBlock → (v'.ownBlock = v.ownBlock ∨ v'.ownBlock = some w.heap.size) → wpList Tryz.prog ops Q rest (a.put o.dst v') w') :
    wpList Tryz.prog ops Q (o :: rest) a w := by
  refine wpList_plain hgd fun K hK => ?_
  obtain ⟨v', w', hr, h2, h3, h5⟩ := run_appw w base n v u X M o.type hown hu h63 hbase
  unfold Oper.wp execOp
  simp only [ho, resolve, invoke, builtin, Sem.run_bind, Sem.run_pure, Result.andThen_ok, List.map_toArray, List.map_cons, List.map_nil, hs, hx, hr]
  exact hK _ _ (h v' w' h2 h3 h5)
end Wd
end Go.Proofs.YtdaojohdmidemaaGreat

/- The document's own memory: Put. -/
namespace Go.Proofs.YtdaojohdmidemaaGreat
open Go.RowKit Go.Maps
set_option linter.unusedVariables false
namespace Wd
section
variable {w w' : World} {b : Nat} {n : Nat → Nat} {H : Hst} {F : Nat → Prop}
variable {ms : Nat → Nat} {FM : Nat → Nat → Prop} {mb c : Nat} {M : Pl → Option Value} {R : Nat → Prop}
def rowR (R : Nat → Prop) (u : Value) : Nat → Prop := fun g => R g ∨ u.ownBlock = some g
theorem RefH.count (h : RefH w b n H ms FM mb c M R) : c ≤ 1020 := by
  obtain ⟨K, k1, k2, k3⟩ := h.keys
  have := nd_sub k1 (K := allP n) (fun p hp => h.dom p ((k3 p).1 hp))
  rw [len_allP] at this
  have := h.inv.sum
  omega
/-- a cell is written into the map -/
theorem RefP.cstep (h : RefP w b n H ms FM mb c M R) {p : Pl} (hp : p ∈ allP n) {cl : Int} {u : Value} {fs : List Int} (hu : SW w u fs) (hfar : ∀ g, u.ownBlock = some g → ¬ FH b FM mb R g)
    (hm : MapV w' mb (if (M p).isSome then c else c + 1) (updV M p (.agg #[.int .i64 cl, u]))) (hg : w.grownBy w' (some mb)) :
    RefP w' b n { H with C := upC H.C p (cl, fs) } ms FM mb (if (M p).isSome then c else c + 1) (updV M p (.agg #[.int .i64 cl, u])) (rowR R u) ∧ Ch (FH b FM mb R) w w' := by
  have e1 : ∀ g, g < w.heap.size → g ≠ mb → w'.heap[g]? = w.heap[g]? := fun g h1 h2 => hg.block g h1 (fun e => h2 (by cases e; rfl))
  have hfu : ∀ g, u.ownBlock = some g → g < w.heap.size := fun g hg => hu.lt g hg
  have hum : ∀ g, u.ownBlock = some g → g ≠ mb := fun g hg e => hfar g hg (Or.inr (Or.inr (Or.inl e)))
  refine ⟨⟨h.tbl.same (e1 b h.tbl.lt (fun e => h.a2 e.symm)), fun s hs => (h.ml s hs).same (fun g hgF => e1 g ((h.ml s hs).lt g hgF) (fun e => h.a5 s hs (e ▸ hgF))), hm, ⟨fun q v hv => ?_, fun q hq => ?_, fun g hgR => ?_⟩, ?_, fun q hq => ?_, h.a1, h.a2, ?_, h.a4, h.a5, fun s hs g hgF => ?_, ?_⟩, ⟨hg.os, hg.tape, hg.output, hg.size, fun g h1 h2 => e1 g h1 (fun e => h2 (Or.inr (Or.inr (Or.inl e))))⟩⟩
  · unfold updV at hv
    show ∃ u', v = .agg #[.int .i64 (upC H.C p (cl, fs) q).1, u'] ∧ SW w' u' (upC H.C p (cl, fs) q).2 ∧ ∀ g, u'.ownBlock = some g → rowR R u g
    unfold upC
    split at hv
    · rename_i e
      cases hv
      rw [if_pos e]
      exact ⟨u, rfl, hu.same (fun g hg => e1 g (hfu g hg) (hum g hg)), fun g hg => Or.inr hg⟩
    · rename_i e
      rw [if_neg e]
      obtain ⟨u', h1, h2, h3⟩ := h.cm.some' q v hv
      exact ⟨u', h1, h2.same (fun g hg => e1 g (h.cm.lt g (h3 g hg)) (fun e => h.a7 (e ▸ h3 g hg))), fun g hg => Or.inl (h3 g hg)⟩
  · unfold updV at hq
    show upC H.C p (cl, fs) q = _
    unfold upC
    split at hq
    · cases hq
    · rename_i e
      rw [if_neg e]
      exact h.cm.none' q hq
  · rcases hgR with h1 | h1
    · exact Nat.lt_of_lt_of_le (h.cm.lt g h1) hg.size
    · exact Nat.lt_of_lt_of_le (hfu g h1) hg.size
  · obtain ⟨K, k1, k2, k3⟩ := h.keys
    cases hM : (M p).isSome with
    | true =>
      refine ⟨K, k1, by simpa using k2, fun q => ?_⟩
      rw [k3 q]
      unfold updV
      by_cases e : q = p
      · subst e; simp [hM]
      · simp [e]
    | false =>
      have hno : p ∉ K := fun hp => by rw [(k3 p).1 hp] at hM; cases hM
      refine ⟨p :: K, List.nodup_cons.2 ⟨hno, k1⟩, by simp [k2], fun q => ?_⟩
      unfold updV
      by_cases e : q = p
      · subst e; simp
      · simp only [List.mem_cons, e, false_or, if_false]; exact k3 q
  · unfold updV at hq
    by_cases e : q = p
    · subst e; exact hp
    · rw [if_neg e] at hq; exact h.dom q hq
  · rintro (h1 | h1)
    · exact h.a3 h1
    · exact hfar b h1 (Or.inl rfl)
  · rintro (h1 | h1)
    · exact h.a6 s hs g hgF h1
    · exact hfar g h1 (Or.inr (Or.inl ⟨s, hs, hgF⟩))
  · rintro (h1 | h1)
    · exact h.a7 h1
    · exact hum mb h1 rfl
theorem RefH.cstep (h : RefH w b n H ms FM mb c M R) {p : Pl} (hp : p ∈ allP n) {cl : Int} {u : Value} {fs : List Int} (hu : SW w u fs) (hfar : ∀ g, u.ownBlock = some g → ¬ FH b FM mb R g)
    (hm : MapV w' mb (if (M p).isSome then c else c + 1) (updV M p (.agg #[.int .i64 cl, u]))) (hg : w.grownBy w' (some mb)) (hi : HInv n { H with C := upC H.C p (cl, fs) }) :
    RefH w' b n { H with C := upC H.C p (cl, fs) } ms FM mb (if (M p).isSome then c else c + 1) (updV M p (.agg #[.int .i64 cl, u])) (rowR R u) ∧ Ch (FH b FM mb R) w w' :=
  ⟨⟨(h.toRefP.cstep hp hu hfar hm hg).1, hi⟩, (h.toRefP.cstep hp hu hfar hm hg).2⟩
theorem FH_row {b : Nat} {FM : Nat → Nat → Prop} {mb : Nat} {R : Nat → Prop} {u : Value} : ∀ g, FH b FM mb (rowR R u) g → FH b FM mb R g ∨ u.ownBlock = some g := by
  rintro g (h | h | h | h | h)
  · exact Or.inl (Or.inl h)
  · exact Or.inl (Or.inr (Or.inl h))
  · exact Or.inl (Or.inr (Or.inr (Or.inl h)))
  · exact Or.inl (Or.inr (Or.inr (Or.inr h)))
  · exact Or.inr h
theorem HInv.place (h : HInv n H) {i : Int} (hh : hasT H.T i = true) : atP H.T i ∈ allP n := by
  obtain ⟨k, p, rfl, h4, hk, hp, e⟩ := h.has hh
  obtain ⟨s, h1, h2, h3, h5, _⟩ := h.pl k p hp
  rw [e]
  exact mem_allP.2 ⟨s, h1, h2, h3, h5⟩
theorem HInv.len62 (h : HInv n H) (i : Int) : (fsI H i).length ≤ 62 := by
  unfold fsI
  split
  · rename_i hh
    obtain ⟨k, p, rfl, h4, hk, hp, e⟩ := h.has hh
    rw [e]
    obtain ⟨s, h1, h2, h3, h5, _⟩ := h.pl k p hp
    have := (h.cel k p hp).1
    rcases fo_cases ((H.C p).2.length : Int) with ⟨h, e⟩ | ⟨h1, h2, e⟩ | ⟨h1, h2, e⟩ | ⟨h1, h2, e⟩ | ⟨h1, h2, e⟩ | ⟨h1, h2, e⟩ <;> omega
  · simp
theorem below_set {w w' : World} {s : Nat} (h : Below s w w') {a : Addr} (ha : s ≤ a.block) (v : Value) : Below s w (w'.setCell a v) :=
  ⟨h.os, h.tape, h.output, by rw [World.size_setCell]; exact h.size, fun k hk => (Below.heap_setCell _ _ _ _ (by omega)).trans (h.block k hk)⟩
theorem below_grown {w w1 w2 : World} {s : Nat} {r : Option Nat} (h : Below s w w1) (g : w1.grownBy w2 r) (hr : ∀ k, r = some k → s ≤ k) (hs : s ≤ w1.heap.size) : Below s w w2 :=
  ⟨g.os.trans h.os, g.tape.trans h.tape, g.output.trans h.output, Nat.le_trans h.size g.size, fun k hk => (g.block k (by omega) (fun e => by have := hr k e.symm; omega)).trans (h.block k hk)⟩
set_option maxHeartbeats 16000000 in
set_option maxRecDepth 20000 in
theorem rputh_c (h : RA9 w b n H F) (i j x : Int) (x0 : 0 ≤ x) (x1 : x ≤ 4294967295) :
    Calls Tryz.prog 15 #[.pointer (some ⟨b, 0, none⟩), .int .i64 i, .int .i64 j, .int .u32 x] w fun e w' => ∃ F', e = .returned (.bool (putB H i j x)) ∧ RA9 w' b n (putH H i j x) F' ∧ Ch F w w' ∧ Newer F F' w.heap.size := by
  have hinv := h.inv
  obtain ⟨ms, FM, mb, c, M, R, rfl, h⟩ := h
  have P := Lib.hid (rat_c h i)
  cases hb : putB H i j x with
  | false =>
    have e : putH H i j x = H := by unfold putH; rw [hb]; rfl
    rw [e]
    clear e
    obtain ⟨⟨pa, pc⟩, hp⟩ : ∃ p, p = atP H.T i := ⟨_, rfl⟩
    rw [← hp] at P
    have hf : hasT H.T i = false → fsI H i = [] := fun hh => by unfold fsI; rw [hh]; rfl
    unfold putB at hb
    rw [Bool.and_eq_false_iff, decide_eq_false_iff_not, decide_eq_false_iff_not] at hb
    unfold plV at P
    replace h := Lib.hid h
    clear hp hinv
    generalize fsI H i = fs at *
    generalize (H.C (pa, pc)).1 = c1 at *
    cases hh : hasT H.T i with
    | false =>
      rw [hh] at P
      rw [hf hh] at P
      clear hf hb
      go_enter Tryz.func15, Tryz.ntmps15
      go_wp2_with fail
      refine P.out.mono ?_
      clear P
      rintro e w1 ⟨u, he, hs, hr, hb⟩
      obtain ⟨ua, uc, rfl⟩ := hs.form
      subst he
      replace hb := Lib.hid hb
      clear hr hs
      go_wp2
      go_ret
      have hB := (hb.out.alloc hb.out.size (.cells #[.int .i64 0, .slice ua ([] : List Int).length uc] 90)).alloc (by have := hb.out.size; simp; omega) (.cells #[.int .i64 pa, .int .i64 pc] 71)
      exact ⟨_, rfl, ⟨ms, FM, mb, c, M, R, rfl, h.out.keep hB⟩, below_toCh _ hB, newer_refl9 _ _⟩
    | true =>
      rw [hh] at P
      clear hf
      by_cases hj : 0 ≤ j
      · by_cases hl : j < fs.length
        · have hx : x = 0 := by
            rcases hb with hb | hb
            · exact absurd ⟨hj, hl⟩ hb
            · omega
          subst hx
          have d1 : decide (j < 0) = false := by simp; omega
          have d2 : decide (j ≥ (fs.length : Int)) = false := by simp; omega
          have d3 : decide ((fs.length : Int) ≤ j) = false := by simp; omega
          clear hb
          go_enter Tryz.func15, Tryz.ntmps15
          go_wp2_with fail
          refine P.out.mono ?_
          clear P
          rintro e w1 ⟨u, he, hs, hr, hb⟩
          obtain ⟨ua, uc, rfl⟩ := hs.form
          subst he
          replace hb := Lib.hid hb
          clear hr hs
          go_wp2
          go_ret
          have hB := (hb.out.alloc hb.out.size (.cells #[.int .i64 c1, .slice ua fs.length uc] 90)).alloc (by have := hb.out.size; simp; omega) (.cells #[.int .i64 pa, .int .i64 pc] 71)
          exact ⟨_, rfl, ⟨ms, FM, mb, c, M, R, rfl, h.out.keep hB⟩, below_toCh _ hB, newer_refl9 _ _⟩
        · have d1 : decide (j < 0) = false := by simp; omega
          have d2 : decide (j ≥ (fs.length : Int)) = true := by simp; omega
          have d3 : decide ((fs.length : Int) ≤ j) = true := by simp; omega
          clear hb
          go_enter Tryz.func15, Tryz.ntmps15
          go_wp2_with fail
          refine P.out.mono ?_
          clear P
          rintro e w1 ⟨u, he, hs, hr, hb⟩
          obtain ⟨ua, uc, rfl⟩ := hs.form
          subst he
          replace hb := Lib.hid hb
          clear hr hs
          go_wp2
          go_ret
          have hB := (hb.out.alloc hb.out.size (.cells #[.int .i64 c1, .slice ua fs.length uc] 90)).alloc (by have := hb.out.size; simp; omega) (.cells #[.int .i64 pa, .int .i64 pc] 71)
          exact ⟨_, rfl, ⟨ms, FM, mb, c, M, R, rfl, h.out.keep hB⟩, below_toCh _ hB, newer_refl9 _ _⟩
      · have d1 : decide (j < 0) = true := by simp; omega
        clear hb
        go_enter Tryz.func15, Tryz.ntmps15
        go_wp2_with fail
        refine P.out.mono ?_
        clear P
        rintro e w1 ⟨u, he, hs, hr, hb⟩
        obtain ⟨ua, uc, rfl⟩ := hs.form
        subst he
        replace hb := Lib.hid hb
        clear hr hs
        go_wp2
        go_ret
        have hB := (hb.out.alloc hb.out.size (.cells #[.int .i64 c1, .slice ua fs.length uc] 90)).alloc (by have := hb.out.size; simp; omega) (.cells #[.int .i64 pa, .int .i64 pc] 71)
        exact ⟨_, rfl, ⟨ms, FM, mb, c, M, R, rfl, h.out.keep hB⟩, below_toCh _ hB, newer_refl9 _ _⟩
  | true =>
    have hb' := hb
    unfold putB at hb'
    rw [Bool.and_eq_true, decide_eq_true_eq, decide_eq_true_eq] at hb'
    obtain ⟨⟨j0, jl⟩, hx⟩ := hb'
    have hh : hasT H.T i = true := by
      cases hh : hasT H.T i with
      | true => rfl
      | false =>
        exfalso
        have : fsI H i = [] := by unfold fsI; rw [hh]; rfl
        rw [this] at jl
        simp at jl
        omega
    obtain ⟨s, q, hs5, hp, hok⟩ := hinv.where_ hh
    have hin : ((s : Int), q) ∈ allP n := hp ▸ hinv.place hh
    have hlen := hinv.len62 i
    obtain ⟨k, rfl⟩ : ∃ k : Nat, j = k := ⟨j.toNat, by omega⟩
    have hk : k < (fsI H i).length := by omega
    have hi1 := hinv.putC i k x (by omega) hh
    have ecol : colI H i = colorR (H.M s) q := by unfold colI colP szP; rw [if_pos hh, hp]; simp
    have eC : putC H i k x = { H with C := upC H.C ((s : Int), q) ((H.C ((s : Int), q)).1, (fsI H i).set k x) } := by
      unfold putC; rw [hp]; simp
    have eH : putH H i k x = if colorR (H.M s) q = 1 then shW (putC H i k x) x else putC H i k x := by unfold putH; rw [if_pos hb, ecol]
    rw [eH]
    rw [eC] at hi1 ⊢
    clear eH eC ecol
    rw [hh, hp] at P
    unfold plV at P
    have Q := Lib.hid (fun (W : World) (hW : QM W (ms s) (H.M s) (FM s)) => qcolor hW (hinv.hl hs5) q)
    replace hi1 := Lib.hid hi1
    replace hinv := Lib.hid hinv
    replace h := Lib.hid h
    replace hin := Lib.hid hin
    have hcnt := h.out.count
    generalize (H.C ((s : Int), q)).1 = c1 at *
    generalize fsI H i = fs at *
    generalize hcol : colorR (H.M s) q = col at *
    simp only [if_true] at P
    have d1 : decide ((k : Int) < 0) = false := by simp
    have d2 : decide ((k : Int) ≥ (fs.length : Int)) = false := by simp; omega
    have d3 : decide ((fs.length : Int) ≤ (k : Int)) = false := by simp; omega
    have d4 : (x == 0) = false := by simpa using hx
    have hs5' : (s : Int) < 5 := by omega
    clear hb hp hh hx j0 jl hcol
    obtain ⟨sb, hsb⟩ : ∃ sb, sb = w.heap.size := ⟨_, rfl⟩
    go_enter Tryz.func15, Tryz.ntmps15
    go_wp2_with fail
    refine P.out.mono ?_
    clear P
    rintro e w1 ⟨u, he, hs, hr, hb⟩
    rcases hs.cases with ⟨rfl, e0⟩ | ⟨g0, cap0, rfl, g1, g2, g3, g4⟩
    · subst e0; simp at hk
    subst he
    have hrow := Lib.hid hs
    replace hb := Lib.hid hb
    have hb1 := hb.out.size
    clear hr hs g4 g1 g2
    obtain ⟨wA, hwA⟩ : ∃ wA, wA = (w1.alloc (.cells #[.int .i64 c1, .slice (some ⟨g0, 0, none⟩) fs.length cap0] 90)).alloc (.cells #[.int .i64 s, .int .i64 q] 71) := ⟨_, rfl⟩
    have hbA : Below w.heap.size w wA := by rw [hwA]; exact (hb.out.alloc hb1 _).alloc (by simp; omega) _
    have rA : SW wA (.slice (some ⟨g0, 0, none⟩) fs.length cap0) fs := hrow.out.keep (by rw [hwA]; exact ((Below.refl _ _).alloc (Nat.le_refl _) _).alloc (by simp) _)
    have sA : wA.heap.size = w1.heap.size + 1 + 1 := by rw [hwA]; simp
    have q0 : wA.cell? ⟨w1.heap.size, 0, none⟩ = some (.int .i64 c1) := by rw [hwA]; simp
    have q1 : wA.cell? ⟨w1.heap.size, 1, none⟩ = some (.slice (some ⟨g0, 0, none⟩) fs.length cap0) := by rw [hwA]; simp
    have q2 : wA.cell? ⟨w1.heap.size + 1, 0, none⟩ = some (.int .i64 s) := by rw [hwA]; simp
    have q3 : wA.cell? ⟨w1.heap.size + 1, 1, none⟩ = some (.int .i64 q) := by rw [hwA]; simp
    have z0 : ∀ o, wA.frozen? ⟨w1.heap.size, o, none⟩ = false := by intro o; rw [hwA]; simp
    replace hbA := Lib.hid hbA
    replace rA := Lib.hid rA
    clear hrow hb
    have dk : ¬ (fs.length ≤ k) := by omega
    have hwA' := Lib.hid hwA
    clear hwA
    have lA : Below wA.heap.size wA (wA.alloc (.cells #[] 37)) := (Below.refl _ _).alloc (Nat.le_refl _) _
    have lA1 : (wA.alloc (.cells #[] 37)).heap.size = wA.heap.size + 1 := by simp
    have hmade : (wA.alloc (.cells #[] 37)).ownsRow (w1.heap.size + 1 + 1) 37 1 (.slice (some ⟨w1.heap.size + 1 + 1, 0, none⟩) 0 0) 0 (wrds []) := by rw [← sA]; exact World.ownsRow_made wA #[] 0 (Nat.le_refl _) (by decide) rfl
    replace lA := Lib.hid lA
    replace hmade := Lib.hid hmade
    go_wp2_with (first | (at_builtin; rw [← hwA'.out]; refine wpList_appw rfl (.tmp 36) (.tmp 38) rfl (w1.heap.size + 1 + 1) 0 (.slice (some ⟨w1.heap.size + 1 + 1, 0, none⟩) 0 0) _ [] fs (by simp [Act.eval]) rfl hmade.out ((rA.out.keep lA.out).reads) (by omega) (by rw [lA1, sA]; omega) ?_; intro v1 wC hown hgrow hat; simp only [List.nil_append, Nat.zero_add] at hown; have hC : Below w.heap.size w wC := below_grown (below_grown hbA.out (r := none) ⟨lA.out.os, lA.out.tape, lA.out.output, lA.out.size, fun k hk _ => lA.out.block k hk⟩ (fun k hk => by cases hk) hbA.out.size) hgrow (fun k hk => by simp [Value.ownBlock] at hk; omega) (by omega); have lC : Below wA.heap.size wA wC := below_grown lA.out hgrow (fun k hk => by simp [Value.ownBlock] at hk; omega) (by omega); clear hgrow hat; obtain ⟨y1, ny, yc, rfl⟩ := slice_form hown; rcases hown.2 with ⟨_, e0⟩ | ⟨g1, cap1, cur1, e1, e2, _⟩; (exfalso; omega); cases e1; have w0 := (lC.cell (by show w1.heap.size < wA.heap.size; omega)).trans q0; have w1' := (lC.cell (by show w1.heap.size < wA.heap.size; omega)).trans q1; have w2' := (lC.cell (by show w1.heap.size + 1 < wA.heap.size; omega)).trans q2; have w3' := (lC.cell (by show w1.heap.size + 1 < wA.heap.size; omega)).trans q3; have z1 : wC.frozen? ⟨w1.heap.size, 1, none⟩ = false := (lC.frozen (by show w1.heap.size < wA.heap.size; omega)).trans (z0 1); have vk : wC.cell? ⟨g1, k, none⟩ = some (.int .u32 fs[k]) := wrow_cell (own_base hown) (by simp [hk]); have zk : wC.frozen? ⟨g1, k, none⟩ = false := hown.frozenAt k; have eg : w1.heap.size + 1 + 1 ≤ g1 := e2; have ng : w1.heap.size ≠ g1 := (fun e => absurd eg (by rw [← e]; omega)); have ng' : g1 ≠ w1.heap.size := (fun e => ng e.symm); replace hC := Lib.hid hC; replace hown := Lib.hid hown; clear lC e2))
    have eg0 := hb1
    have hE : Below w.heap.size w ((wC.setCell ⟨w1.heap.size, 1, none⟩ (.slice (some ⟨g1, 0, none⟩) fs.length yc)).setCell ⟨g1, k, none⟩ (.int .u32 x)) := below_set (below_set hC.out (by show w.heap.size ≤ w1.heap.size; omega) _) (by show w.heap.size ≤ g1; omega) _
    have rE : SW ((wC.setCell ⟨w1.heap.size, 1, none⟩ (.slice (some ⟨g1, 0, none⟩) fs.length yc)).setCell ⟨g1, k, none⟩ (.int .u32 x)) (.slice (some ⟨g1, 0, none⟩) fs.length yc) (fs.set k x) := by
      have := (ownsRow_setCell_other (own_base hown.out) (a := ⟨w1.heap.size, 1, none⟩) (by show some g1 ≠ some w1.heap.size; intro e; injection e with e; omega) (.slice (some ⟨g1, 0, none⟩) fs.length yc)).stored k (.int .u32 x)
      unfold SW
      rw [List.length_set]
      unfold wrds at this ⊢
      rw [List.map_set]
      exact this.1
    have n1 : w1.heap.size ≠ w1.heap.size + 1 := by omega
    have n2 : g1 ≠ w1.heap.size + 1 := by omega
    have u0 : ((wC.setCell ⟨w1.heap.size, 1, none⟩ (.slice (some ⟨g1, 0, none⟩) fs.length yc)).setCell ⟨g1, k, none⟩ (.int .u32 x)).cell? ⟨w1.heap.size, 0, none⟩ = some (.int .i64 c1) :=
      (World.cell?_setCell_far _ _ _ _ ng').trans ((World.cell?_setCell_other _ _ _ _ (by intro e; injection e with _ h2; omega)).trans w0)
    have u1 : ((wC.setCell ⟨w1.heap.size, 1, none⟩ (.slice (some ⟨g1, 0, none⟩) fs.length yc)).setCell ⟨g1, k, none⟩ (.int .u32 x)).cell? ⟨w1.heap.size, 1, none⟩ = some (.slice (some ⟨g1, 0, none⟩) fs.length yc) :=
      (World.cell?_setCell_far _ _ _ _ ng').trans (World.cell?_setCell_same _ _ _ w1')
    have u2 : ((wC.setCell ⟨w1.heap.size, 1, none⟩ (.slice (some ⟨g1, 0, none⟩) fs.length yc)).setCell ⟨g1, k, none⟩ (.int .u32 x)).cell? ⟨w1.heap.size + 1, 0, none⟩ = some (.int .i64 s) :=
      (World.cell?_setCell_far _ _ _ _ n2).trans ((World.cell?_setCell_far _ _ _ _ n1).trans w2')
    have u3 : ((wC.setCell ⟨w1.heap.size, 1, none⟩ (.slice (some ⟨g1, 0, none⟩) fs.length yc)).setCell ⟨g1, k, none⟩ (.int .u32 x)).cell? ⟨w1.heap.size + 1, 1, none⟩ = some (.int .i64 q) :=
      (World.cell?_setCell_far _ _ _ _ n2).trans ((World.cell?_setCell_far _ _ _ _ n1).trans w3')
    generalize ((wC.setCell ⟨w1.heap.size, 1, none⟩ (.slice (some ⟨g1, 0, none⟩) fs.length yc)).setCell ⟨g1, k, none⟩ (.int .u32 x)) = wE at hE rE u0 u1 u2 u3 ⊢
    clear q0 q1 q2 q3 z0 w0 w1' w2' w3' z1 vk zk hC hown hbA rA hwA' lA1 lA hmade n1 n2 ng ng'
    have hF : RefH wE.drew b n H ms FM mb c M R := h.out.keep hE.drew
    have cmE : wE.cell? ⟨b, 3077, none⟩ = some (.map (some mb)) := hF.mapc
    have rEd : SW wE.drew (.slice (some ⟨g1, 0, none⟩) fs.length yc) (fs.set k x) := rE.same (fun _ _ => rfl)
    have hfar : ∀ g, (Value.slice (some ⟨g1, 0, none⟩) fs.length yc).ownBlock = some g → w.heap.size ≤ g := by
      intro g hg
      simp [Value.ownBlock] at hg
      omega
    have hmx : (1020 : Nat) < maxLen := by decide
    obtain ⟨wG, hup, hm, hgr, hsz⟩ := hF.mp.put (by omega) hok (.agg #[.int .i64 c1, .slice (some ⟨g1, 0, none⟩) fs.length yc])
    obtain ⟨a1, a2⟩ := hF.cstep hin.out rEd (fun g hg hFH => by have h1 := hfar g hg; have h2 := h.out.lt g hFH; omega) hm hgr hi1.out
    have hG := Lib.hid a1
    have cG := Lib.hid ((below_toCh (FH b FM mb R) hE.drew).trans a2)
    have nG : Newer (FH b FM mb R) (FH b FM mb (rowR R (.slice (some ⟨g1, 0, none⟩) fs.length yc))) w.heap.size := fun g hg => by
      rcases FH_row g hg with h1 | h1
      · exact Or.inl h1
      · exact Or.inr (hfar g h1)
    have hsG := hgr.size
    have u2G : wG.cell? ⟨w1.heap.size + 1, 0, none⟩ = some (.int .i64 s) := (hgr.cell (show wE.drew.cell? _ = _ from u2) (by intro e; injection e with e'; have hh := h.out.mp.lt; simp only at e'; omega)).trans rfl
    have u3G : wG.cell? ⟨w1.heap.size + 1, 1, none⟩ = some (.int .i64 q) := (hgr.cell (show wE.drew.cell? _ = _ from u3) (by intro e; injection e with e'; have hh := h.out.mp.lt; simp only at e'; omega)).trans rfl
    replace nG := Lib.hid nG
    clear hm hgr a1 a2 rEd hF hfar rE hE
    unfold plV at hup
    have cmG : wG.cell? ⟨b, 3072 + s, none⟩ = some (.pointer (some ⟨ms s, 0, none⟩)) := hG.out.mill hs5
    have hbG := hG.out.tbl.lt
    have qG : QM wG.drew (ms s) (H.M s) (FM s) := (hG.out.ml s hs5).same (fun _ _ => rfl)
    have rG : RA9 wG.drew b n { H with C := upC H.C ((s : Int), q) (c1, fs.set k x) } (FH b FM mb (rowR R (.slice (some ⟨g1, 0, none⟩) fs.length yc))) := ⟨ms, FM, mb, _, _, _, rfl, hG.out.same (Nat.le_refl _) (fun _ _ => rfl)⟩
    have cG2 : Ch (FH b FM mb R) w wG.drew := cG.out.drew
    have P3 := Lib.hid (rshadeh_c rG x x0 x1)
    replace qG := Lib.hid qG
    replace rG := Lib.hid rG
    replace cG2 := Lib.hid cG2
    clear hG cG h
    refine wp_region_still_tail 6 (by kernel_rfl) (by kernel_rfl) ?_
    simp only [List.take_succ_cons, List.take_zero, List.drop_succ_cons, List.drop_zero]
    iterate 6 still_step
    refine wpStill_nil ?_
    change wpList _ _ _ _ _ wE.drew
    clear u0 u1 u2 u3 cmE
    go_wp2
    refine wp_region_still_lit (by kernel_rfl) (by kernel_rfl) ?_
    iterate 9 still_step
    still_call (Q.out _ qG.out)
    still_step
    refine wpStill_nil ?_
    change Exit.then _ _ Exit.normal _ wG.drew
    clear u2G u3G cmG
    by_cases hc1 : col = 1
    · subst hc1
      go_wp2_with (first | (go_at_call 56; ((with_reducible refine (P3.out).mono ?_); rintro e w3 ⟨F3, he, e1, e2, e3⟩; subst he; replace e1 := Lib.hid e1; replace e2 := Lib.hid e2; replace e3 := Lib.hid e3)))
      go_ret
      first
        | exact ⟨F3, rfl, e1.out, cG2.out.then_ e2.out nG.out, Newer.trans nG.out e3.out cG2.out.size⟩
        | exact ⟨rfl, F3, e1.out, cG2.out.then_ e2.out nG.out, Newer.trans nG.out e3.out cG2.out.size⟩
    · have hc2 : (col == 1) = false := by simpa using hc1
      go_wp2
      go_ret
      first
        | exact ⟨rfl, _, rG.out, cG2.out, nG.out⟩
        | exact ⟨_, rfl, rG.out, cG2.out, nG.out⟩
        | (rw [if_neg hc1]; exact ⟨_, rfl, rG.out, cG2.out, nG.out⟩)
end
end Wd
end Go.Proofs.YtdaojohdmidemaaGreat

/- The document's own memory: Alloc. -/
namespace Go.Proofs.YtdaojohdmidemaaGreat
open Go.RowKit Go.Maps
set_option linter.unusedVariables false
namespace Wd
/-- while the fields are laid: the boxes of the place and of the cell -/
structure AS9 (w1 : World) (sb : Nat) (cl s i : Int) (k : Nat) (v : Value) (wr : World) : Prop where
  c0 : wr.cell? ⟨sb + 1, 0, none⟩ = some (.int .i64 cl)
  c1 : wr.cell? ⟨sb + 1, 1, none⟩ = some v
  z1 : wr.frozen? ⟨sb + 1, 1, none⟩ = false
  p0 : wr.cell? ⟨sb, 0, none⟩ = some (.int .i64 s)
  p1 : wr.cell? ⟨sb, 1, none⟩ = some (.int .i64 i)
  own : wr.ownsRow (sb + 2) 37 1 v k (wrds (List.replicate k 2))
  bel : Below sb w1 wr
  size : sb + 2 ≤ wr.heap.size
theorem AS9.next {w1 wr wC : World} {sb : Nat} {cl s i : Int} {k : Nat} {v v1 : Value} {o : Obj} (h : AS9 w1 sb cl s i k v wr) (hown : wC.ownsRow (sb + 2) 37 1 v1 (k + 1) (wrds (List.replicate k 2 ++ [2]))) (hg : (wr.alloc o).grownBy wC v.ownBlock) :
    AS9 w1 sb cl s i (k + 1) v1 (wC.setCell ⟨sb + 1, 1, none⟩ v1) := by
  have hs := h.size
  have s1 : (wr.alloc o).heap.size = wr.heap.size + 1 := by simp
  have hov : ∀ g, v.ownBlock = some g → sb + 2 ≤ g := fun g hg => (h.own.lt g hg).1
  have hov1 : ∀ g, v1.ownBlock = some g → sb + 2 ≤ g := fun g hg => (hown.lt g hg).1
  have hC : Below sb w1 wC := below_grown (h.bel.alloc (by omega) o) hg (fun g hg => by have := hov g hg; omega) (by omega)
  have hb : ∀ g, g < sb + 2 → wC.heap[g]? = wr.heap[g]? := fun g hg2 => (hg.block g (by omega) (fun e => by have := hov g e.symm; omega)).trans (Below.heap_alloc _ _ _ (by omega))
  have e1 := hb (sb + 1) (by omega)
  have e0 := hb sb (by omega)
  have c1' : wC.cell? ⟨sb + 1, 1, none⟩ = some v := (World.cell?_of_block (a := ⟨sb + 1, 1, none⟩) e1).trans h.c1
  refine ⟨?_, World.cell?_setCell_same _ _ _ c1', ?_, ?_, ?_, ?_, below_set hC (by show sb ≤ sb + 1; omega) _, ?_⟩
  · exact (World.cell?_setCell_other _ _ _ _ (by intro e; injection e with _ h2; omega)).trans ((World.cell?_of_block (a := ⟨sb + 1, 0, none⟩) e1).trans h.c0)
  · rw [World.frozen?_setCell]; exact (World.frozen?_of_block (a := ⟨sb + 1, 1, none⟩) e1).trans h.z1
  · exact (World.cell?_setCell_far _ _ _ _ (by show sb + 1 ≠ sb; omega)).trans ((World.cell?_of_block (a := ⟨sb, 0, none⟩) e0).trans h.p0)
  · exact (World.cell?_setCell_far _ _ _ _ (by show sb + 1 ≠ sb; omega)).trans ((World.cell?_of_block (a := ⟨sb, 1, none⟩) e0).trans h.p1)
  · rw [List.replicate_succ']
    exact ownsRow_setCell_other hown (a := ⟨sb + 1, 1, none⟩) (by intro e; have := hov1 _ e; simp only at this; omega) _
  · rw [World.size_setCell]
    have := hg.size
    omega
section
variable {w w' : World} {b : Nat} {n : Nat → Nat} {H : Hst} {F : Nat → Prop}
set_option maxHeartbeats 16000000 in
set_option maxRecDepth 20000 in
theorem ralloch_c (h : RA9 w b n H F) (cl f : Int) (f0 : -9223372036854775808 ≤ f) (f1 : f ≤ 9223372036854775807) :
    Calls Tryz.prog 12 #[.pointer (some ⟨b, 0, none⟩), .int .i64 cl, .int .i64 f] w fun e w' => ∃ F', e = .returned (.int .i64 (alcI H cl f)) ∧ RA9 w' b n (alcH H cl f) F' ∧ Ch F w w' ∧ Newer F F' w.heap.size := by
  have PF := Lib.hid (rfit_c f f0 f1)
  have hfb := fo_bd f
  cases hb : alcB H cl f with
  | false =>
    have e1 : alcI H cl f = -1 := by unfold alcI; rw [hb]; rfl
    have e2 : alcH H cl f = H := by unfold alcH; rw [hb]; rfl
    rw [e1, e2]
    clear e1 e2
    unfold alcB at hb
    rw [Bool.and_eq_false_iff, Bool.and_eq_false_iff, decide_eq_false_iff_not, decide_eq_false_iff_not] at hb
    by_cases c0 : cl < 0
    · have d0 : decide (cl < 0) = true := by simpa using c0
      replace h := Lib.hid h
      clear hb
      go_enter Tryz.func12, Tryz.ntmps12
      go_wp2_with (first | (go_at_call 48; ((with_reducible refine (PF.out _).mono ?_); rintro e w1 ⟨rfl, hw1⟩; subst w1)))
      go_ret
      exact ⟨_, rfl, h.out, Ch.refl _ _, newer_refl9 _ _⟩
    · have d0 : decide (cl < 0) = false := by simpa using c0
      by_cases c1 : 4095 < cl
      · have d1 : decide (cl > 4095) = true := by simpa using c1
        have d2 : decide (4095 < cl) = true := by simpa using c1
        replace h := Lib.hid h
        clear hb
        go_enter Tryz.func12, Tryz.ntmps12
        go_wp2_with (first | (go_at_call 48; ((with_reducible refine (PF.out _).mono ?_); rintro e w1 ⟨rfl, hw1⟩; subst w1)))
        go_ret
        exact ⟨_, rfl, h.out, Ch.refl _ _, newer_refl9 _ _⟩
      · have d1 : decide (cl > 4095) = false := by simpa using c1
        have d2 : decide (4095 < cl) = false := by simpa using c1
        by_cases c2 : fo f < 0
        · have d3 : decide (fo f < 0) = true := by simpa using c2
          replace h := Lib.hid h
          clear hb
          go_enter Tryz.func12, Tryz.ntmps12
          go_wp2_with (first | (go_at_call 48; ((with_reducible refine (PF.out _).mono ?_); rintro e w1 ⟨rfl, hw1⟩; subst w1)))
          go_ret
          exact ⟨_, rfl, h.out, Ch.refl _ _, newer_refl9 _ _⟩
        · have d3 : decide (fo f < 0) = false := by simpa using c2
          obtain ⟨s, hs⟩ : ∃ s : Nat, fo f = s := ⟨(fo f).toNat, by omega⟩
          have hs5 : s < 5 := by omega
          have hM : H.M s 0 = [] := by
            rcases hb with hb | hb | hb
            · omega
            · omega
            · rw [show (fo f).toNat = s by omega] at hb
              simpa using hb
          rw [hs] at PF d3
          have hs5' : (s : Int) < 5 := by omega
          clear hb hs hfb c0 c1 c2
          have hh := h
          obtain ⟨ms, FM, mb, c, M, R, rfl, h0⟩ := hh
          have cm := h0.mill hs5
          obtain ⟨a2, c2, hc⟩ := (h0.ml s hs5).row2 (k := 0) (by omega)
          rw [hM] at hc
          have hc' : w.cell? ⟨ms s, 0, none⟩ = some (.slice a2 0 c2) := hc
          have hbs := h0.tbl.lt
          replace h := Lib.hid h
          clear hc h0 hM
          go_enter Tryz.func12, Tryz.ntmps12
          go_wp2_with (first | (go_at_call 48; ((with_reducible refine (PF.out _).mono ?_); rintro e w1 ⟨rfl, hw1⟩; subst w1)))
          go_ret
          exact ⟨_, rfl, h.out, Ch.refl _ _, newer_refl9 _ _⟩
  | true =>
    have hi9 := Lib.hid (h.inv.alc cl f)
    obtain ⟨s, hs5, ef, fz0, fz1, cl0, cl1, i, Rw, hM, ep, eH⟩ := alcB_of hb
    have eI : alcI H cl f = takeI H.T ((s : Int), i) := by unfold alcI; rw [if_pos hb, ep]
    rw [eI]
    rw [eH] at hi9 ⊢
    clear eI eH ep
    have hi0 : i ∈ H.M s 0 := by rw [hM]; simp
    have hib := (good_mem (h.inv.good s hs5)).1 (show i ∈ LL (H.M s) by unfold LL; simp [hi0])
    have hal : ((s : Int), i) ∈ allP n := mem_allP.2 ⟨s, hs5, rfl, hib.1, hib.2⟩
    have few := h.inv.few s hs5
    have hok : plOk ((s : Int), i) := ⟨⟨by simp only; omega, by simp only; omega⟩, ⟨by simp only; omega, by simp only; omega⟩⟩
    have efr : firstR (H.M s) 0 = i := by unfold firstR; rw [hM]
    obtain ⟨ms, FM, mb, c, M, R, rfl, h⟩ := h
    have cnt := h.count
    have cm := h.mill hs5
    obtain ⟨a2, c2, hc⟩ := (h.ml s hs5).row2 (k := 0) (by omega)
    have hl0 : (H.M s 0).length ≠ 0 := by rw [hM]; simp
    have d5 : (((H.M s 0).length : Int) == 0) = false := by simp; exact fun e => hl0 (by rw [e]; rfl)
    have Q := Lib.hid (qalloc (h.ml s hs5) (h.inv.hl hs5))
    rw [efr] at Q
    have d0 : decide (cl < 0) = false := by simp; omega
    have d1 : decide (cl > 4095) = false := by simp; omega
    have d2 : decide (4095 < cl) = false := by simp; omega
    rw [ef] at PF
    have d3 : decide ((s : Int) < 0) = false := by simp
    have hs5' : (s : Int) < 5 := by omega
    obtain ⟨fn, rfl⟩ : ∃ fn : Nat, f = fn := ⟨f.toNat, by omega⟩
    rw [show ((fn : Int)).toNat = fn by simp] at hi9 ⊢
    have hfn : fn ≤ 62 := by omega
    have hbs := h.tbl.lt
    replace h := Lib.hid h
    replace hal := Lib.hid hal
    clear hb hM hi0 efr hfb ef hl0 f0 f1
    generalize (H.M s 0).length = ln at *
    go_enter Tryz.func12, Tryz.ntmps12
    go_wp2_with (first | (go_at_call 48; ((with_reducible refine (PF.out _).mono ?_); rintro e w1 ⟨rfl, hw1⟩; subst w1)) | (go_at_call 49; ((with_reducible refine (Q.out).mono ?_); rintro e w1 ⟨F1, he, q1, q2, q3⟩; subst he; have hpm := h.out.toRefP.mstep hs5 q1 q2 q3; have P1 := Lib.hid hpm.1; have C1 := Lib.hid hpm.2.1; have N1 := Lib.hid hpm.2.2; clear hpm q1 q2 q3)))
    have S0 : AS9 w1 w1.heap.size cl s i 0 (.slice none 0 0) ((w1.alloc (.cells #[.int .i64 s, .int .i64 i] 71)).alloc (.cells #[.int .i64 cl, .slice none 0 0] 90)) :=
      ⟨by simp, by simp, by simp, by simp, by simp, World.ownsRow_nil _ _ _ _, ((Below.refl _ _).alloc (Nat.le_refl _) _).alloc (by simp) _, by simp⟩
    replace S0 := Lib.hid S0
    generalize ((w1.alloc (.cells #[.int .i64 s, .int .i64 i] 71)).alloc (.cells #[.int .i64 cl, .slice none 0 0] 90)) = w2 at *
    generalize hsb : w1.heap.size = sb at *
    replace hsb := Lib.hid hsb
    clear cm hc d5 d0 d1 d2 d3 PF Q
    go_loopw [10] (fun i' wr => ∃ k : Nat, k ≤ fn ∧ i' = .int .i64 k ∧ ∃ v, AS9 w1 sb cl s i k v wr) (fun i' _ => fn - (intOf i').toNat)
    case atStart => exact ⟨0, by omega, rfl, _, S0.out⟩
    case round =>
      obtain ⟨k, hk, rfl, v, hR⟩ := hrel
      have hc1 := hR.c1
      have hz1 := hR.z1
      have hsz := hR.size
      obtain ⟨va, vn, vc, rfl⟩ := slice_form hR.own
      by_cases hlt : k < fn
      · have hlt' : decide ((k : Int) < (fn : Int)) = true := by simp; omega
        have hw : IntKind.i64.wrap ((k : Int) + 1) = (k : Int) + 1 := by rw [IntKind.wrap_i64]; omega
        replace hR := Lib.hid hR
        have hbl : ∀ {o : Obj}, (wr.alloc o).cell? ⟨sb + 1, 1, none⟩ = wr.cell? ⟨sb + 1, 1, none⟩ := World.cell?_of_block (Below.heap_alloc _ _ _ (by show sb + 1 < wr.heap.size; omega))
        go_wp2_with (first | (at_builtin; refine wpList_appw rfl (.tmp 54) (.tmp 55) rfl (sb + 2) k (.slice va vn vc) _ (List.replicate k 2) [2] (by simp [Act.eval]) rfl (hR.out.own.alloc _) (ReadsW.one ((World.cell?_alloc_new _ _ _ 0).trans rfl)) (by simp only [List.length_singleton]; omega) (by simp; omega) ?_; intro v1 wC hown hgrow hat; simp only [List.length_singleton] at hown; have hN := Lib.hid (hR.out.next hown hgrow); have gC := hN.out.bel; obtain ⟨x1, xn, xc, rfl⟩ := slice_form hown; have hcC : wC.cell? ⟨sb + 1, 1, none⟩ = some (.slice va vn vc) := (World.cell?_of_block (hgrow.block (sb + 1) (by simp; omega) (fun e => by have := (hR.out.own.lt _ e.symm).1; omega))).trans (hbl.trans hc1); have hzC : wC.frozen? ⟨sb + 1, 1, none⟩ = false := (World.frozen?_of_block (a := ⟨sb + 1, 1, none⟩) (hgrow.block (sb + 1) (by simp; omega) (fun e => by have := (hR.out.own.lt _ e.symm).1; omega))).trans ((World.frozen?_of_block (a := ⟨sb + 1, 1, none⟩) (Below.heap_alloc _ _ _ (by show sb + 1 < wr.heap.size; omega))).trans hz1); clear gC hgrow hown hat))
        clear hbl hcC hzC hR hc1 hz1
        go_roundw
        case rel => exact ⟨k + 1, by omega, by go_num, _, hN.out⟩
        case measure => simp [intOf]; omega
      · have e : k = fn := by omega
        subst e
        have hlt' : decide ((k : Int) < (k : Int)) = false := by simp
        have hc0 := hR.c0
        have hp0 := hR.p0
        have hp1 := hR.p1
        have hB : Below w1.heap.size w1 wr.drew := by rw [hsb.out]; exact hR.bel.drew
        have P2 := P1.out.keep hB
        have cmE : wr.cell? ⟨b, 3077, none⟩ = some (.map (some mb)) := P2.mapc
        have rV : SW wr.drew (.slice va vn vc) (List.replicate k 2) := by
          have : SW wr (.slice va vn vc) (List.replicate k 2) := by
            unfold SW
            rw [List.length_replicate]
            exact own_base hR.own
          exact this.same (fun _ _ => rfl)
        have hlt1 := P1.out.lt
        have hfar : ∀ g, (Value.slice va vn vc).ownBlock = some g → w1.heap.size + 2 ≤ g := fun g hg => by rw [hsb.out]; exact (hR.own.lt g hg).1
        have hmx : (1020 : Nat) < maxLen := by decide
        obtain ⟨wG, hup, hm, hgr, hsz2⟩ := P2.mp.put (by omega) hok (.agg #[.int .i64 cl, .slice va vn vc])
        obtain ⟨a1, a2⟩ := P2.cstep hal.out rV (fun g hg hFH => by have h1 := hfar g hg; have h2 := hlt1 g hFH; omega) hm hgr
        have hbm : mb < sb := by rw [← hsb.out]; exact P1.out.mp.lt
        have hws : w.heap.size ≤ w1.heap.size := C1.out.size
        have nG : Newer (FH b FM mb R) (FH b (upF FM s F1) mb (rowR R (.slice va vn vc))) w.heap.size := fun g hg => by
          rcases FH_row g hg with h1 | h1
          · exact N1.out g h1
          · exact Or.inr (by have := hfar g h1; omega)
        have cG : Ch (FH b FM mb R) w wG := C1.out.then_ ((below_toCh _ hB).trans a2) N1.out
        have p0G : wG.cell? ⟨sb, 0, none⟩ = some (.int .i64 s) := (hgr.cell (show wr.drew.cell? _ = _ from hp0) (by intro e; injection e with e'; simp only at e'; omega))
        have p1G : wG.cell? ⟨sb, 1, none⟩ = some (.int .i64 i) := (hgr.cell (show wr.drew.cell? _ = _ from hp1) (by intro e; injection e with e'; simp only at e'; omega))
        have P3 : RefP wG.drew b n _ ms (upF FM s F1) mb _ _ _ := a1.same (Nat.le_refl _) (fun _ _ => rfl)
        have Tk := Lib.hid (rtake_c ((s : Int), i) P3.tbl)
        replace P3 := Lib.hid P3
        replace nG := Lib.hid nG
        have cG2 := Lib.hid cG.drew
        have hbG : b < wG.heap.size := by have := P2.tbl.lt; rw [hsz2]; exact this
        unfold plV at hup Tk
        simp only at Tk
        clear a1 a2 cG hm hgr rV hfar P2 hlt1 hR hz1 P1 C1 N1 h hsz2
        go_wp2
        refine wp_region_still_tail 6 (by kernel_rfl) (by kernel_rfl) ?_
        simp only [List.take_succ_cons, List.take_zero, List.drop_succ_cons, List.drop_zero]
        iterate 6 still_step
        refine wpStill_nil ?_
        change wpList _ _ _ _ _ wr.drew
        clear hc0 hc1 hp0 hp1 cmE
        go_wp2
        refine wp_region_still_tail 4 (by kernel_rfl) (by kernel_rfl) ?_
        simp only [List.take_succ_cons, List.take_zero, List.drop_succ_cons, List.drop_zero]
        iterate 4 still_step
        refine wpStill_nil ?_
        change wpList _ _ _ _ _ wG.drew
        clear p0G p1G hup
        go_wp2_with (first | (go_at_call 50; ((with_reducible refine (Tk.out).mono ?_); rintro e w5 ⟨he, d1, d2⟩; subst he)))
        go_ret
        obtain ⟨b1, b2⟩ := P3.out.tstep d1 d2
        first
          | exact ⟨_, rfl, ⟨ms, _, mb, _, _, _, rfl, ⟨b1, hi9.out⟩⟩, cG2.out.then_ b2 nG.out, nG.out⟩
          | exact ⟨rfl, _, ⟨ms, _, mb, _, _, _, rfl, ⟨b1, hi9.out⟩⟩, cG2.out.then_ b2 nG.out, nG.out⟩
end
end Wd
end Go.Proofs.YtdaojohdmidemaaGreat

/- The document's own memory: Scan. -/
namespace Go.Proofs.YtdaojohdmidemaaGreat
open Go.RowKit Go.Maps
set_option linter.unusedVariables false
namespace Wd
theorem shI_C {H : Hst} {i : Int} : (shI H i).C = H.C := by unfold shI sh; split <;> rfl
theorem shW_C {H : Hst} {x : Int} : (shW H x).C = H.C := by unfold shW; split; exact shI_C; rfl
theorem holdH_C {l : List Int} : ∀ {H : Hst}, (holdH H l).C = H.C := by
  unfold holdH
  induction l with
  | nil => intro H; rfl
  | cons x l ih => intro H; rw [List.foldl_cons, ih, shW_C]
theorem gry_none {H : Hst} (h : doneB H = true) : gry H = none := by
  unfold gry
  rw [List.find?_eq_none]
  intro s hs
  rw [done_of h s (List.mem_range.1 hs)]
  simp
theorem gry_some {H : Hst} (h : doneB H = false) : ∃ s : Nat, gry H = some s ∧ s < 5 ∧ H.M s 2 ≠ [] ∧ ∀ j, j < s → H.M j 2 = [] := by
  cases hg : gry H with
  | none =>
    exfalso
    have : doneB H = true := by
      unfold doneB
      rw [all_step]
      intro j hj
      unfold gry at hg
      have := (List.find?_eq_none.1 hg) j (List.mem_range.2 hj)
      simpa using this
    rw [h] at this; cases this
  | some s =>
    unfold gry at hg
    rw [List.find?_range_eq_some] at hg
    obtain ⟨h1, h2, h3⟩ := hg
    refine ⟨s, rfl, List.mem_range.1 h2, by simpa using h1, fun j hj => ?_⟩
    have := h3 j hj
    simpa using this
theorem scanN_stop {H : Hst} {k : Nat} {W d : Int} (h : W ≤ d ∨ doneB H = true) : scanN k W d H = (d, H) := by
  cases k with
  | zero => rfl
  | succ k =>
    unfold scanN
    rcases h with h | h
    · rw [if_neg (by omega)]
    · rw [gry_none h]; simp
theorem scanN_go {H : Hst} {k s : Nat} {W d : Int} (h : d < W) (hg : gry H = some s) : scanN (k + 1) W d H = scanN k W (d + wd s) (scan1 H s) := by
  rw [scanN, if_pos h, hg]
theorem field_cell (c1 : Int) (ua : Option Addr) (m uc : Nat) (w : World) : (Instr.field 90 (.agg #[.int .i64 c1, .slice ua m uc]) 1).run Tryz.prog w = .ok (.slice ua m uc) w := by kernel_rfl
theorem wd_four {s : Nat} (hs : s < 5) : 4 ≤ wd s ∧ wd s ≤ 64 := by
  rcases (show s = 0 ∨ s = 1 ∨ s = 2 ∨ s = 3 ∨ s = 4 by omega) with rfl | rfl | rfl | rfl | rfl <;> decide
section
variable {w w' : World} {b : Nat} {n : Nat → Nat} {H : Hst} {F : Nat → Prop}
/-- so far: j steps, d words -/
structure CSt9 (w : World) (b : Nat) (n : Nat → Nat) (H : Hst) (F : Nat → Prop) (W : Int) (j : Nat) (d : Int) (wr : World) (H' : Hst) (F' : Nat → Prop) : Prop where
  ra : RA9 wr b n H' F'
  ch : Ch F w wr
  nw : Newer F F' w.heap.size
  d0 : 4 * (j : Int) ≤ d
  d1 : d ≤ W + 64
  e : scanN (262145 - j) W d H' = scanN 262145 W 0 H
/-- the fields of the one that is scanned, the first q -/
structure QSt9 (w : World) (b : Nat) (n : Nat → Nat) (H1 : Hst) (ms : Nat → Nat) (FM : Nat → Nat → Prop) (mb c : Nat) (M : Pl → Option Value) (R : Nat → Prop) (fs : List Int) (q : Nat) (wr : World) (FM' : Nat → Nat → Prop) : Prop where
  ra : RefH wr b n (holdH H1 (fs.take q)) ms FM' mb c M R
  ch : Ch (FH b FM mb R) w wr
  nw : Newer (FH b FM mb R) (FH b FM' mb R) w.heap.size
theorem QSt9.row {w1 wr : World} {H1 : Hst} {ms : Nat → Nat} {FM FM' : Nat → Nat → Prop} {mb c : Nat} {M : Pl → Option Value} {R : Nat → Prop} {fs : List Int} {q : Nat} (h : QSt9 w1 b n H1 ms FM mb c M R fs q wr FM') {p : Pl} {u : Value} {c1 : Int} (hu : (M p).getD zeroC = .agg #[.int .i64 c1, u]) (hf : (H1.C p).2 = fs) : SW wr u fs := by
  obtain ⟨u', e1, e2, _⟩ := h.ra.cellv p
  rw [holdH_C] at e1 e2
  rw [hu] at e1
  simp only [Value.agg.injEq, Array.mk.injEq, List.cons.injEq, and_true] at e1
  rw [e1.2]
  rw [hf] at e2
  exact e2
set_option maxHeartbeats 32000000 in
set_option maxRecDepth 20000 in
theorem rscanh_c (h : RA9 w b n H F) (x : Int) :
    Calls Tryz.prog 22 #[.pointer (some ⟨b, 0, none⟩), .int .i64 x] w fun e w' => ∃ F', e = .returned (.int .i64 (scanR H x).1) ∧ RA9 w' b n (scanR H x).2 F' ∧ Ch F w w' ∧ Newer F F' w.heap.size := by
  unfold scanR
  by_cases ha : 1048576 < x
  · have eW : clampW x = 1048576 := by unfold clampW; omega
    rw [eW]
    have fa : 1048576 < x := ha
    have S0 : CSt9 w b n H F 1048576 0 0 w H F := ⟨h, Ch.refl _ _, newer_refl9 _ _, by simp, by omega, rfl⟩
    replace S0 := Lib.hid S0
    clear h
    go_enter Tryz.func22, Tryz.ntmps22
    go_wp2
    go_loopw [5] (fun d' wr => ∃ (j : Nat) (d : Int) (H' : Hst) (F' : Nat → Prop), d' = .int .i64 d ∧ CSt9 w b n H F 1048576 j d wr H' F') (fun d' _ => (1048576 + 64 - intOf d').toNat)
    case atStart => exact ⟨0, 0, H, F, rfl, S0.out⟩
    case round =>
      obtain ⟨j, d, H', F', rfl, hR⟩ := hrel
      have hd0 := hR.d0
      have hd1 := hR.d1
      by_cases hlt : d < 1048576
      · have hlt' : decide (d < 1048576) = true := by simpa using hlt
        cases hdn : doneB H' with
        | true =>
          have PD := Lib.hid (rdone_c hR.ra)
          rw [hdn] at PD
          have eS := hR.e
          rw [scanN_stop (Or.inr hdn)] at eS
          replace hR := Lib.hid hR
          replace eS := Lib.hid eS
          go_wp2_with (first | (go_at_call 65; ((with_reducible refine (PD.out).mono ?_); rintro e w1 ⟨rfl, hw1⟩; subst w1)))
          go_ret
          rw [← eS.out]
          first | exact ⟨_, rfl, hR.out.ra, hR.out.ch, hR.out.nw⟩ | exact ⟨rfl, _, hR.out.ra, hR.out.ch, hR.out.nw⟩
        | false =>
          have PD := Lib.hid (rdone_c hR.ra)
          rw [hdn] at PD
          obtain ⟨s, hg, hs5, hne, hem⟩ := gry_some hdn
          obtain ⟨m, hm⟩ : ∃ m, 262145 - j = m + 1 := ⟨262145 - j - 1, by omega⟩
          have eS := hR.e
          rw [hm, scanN_go hlt hg] at eS
          have hm' : m = 262145 - (j + 1) := by omega
          rw [hm'] at eS
          have ch0 := Lib.hid hR.ch
          have nw0 := Lib.hid hR.nw
          obtain ⟨ms, FM, mb, c, M, R, rfl, h⟩ := hR.ra
          have m0 : wr.cell? ⟨b, 3072, none⟩ = some (.pointer (some ⟨ms 0, 0, none⟩)) := h.mill (s := 0) (by omega)
          have m1 : wr.cell? ⟨b, 3073, none⟩ = some (.pointer (some ⟨ms 1, 0, none⟩)) := h.mill (s := 1) (by omega)
          have m2 : wr.cell? ⟨b, 3074, none⟩ = some (.pointer (some ⟨ms 2, 0, none⟩)) := h.mill (s := 2) (by omega)
          have m3 : wr.cell? ⟨b, 3075, none⟩ = some (.pointer (some ⟨ms 3, 0, none⟩)) := h.mill (s := 3) (by omega)
          have m4 : wr.cell? ⟨b, 3076, none⟩ = some (.pointer (some ⟨ms 4, 0, none⟩)) := h.mill (s := 4) (by omega)
          replace h := Lib.hid h
          replace eS := Lib.hid eS
          replace hem := Lib.hid hem
          clear hR hdn hg hm hm'
          go_wp2_with (first | (go_at_call 65; ((with_reducible refine (PD.out).mono ?_); rintro e w1 ⟨rfl, hw1⟩; subst w1)))
          clear m0 m1 m2 m3 m4 PD
          have hinv := Lib.hid h.out.inv
          have hl8 := Lib.hid (h.out.inv.hl hs5)
          go_loopw [5, 26] (fun d' i' wq => d' = .int .i64 d ∧ ∃ k : Nat, k ≤ s ∧ i' = .int .i64 k ∧ wq = wr) (fun _ i' _ => 5 - (intOf i').toNat)
          case atStart => exact ⟨rfl, 0, by omega, rfl, rfl⟩
          case round =>
            obtain ⟨rfl, k, hk, rfl, rfl⟩ := hrel
            have hk5 : k < 5 := by omega
            have hlt5 : decide ((k : Int) < 5) = true := by simp; omega
            have hw1 : IntKind.i64.wrap ((k : Int) + 1) = (k : Int) + 1 := by rw [IntKind.wrap_i64]; omega
            have hix := index_ms ms hk5 wr
            obtain ⟨a2, c2, hc⟩ := (h.out.ml k hk5).row2 (k := 2) (by omega)
            by_cases hks : k < s
            · rw [hem.out k hks] at hc
              have hc' : wr.cell? ⟨ms k, 2, none⟩ = some (.slice a2 0 c2) := hc
              clear hc
              go_wp2
              go_roundw
              case rel => exact ⟨by first | rfl | trivial, k + 1, by omega, by go_num, by first | rfl | trivial⟩
              case measure => simp [intOf]; omega
            · have e : k = s := by omega
              subst e
              have hl : 0 < (H'.M k 2).length := List.length_pos_iff.2 hne
              have d1 : decide (((H'.M k 2).length : Int) > 0) = true := by simp; omega
              have d2 : decide (0 < ((H'.M k 2).length : Int)) = true := by simp; omega
              obtain ⟨i0, hi0⟩ : ∃ i0, i0 = firstR (H'.M k 2 |> fun _ => H'.M k) 2 := ⟨_, rfl⟩
              replace hi0 : i0 = firstR (H'.M k) 2 := hi0
              have Q := Lib.hid (qscan (h.out.ml k hk5) hl8.out)
              rw [← hi0] at Q
              have hm2 : i0 ∈ H'.M k 2 := by
                rw [hi0]; unfold firstR
                cases hA : H'.M k 2 with
                | nil => exact absurd hA hne
                | cons y t => simp
              have hib := (good_mem (hinv.out.good k hk5)).1 (show i0 ∈ LL (H'.M k) by unfold LL; simp [hm2])
              have few := hinv.out.few k hk5
              have hok : plOk ((k : Int), i0) := ⟨⟨by simp only; omega, by simp only; omega⟩, ⟨by simp only; omega, by simp only; omega⟩⟩
              obtain ⟨id, hid⟩ := hinv.out.full k i0 hk5 hib.1 hib.2 (fun h0 => by have := good_apart (hinv.out.good k hk5) (x := 0) (y := 2) (by omega) (by omega) h0 hm2; omega)
              have hxs := Lib.hid (hinv.out.cel id _ hid).2.2
              have hfl := (hinv.out.cel id _ hid).1
              obtain ⟨c1, fs, hcf⟩ : ∃ c1 fs, H'.C ((k : Int), i0) = (c1, fs) := ⟨_, _, rfl⟩
              rw [hcf] at hxs hfl
              have hfl62 : fs.length ≤ 62 := by
                simp only at hfl
                rcases fo_cases (fs.length : Int) with ⟨h, e⟩ | ⟨h1, h2, e⟩ | ⟨h1, h2, e⟩ | ⟨h1, h2, e⟩ | ⟨h1, h2, e⟩ | ⟨h1, h2, e⟩ <;> omega
              have eS1 : scan1 H' k = holdH (scA H' k) fs := by unfold scan1; rw [← hi0, hcf]
              have eS2 := eS.out
              rw [eS1] at eS2
              replace eS2 := Lib.hid eS2
              clear eS
              have hCA : (scA H' k).C ((k : Int), i0) = (c1, fs) := hcf
              replace hcf := Lib.hid hcf
              replace hCA := Lib.hid hCA
              have w4 := wd_four hk5
              have PW := Lib.hid (rwords_c (k : Int) (by omega) (by omega))
              generalize wd (k : Int) = ws at *
              clear hid hib hm2 hi0 eS1 hfl few hks
              generalize (H'.M k 2).length = ln at *
              go_wp2_with (first | (go_at_call 66; ((with_reducible refine (Q.out).mono ?_); rintro e w1 ⟨F1, he, q1, q2, q3⟩; subst he; have hpm := h.out.mstep hk5 q1 q2 q3 (hinv.out.scA k); have P1 := Lib.hid hpm.1; have C1 := Lib.hid hpm.2.1; have N1 := Lib.hid hpm.2.2; clear hpm q1 q2 q3)))
              have hB : Below w1.heap.size w1 (w1.alloc (.cells #[.int .i64 k, .int .i64 i0] 71)).drew := ((Below.refl _ _).alloc (Nat.le_refl _) _).drew
              have P2 := P1.out.keep hB
              obtain ⟨u, hu, hsu, _⟩ := P2.cellv ((k : Int), i0)
              have hu' := hu
              have hCk : (({ T := H'.T, M := upM H'.M k (firstA (H'.M k) 2 1), C := H'.C } : Hst).C ((k : Int), i0)) = (c1, fs) := hcf.out
              rw [hCk] at hu hsu
              have hL := P2.mp.look hok
              rw [hu] at hL
              obtain ⟨ua, uc, rfl⟩ := hsu.form
              have cmE : (w1.alloc (.cells #[.int .i64 k, .int .i64 i0] 71)).cell? ⟨b, 3077, none⟩ = some (.map (some mb)) := P2.mapc
              have b0 : (w1.alloc (.cells #[.int .i64 k, .int .i64 i0] 71)).cell? ⟨w1.heap.size, 0, none⟩ = some (.int .i64 k) := by simp
              have b1 : (w1.alloc (.cells #[.int .i64 k, .int .i64 i0] 71)).cell? ⟨w1.heap.size, 1, none⟩ = some (.int .i64 i0) := by simp
              have hbG := P2.tbl.lt
              have C2 := Lib.hid (C1.out.trans ((below_toCh _ hB).mono (F := fun _ => False) (fun _ h => h.elim)))
              unfold plV at hL
              simp only at hL
              generalize hw2 : (w1.alloc (.cells #[.int .i64 k, .int .i64 i0] 71)) = w2 at *
              clear hw2
              have hbG2 : b < w2.heap.size := hbG
              have hQ0 : QSt9 w2.drew b n (scA H' k) ms (upF FM k F1) mb c M R fs 0 w2.drew (upF FM k F1) := ⟨P2, Ch.refl _ _, newer_refl9 _ _⟩
              replace hQ0 := Lib.hid hQ0
              replace hu' := Lib.hid hu'
              replace hu := Lib.hid hu
              clear P1 C1 P2 hB hCk Q h hem hinv hl8 hc hix d1 d2 S0 hbG hu' hl
              have hfd := field_cell c1 ua fs.length uc w2.drew
              refine wp_region_still_lit (by kernel_rfl) (by kernel_rfl) ?_
              iterate 9 still_step
              refine wpStill_nil ?_
              change Exit.then _ _ Exit.normal _ w2.drew
              clear cmE b0 b1 hL hfd
              generalize w2.drew = w3 at *
              have NX := Lib.hid (fun (FM' : Nat → Nat → Prop) (hn : Newer (FH b (upF FM k F1) mb R) (FH b FM' mb R) w3.heap.size) => Newer.trans N1.out hn C2.out.size)
              rcases hsu.cases with ⟨hnil, e0⟩ | ⟨g, cap, hgc, _, _, hgs, _⟩
              · subst e0
                clear hsu hnil
                go_wp2
                refine wp_loop_rounds 1 ?_
                rw [rounds_succ]
                obtain ⟨FM3, hQ⟩ : ∃ FM3, Hid (QSt9 w3 b n (scA H' k) ms (upF FM k F1) mb c M R [] 0 w3 FM3) := ⟨_, hQ0⟩
                have ra3 : RefH w3 b n (holdH (scA H' k) []) ms FM3 mb c M R := hQ.out.ra
                have ra4 : RA9 w3 b n (holdH (scA H' k) []) (FH b FM3 mb R) := ⟨ms, FM3, mb, c, M, R, rfl, ra3⟩
                have chA : Ch F w w3 := ch0.out.then_ (C2.out.then_ hQ.out.ch N1.out) nw0.out
                have nwB := NX.out FM3 hQ.out.nw
                have nwA : Newer F (FH b FM3 mb R) w.heap.size := Newer.trans nw0.out nwB ch0.out.size
                have hN : CSt9 w b n H F 1048576 (j + 1) (d + ws) w3 (holdH (scA H' k) []) (FH b FM3 mb R) := ⟨ra4, chA, nwA, by omega, by omega, eS2.out⟩
                replace hN := Lib.hid hN
                clear ra3 ra4 chA nwB nwA hQ
                have hwd : IntKind.i64.wrap (d + ws) = d + ws := by rw [IntKind.wrap_i64]; omega
                go_wp2_with (first | (go_at_call 67; ((with_reducible refine (PW.out _).mono ?_); rintro e w9 ⟨rfl, hw9⟩; subst w9)))
                go_roundw
                case rel => exact ⟨j + 1, d + ws, _, _, by go_num, hN.out⟩
                case measure => simp only [intOf]; omega
              · cases hgc
                clear hsu
                go_wp2
                go_loopw [49] (fun q' wq => ∃ q : Nat, q ≤ fs.length ∧ q' = .int .i64 q ∧ ∃ FM', QSt9 w3 b n (scA H' k) ms (upF FM k F1) mb c M R fs q wq FM') (fun q' _ => fs.length - (intOf q').toNat)
                case atStart => exact ⟨0, by omega, rfl, _, hQ0.out⟩
                case round =>
                  obtain ⟨q, hq, rfl, FM3, hQ⟩ := hrel
                  by_cases hql : q < fs.length
                  · have hqd : decide ((q : Int) < (fs.length : Int)) = true := by simp; omega
                    have hwq : IntKind.i64.wrap ((q : Int) + 1) = (q : Int) + 1 := by rw [IntKind.wrap_i64]; omega
                    obtain ⟨y, hy⟩ : ∃ y, fs[q]? = some y := ⟨fs[q], by simp [hql]⟩
                    have hyb := hxs.out y (List.mem_of_getElem? hy)
                    have hrow := hQ.row hu.out (by rw [hCA.out])
                    have hcy := wrow_cell hrow hy
                    have PS := Lib.hid (rshade_r hQ.ra y (by omega) hyb.2)
                    rw [← hold_take hy] at PS
                    replace hQ := Lib.hid hQ
                    clear hrow hy hyb
                    go_wp2_with (first | (go_at_call 56; ((with_reducible refine (PS.out).mono ?_); rintro e w5 ⟨F5, he, q1, q2, q3⟩; subst he)))
                    have hQ1 : QSt9 w3 b n (scA H' k) ms (upF FM k F1) mb c M R fs (q + 1) w5 F5 := ⟨q1, hQ.out.ch.then_ q2 hQ.out.nw, Newer.trans hQ.out.nw q3 hQ.out.ch.size⟩
                    replace hQ1 := Lib.hid hQ1
                    clear q1 q2 q3 hQ PS hcy
                    go_roundw
                    case rel => exact ⟨q + 1, by omega, by go_num, F5, hQ1.out⟩
                    case measure => simp [intOf]; omega
                  · have e : q = fs.length := by omega
                    subst e
                    have hqd : decide ((fs.length : Int) < (fs.length : Int)) = false := by simp
                    replace hQ := Lib.hid hQ
                    have ra3 := hQ.out.ra
                    rw [List.take_length] at ra3
                    have ra4 : RA9 wr b n (holdH (scA H' k) fs) (FH b FM3 mb R) := ⟨ms, FM3, mb, c, M, R, rfl, ra3⟩
                    have chA : Ch F w wr := ch0.out.then_ (C2.out.then_ hQ.out.ch N1.out) nw0.out
                    have nwB := NX.out FM3 hQ.out.nw
                    have nwA : Newer F (FH b FM3 mb R) w.heap.size := Newer.trans nw0.out nwB ch0.out.size
                    have hN : CSt9 w b n H F 1048576 (j + 1) (d + ws) wr (holdH (scA H' k) fs) (FH b FM3 mb R) := ⟨ra4, chA, nwA, by omega, by omega, eS2.out⟩
                    replace hN := Lib.hid hN
                    clear ra3 ra4 chA nwB nwA hQ
                    have hwd : IntKind.i64.wrap (d + ws) = d + ws := by rw [IntKind.wrap_i64]; omega
                    go_wp2_with (first | (go_at_call 67; ((with_reducible refine (PW.out _).mono ?_); rintro e w9 ⟨rfl, hw9⟩; subst w9)))
                    go_roundw
                    case rel => exact ⟨j + 1, d + ws, _, _, by go_num, hN.out⟩
                    case measure => simp only [intOf]; omega
      · have hlt' : decide (d < 1048576) = false := by simpa using hlt
        have eS := hR.e
        rw [scanN_stop (Or.inl (by omega))] at eS
        replace hR := Lib.hid hR
        replace eS := Lib.hid eS
        go_wp2
        go_ret
        rw [← eS.out]
        first | exact ⟨_, rfl, hR.out.ra, hR.out.ch, hR.out.nw⟩ | exact ⟨rfl, _, hR.out.ra, hR.out.ch, hR.out.nw⟩
  · by_cases hb : x < 0
    · have eW : clampW x = 0 := by unfold clampW; omega
      rw [eW, scanN_stop (Or.inl (by omega))]
      have fa : ¬ 1048576 < x := ha
      have fb : 0 > x := hb
      replace h := Lib.hid h
      go_enter Tryz.func22, Tryz.ntmps22
      go_wp2
      refine wp_loop_rounds 1 ?_
      rw [rounds_succ]
      go_wp2
      go_ret
      exact ⟨_, rfl, h.out, Ch.refl _ _, newer_refl9 _ _⟩
    · have eW : clampW x = x := by unfold clampW; omega
      rw [eW]
      have fa : ¬ 1048576 < x := ha
      have fb : ¬ 0 > x := hb
      have fb2 : ¬ x < 0 := hb
      have hW20 : x ≤ 1048576 := by omega
      have S0 : CSt9 w b n H F x 0 0 w H F := ⟨h, Ch.refl _ _, newer_refl9 _ _, by simp, by omega, rfl⟩
      replace S0 := Lib.hid S0
      clear h
      go_enter Tryz.func22, Tryz.ntmps22
      go_wp2
      go_loopw [5] (fun d' wr => ∃ (j : Nat) (d : Int) (H' : Hst) (F' : Nat → Prop), d' = .int .i64 d ∧ CSt9 w b n H F x j d wr H' F') (fun d' _ => (x + 64 - intOf d').toNat)
      case atStart => exact ⟨0, 0, H, F, rfl, S0.out⟩
      case round =>
        obtain ⟨j, d, H', F', rfl, hR⟩ := hrel
        have hd0 := hR.d0
        have hd1 := hR.d1
        by_cases hlt : d < x
        · have hlt' : decide (d < x) = true := by simpa using hlt
          cases hdn : doneB H' with
          | true =>
            have PD := Lib.hid (rdone_c hR.ra)
            rw [hdn] at PD
            have eS := hR.e
            rw [scanN_stop (Or.inr hdn)] at eS
            replace hR := Lib.hid hR
            replace eS := Lib.hid eS
            go_wp2_with (first | (go_at_call 65; ((with_reducible refine (PD.out).mono ?_); rintro e w1 ⟨rfl, hw1⟩; subst w1)))
            go_ret
            rw [← eS.out]
            first | exact ⟨_, rfl, hR.out.ra, hR.out.ch, hR.out.nw⟩ | exact ⟨rfl, _, hR.out.ra, hR.out.ch, hR.out.nw⟩
          | false =>
            have PD := Lib.hid (rdone_c hR.ra)
            rw [hdn] at PD
            obtain ⟨s, hg, hs5, hne, hem⟩ := gry_some hdn
            obtain ⟨m, hm⟩ : ∃ m, 262145 - j = m + 1 := ⟨262145 - j - 1, by omega⟩
            have eS := hR.e
            rw [hm, scanN_go hlt hg] at eS
            have hm' : m = 262145 - (j + 1) := by omega
            rw [hm'] at eS
            have ch0 := Lib.hid hR.ch
            have nw0 := Lib.hid hR.nw
            obtain ⟨ms, FM, mb, c, M, R, rfl, h⟩ := hR.ra
            have m0 : wr.cell? ⟨b, 3072, none⟩ = some (.pointer (some ⟨ms 0, 0, none⟩)) := h.mill (s := 0) (by omega)
            have m1 : wr.cell? ⟨b, 3073, none⟩ = some (.pointer (some ⟨ms 1, 0, none⟩)) := h.mill (s := 1) (by omega)
            have m2 : wr.cell? ⟨b, 3074, none⟩ = some (.pointer (some ⟨ms 2, 0, none⟩)) := h.mill (s := 2) (by omega)
            have m3 : wr.cell? ⟨b, 3075, none⟩ = some (.pointer (some ⟨ms 3, 0, none⟩)) := h.mill (s := 3) (by omega)
            have m4 : wr.cell? ⟨b, 3076, none⟩ = some (.pointer (some ⟨ms 4, 0, none⟩)) := h.mill (s := 4) (by omega)
            replace h := Lib.hid h
            replace eS := Lib.hid eS
            replace hem := Lib.hid hem
            clear hR hdn hg hm hm'
            go_wp2_with (first | (go_at_call 65; ((with_reducible refine (PD.out).mono ?_); rintro e w1 ⟨rfl, hw1⟩; subst w1)))
            clear m0 m1 m2 m3 m4 PD
            have hinv := Lib.hid h.out.inv
            have hl8 := Lib.hid (h.out.inv.hl hs5)
            go_loopw [5, 26] (fun d' i' wq => d' = .int .i64 d ∧ ∃ k : Nat, k ≤ s ∧ i' = .int .i64 k ∧ wq = wr) (fun _ i' _ => 5 - (intOf i').toNat)
            case atStart => exact ⟨rfl, 0, by omega, rfl, rfl⟩
            case round =>
              obtain ⟨rfl, k, hk, rfl, rfl⟩ := hrel
              have hk5 : k < 5 := by omega
              have hlt5 : decide ((k : Int) < 5) = true := by simp; omega
              have hw1 : IntKind.i64.wrap ((k : Int) + 1) = (k : Int) + 1 := by rw [IntKind.wrap_i64]; omega
              have hix := index_ms ms hk5 wr
              obtain ⟨a2, c2, hc⟩ := (h.out.ml k hk5).row2 (k := 2) (by omega)
              by_cases hks : k < s
              · rw [hem.out k hks] at hc
                have hc' : wr.cell? ⟨ms k, 2, none⟩ = some (.slice a2 0 c2) := hc
                clear hc
                go_wp2
                go_roundw
                case rel => exact ⟨by first | rfl | trivial, k + 1, by omega, by go_num, by first | rfl | trivial⟩
                case measure => simp [intOf]; omega
              · have e : k = s := by omega
                subst e
                have hl : 0 < (H'.M k 2).length := List.length_pos_iff.2 hne
                have d1 : decide (((H'.M k 2).length : Int) > 0) = true := by simp; omega
                have d2 : decide (0 < ((H'.M k 2).length : Int)) = true := by simp; omega
                obtain ⟨i0, hi0⟩ : ∃ i0, i0 = firstR (H'.M k 2 |> fun _ => H'.M k) 2 := ⟨_, rfl⟩
                replace hi0 : i0 = firstR (H'.M k) 2 := hi0
                have Q := Lib.hid (qscan (h.out.ml k hk5) hl8.out)
                rw [← hi0] at Q
                have hm2 : i0 ∈ H'.M k 2 := by
                  rw [hi0]; unfold firstR
                  cases hA : H'.M k 2 with
                  | nil => exact absurd hA hne
                  | cons y t => simp
                have hib := (good_mem (hinv.out.good k hk5)).1 (show i0 ∈ LL (H'.M k) by unfold LL; simp [hm2])
                have few := hinv.out.few k hk5
                have hok : plOk ((k : Int), i0) := ⟨⟨by simp only; omega, by simp only; omega⟩, ⟨by simp only; omega, by simp only; omega⟩⟩
                obtain ⟨id, hid⟩ := hinv.out.full k i0 hk5 hib.1 hib.2 (fun h0 => by have := good_apart (hinv.out.good k hk5) (x := 0) (y := 2) (by omega) (by omega) h0 hm2; omega)
                have hxs := Lib.hid (hinv.out.cel id _ hid).2.2
                have hfl := (hinv.out.cel id _ hid).1
                obtain ⟨c1, fs, hcf⟩ : ∃ c1 fs, H'.C ((k : Int), i0) = (c1, fs) := ⟨_, _, rfl⟩
                rw [hcf] at hxs hfl
                have hfl62 : fs.length ≤ 62 := by
                  simp only at hfl
                  rcases fo_cases (fs.length : Int) with ⟨h, e⟩ | ⟨h1, h2, e⟩ | ⟨h1, h2, e⟩ | ⟨h1, h2, e⟩ | ⟨h1, h2, e⟩ | ⟨h1, h2, e⟩ <;> omega
                have eS1 : scan1 H' k = holdH (scA H' k) fs := by unfold scan1; rw [← hi0, hcf]
                have eS2 := eS.out
                rw [eS1] at eS2
                replace eS2 := Lib.hid eS2
                clear eS
                have hCA : (scA H' k).C ((k : Int), i0) = (c1, fs) := hcf
                replace hcf := Lib.hid hcf
                replace hCA := Lib.hid hCA
                have w4 := wd_four hk5
                have PW := Lib.hid (rwords_c (k : Int) (by omega) (by omega))
                generalize wd (k : Int) = ws at *
                clear hid hib hm2 hi0 eS1 hfl few hks
                generalize (H'.M k 2).length = ln at *
                go_wp2_with (first | (go_at_call 66; ((with_reducible refine (Q.out).mono ?_); rintro e w1 ⟨F1, he, q1, q2, q3⟩; subst he; have hpm := h.out.mstep hk5 q1 q2 q3 (hinv.out.scA k); have P1 := Lib.hid hpm.1; have C1 := Lib.hid hpm.2.1; have N1 := Lib.hid hpm.2.2; clear hpm q1 q2 q3)))
                have hB : Below w1.heap.size w1 (w1.alloc (.cells #[.int .i64 k, .int .i64 i0] 71)).drew := ((Below.refl _ _).alloc (Nat.le_refl _) _).drew
                have P2 := P1.out.keep hB
                obtain ⟨u, hu, hsu, _⟩ := P2.cellv ((k : Int), i0)
                have hu' := hu
                have hCk : (({ T := H'.T, M := upM H'.M k (firstA (H'.M k) 2 1), C := H'.C } : Hst).C ((k : Int), i0)) = (c1, fs) := hcf.out
                rw [hCk] at hu hsu
                have hL := P2.mp.look hok
                rw [hu] at hL
                obtain ⟨ua, uc, rfl⟩ := hsu.form
                have cmE : (w1.alloc (.cells #[.int .i64 k, .int .i64 i0] 71)).cell? ⟨b, 3077, none⟩ = some (.map (some mb)) := P2.mapc
                have b0 : (w1.alloc (.cells #[.int .i64 k, .int .i64 i0] 71)).cell? ⟨w1.heap.size, 0, none⟩ = some (.int .i64 k) := by simp
                have b1 : (w1.alloc (.cells #[.int .i64 k, .int .i64 i0] 71)).cell? ⟨w1.heap.size, 1, none⟩ = some (.int .i64 i0) := by simp
                have hbG := P2.tbl.lt
                have C2 := Lib.hid (C1.out.trans ((below_toCh _ hB).mono (F := fun _ => False) (fun _ h => h.elim)))
                unfold plV at hL
                simp only at hL
                generalize hw2 : (w1.alloc (.cells #[.int .i64 k, .int .i64 i0] 71)) = w2 at *
                clear hw2
                have hbG2 : b < w2.heap.size := hbG
                have hQ0 : QSt9 w2.drew b n (scA H' k) ms (upF FM k F1) mb c M R fs 0 w2.drew (upF FM k F1) := ⟨P2, Ch.refl _ _, newer_refl9 _ _⟩
                replace hQ0 := Lib.hid hQ0
                replace hu' := Lib.hid hu'
                replace hu := Lib.hid hu
                clear P1 C1 P2 hB hCk Q h hem hinv hl8 hc hix d1 d2 S0 hbG hu' hl
                have hfd := field_cell c1 ua fs.length uc w2.drew
                refine wp_region_still_lit (by kernel_rfl) (by kernel_rfl) ?_
                iterate 9 still_step
                refine wpStill_nil ?_
                change Exit.then _ _ Exit.normal _ w2.drew
                clear cmE b0 b1 hL hfd
                generalize w2.drew = w3 at *
                have NX := Lib.hid (fun (FM' : Nat → Nat → Prop) (hn : Newer (FH b (upF FM k F1) mb R) (FH b FM' mb R) w3.heap.size) => Newer.trans N1.out hn C2.out.size)
                rcases hsu.cases with ⟨hnil, e0⟩ | ⟨g, cap, hgc, _, _, hgs, _⟩
                · subst e0
                  clear hsu hnil
                  go_wp2
                  refine wp_loop_rounds 1 ?_
                  rw [rounds_succ]
                  obtain ⟨FM3, hQ⟩ : ∃ FM3, Hid (QSt9 w3 b n (scA H' k) ms (upF FM k F1) mb c M R [] 0 w3 FM3) := ⟨_, hQ0⟩
                  have ra3 : RefH w3 b n (holdH (scA H' k) []) ms FM3 mb c M R := hQ.out.ra
                  have ra4 : RA9 w3 b n (holdH (scA H' k) []) (FH b FM3 mb R) := ⟨ms, FM3, mb, c, M, R, rfl, ra3⟩
                  have chA : Ch F w w3 := ch0.out.then_ (C2.out.then_ hQ.out.ch N1.out) nw0.out
                  have nwB := NX.out FM3 hQ.out.nw
                  have nwA : Newer F (FH b FM3 mb R) w.heap.size := Newer.trans nw0.out nwB ch0.out.size
                  have hN : CSt9 w b n H F x (j + 1) (d + ws) w3 (holdH (scA H' k) []) (FH b FM3 mb R) := ⟨ra4, chA, nwA, by omega, by omega, eS2.out⟩
                  replace hN := Lib.hid hN
                  clear ra3 ra4 chA nwB nwA hQ
                  have hwd : IntKind.i64.wrap (d + ws) = d + ws := by rw [IntKind.wrap_i64]; omega
                  go_wp2_with (first | (go_at_call 67; ((with_reducible refine (PW.out _).mono ?_); rintro e w9 ⟨rfl, hw9⟩; subst w9)))
                  go_roundw
                  case rel => exact ⟨j + 1, d + ws, _, _, by go_num, hN.out⟩
                  case measure => simp only [intOf]; omega
                · cases hgc
                  clear hsu
                  go_wp2
                  go_loopw [49] (fun q' wq => ∃ q : Nat, q ≤ fs.length ∧ q' = .int .i64 q ∧ ∃ FM', QSt9 w3 b n (scA H' k) ms (upF FM k F1) mb c M R fs q wq FM') (fun q' _ => fs.length - (intOf q').toNat)
                  case atStart => exact ⟨0, by omega, rfl, _, hQ0.out⟩
                  case round =>
                    obtain ⟨q, hq, rfl, FM3, hQ⟩ := hrel
                    by_cases hql : q < fs.length
                    · have hqd : decide ((q : Int) < (fs.length : Int)) = true := by simp; omega
                      have hwq : IntKind.i64.wrap ((q : Int) + 1) = (q : Int) + 1 := by rw [IntKind.wrap_i64]; omega
                      obtain ⟨y, hy⟩ : ∃ y, fs[q]? = some y := ⟨fs[q], by simp [hql]⟩
                      have hyb := hxs.out y (List.mem_of_getElem? hy)
                      have hrow := hQ.row hu.out (by rw [hCA.out])
                      have hcy := wrow_cell hrow hy
                      have PS := Lib.hid (rshade_r hQ.ra y (by omega) hyb.2)
                      rw [← hold_take hy] at PS
                      replace hQ := Lib.hid hQ
                      clear hrow hy hyb
                      go_wp2_with (first | (go_at_call 56; ((with_reducible refine (PS.out).mono ?_); rintro e w5 ⟨F5, he, q1, q2, q3⟩; subst he)))
                      have hQ1 : QSt9 w3 b n (scA H' k) ms (upF FM k F1) mb c M R fs (q + 1) w5 F5 := ⟨q1, hQ.out.ch.then_ q2 hQ.out.nw, Newer.trans hQ.out.nw q3 hQ.out.ch.size⟩
                      replace hQ1 := Lib.hid hQ1
                      clear q1 q2 q3 hQ PS hcy
                      go_roundw
                      case rel => exact ⟨q + 1, by omega, by go_num, F5, hQ1.out⟩
                      case measure => simp [intOf]; omega
                    · have e : q = fs.length := by omega
                      subst e
                      have hqd : decide ((fs.length : Int) < (fs.length : Int)) = false := by simp
                      replace hQ := Lib.hid hQ
                      have ra3 := hQ.out.ra
                      rw [List.take_length] at ra3
                      have ra4 : RA9 wr b n (holdH (scA H' k) fs) (FH b FM3 mb R) := ⟨ms, FM3, mb, c, M, R, rfl, ra3⟩
                      have chA : Ch F w wr := ch0.out.then_ (C2.out.then_ hQ.out.ch N1.out) nw0.out
                      have nwB := NX.out FM3 hQ.out.nw
                      have nwA : Newer F (FH b FM3 mb R) w.heap.size := Newer.trans nw0.out nwB ch0.out.size
                      have hN : CSt9 w b n H F x (j + 1) (d + ws) wr (holdH (scA H' k) fs) (FH b FM3 mb R) := ⟨ra4, chA, nwA, by omega, by omega, eS2.out⟩
                      replace hN := Lib.hid hN
                      clear ra3 ra4 chA nwB nwA hQ
                      have hwd : IntKind.i64.wrap (d + ws) = d + ws := by rw [IntKind.wrap_i64]; omega
                      go_wp2_with (first | (go_at_call 67; ((with_reducible refine (PW.out _).mono ?_); rintro e w9 ⟨rfl, hw9⟩; subst w9)))
                      go_roundw
                      case rel => exact ⟨j + 1, d + ws, _, _, by go_num, hN.out⟩
                      case measure => simp only [intOf]; omega
        · have hlt' : decide (d < x) = false := by simpa using hlt
          have eS := hR.e
          rw [scanN_stop (Or.inl (by omega))] at eS
          replace hR := Lib.hid hR
          replace eS := Lib.hid eS
          go_wp2
          go_ret
          rw [← eS.out]
          first | exact ⟨_, rfl, hR.out.ra, hR.out.ch, hR.out.nw⟩ | exact ⟨rfl, _, hR.out.ra, hR.out.ch, hR.out.nw⟩
end
end Wd
end Go.Proofs.YtdaojohdmidemaaGreat

/- The document's own memory: Flip. -/
namespace Go.Proofs.YtdaojohdmidemaaGreat
open Go.RowKit Go.Maps
set_option linter.unusedVariables false
namespace Wd
theorem flipL_succ (H : Hst) (k : Nat) : flipL H (k + 1) = flipL H k ++ flipS H k := by
  unfold flipL
  rw [List.range_succ, List.flatMap_append]
  simp
/-- the identities that are left, and how many were given back, behind the first k sizes -/
def flX (H : Hst) (k : Nat) : Tst × Int := (flipL H k).foldl giveP (H.T, 0)
def flQ (H : Hst) (k q : Nat) : Tst × Int := ((flipS H k).take q).foldl giveP (flX H k)
theorem flX_succ (H : Hst) (k : Nat) : flX H (k + 1) = flQ H k (flipS H k).length := by
  unfold flX flQ
  rw [flipL_succ, List.foldl_append, List.take_length]; rfl
theorem flQ_zero (H : Hst) (k : Nat) : flQ H k 0 = flX H k := by unfold flQ; rw [List.take_zero]; rfl
theorem flQ_succ {H : Hst} {k q : Nat} {p : Pl} (h : (flipS H k)[q]? = some p) : flQ H k (q + 1) = giveP (flQ H k q) p := by
  unfold flQ
  rw [List.take_add_one, h, Option.toList_some, List.foldl_append]; rfl
theorem giveP_some {T : Tst} {m : Int} {p : Pl} {id : Nat} (h : ofR T p = some id) : giveP (T, m) p = (updT T id none, m + 1) := by unfold giveP; simp only [h]
theorem giveP_none {T : Tst} {m : Int} {p : Pl} (h : ofR T p = none) : giveP (T, m) p = (T, m) := by unfold giveP; simp only [h]
def flH (H : Hst) (k : Nat) : Hst := { T := (flX H k).1, M := flpM H k, C := H.C }
/-- behind the first k sizes -/
structure FSt9 (w : World) (b : Nat) (n : Nat → Nat) (H : Hst) (ms : Nat → Nat) (FM : Nat → Nat → Prop) (mb c : Nat) (M : Pl → Option Value) (R : Nat → Prop) (k : Nat) (m : Int) (wr : World) (FM' : Nat → Nat → Prop) : Prop where
  ra : RefP wr b n (flH H k) ms FM' mb c M R
  ch : Ch (FH b FM mb R) w wr
  nw : Newer (FH b FM mb R) (FH b FM' mb R) w.heap.size
  e : m = (flX H k).2
  m0 : 0 ≤ m
  m1 : m ≤ 512 * (k : Int)
/-- behind the first q of size k -/
structure GSt9 (w1 : World) (b : Nat) (H : Hst) (X : Nat → Option Value) (k q : Nat) (m : Int) (wr : World) : Prop where
  rt : RefT X wr b (flQ H k q).1
  ch : Ch (fun g => g = b) w1 wr
  e : m = (flQ H k q).2
  m0 : 0 ≤ m
  m1 : m ≤ 512 * (k : Int) + q
section
variable {w w' : World} {b : Nat} {n : Nat → Nat} {H : Hst} {F : Nat → Prop}
theorem below_F {F : Nat → Prop} {w w' : World} (b : Below w.heap.size w w') : Ch F w w' := below_toCh F b
theorem upM_flip (H : Hst) {k : Nat} : upM (flpM H k) k (flipA (H.M k)) = flpM H (k + 1) := by
  funext s
  unfold upM flpM
  by_cases e : s = k
  · subst e; rw [if_pos rfl, if_pos (by omega)]
  · rw [if_neg e]
    by_cases h : s < k
    · rw [if_pos h, if_pos (by omega)]
    · rw [if_neg h, if_neg (by omega)]
theorem flpM_self (H : Hst) (k : Nat) : flpM H k k = H.M k := by unfold flpM; rw [if_neg (by omega)]
theorem flpM_zero (H : Hst) : flpM H 0 = H.M := by funext s; unfold flpM; rw [if_neg (by omega)]
theorem flipS_len {H : Hst} (h : HInv n H) {k : Nat} (hk : k < 5) : (flipS H k).length = (flipR (H.M k)).length ∧ (flipR (H.M k)).length ≤ 512 := by
  refine ⟨by unfold flipS; simp, ?_⟩
  unfold flipR
  split
  · exact Nat.le_trans (good_le (h.good k hk) 3 (by omega)) (h.few k hk)
  · simp
set_option maxHeartbeats 32000000 in
set_option maxRecDepth 20000 in
theorem rfliph_c (h : RA9 w b n H F) :
    Calls Tryz.prog 24 #[.pointer (some ⟨b, 0, none⟩)] w fun e w' => ∃ F', e = .returned (.int .i64 (flpI H)) ∧ RA9 w' b n (flpH H) F' ∧ Ch F w w' ∧ Newer F F' w.heap.size := by
  have PD := Lib.hid (rdone_c h)
  cases hd : doneB H with
  | false =>
    have e1 : flpI H = -1 := by unfold flpI; rw [hd]; rfl
    have e2 : flpH H = H := by unfold flpH; rw [hd]; rfl
    rw [e1, e2]
    rw [hd] at PD
    replace h := Lib.hid h
    clear e1 e2
    go_enter Tryz.func24, Tryz.ntmps24
    go_wp2_with (first | (go_at_call 65; ((with_reducible refine (PD.out).mono ?_); rintro e w1 ⟨rfl, hw1⟩; subst w1)))
    go_ret
    exact ⟨_, rfl, h.out, Ch.refl _ _, newer_refl9 _ _⟩
  | true =>
    have e1 : flpI H = (flX H 5).2 := by unfold flpI flX flpX; rw [if_pos hd]
    have e2 : flpH H = flH H 5 := by unfold flpH flH flX flpX; rw [if_pos hd]
    have hi9 := Lib.hid h.inv.flp
    have hinv := Lib.hid h.inv
    rw [e2] at hi9
    rw [e1, e2]
    rw [hd] at PD
    clear e1 e2 hd
    obtain ⟨ms, FM, mb, c, M, R, rfl, h⟩ := h
    have m0 : w.cell? ⟨b, 3072, none⟩ = some (.pointer (some ⟨ms 0, 0, none⟩)) := h.mill (s := 0) (by omega)
    have m1 : w.cell? ⟨b, 3073, none⟩ = some (.pointer (some ⟨ms 1, 0, none⟩)) := h.mill (s := 1) (by omega)
    have m2 : w.cell? ⟨b, 3074, none⟩ = some (.pointer (some ⟨ms 2, 0, none⟩)) := h.mill (s := 2) (by omega)
    have m3 : w.cell? ⟨b, 3075, none⟩ = some (.pointer (some ⟨ms 3, 0, none⟩)) := h.mill (s := 3) (by omega)
    have m4 : w.cell? ⟨b, 3076, none⟩ = some (.pointer (some ⟨ms 4, 0, none⟩)) := h.mill (s := 4) (by omega)
    have S0 : FSt9 w b n H ms FM mb c M R 0 0 w FM := ⟨by
      have e : flH H 0 = H := by unfold flH flX; rw [flpM_zero]; rfl
      rw [e]; exact h.toRefP, Ch.refl _ _, newer_refl9 _ _, rfl, by omega, by omega⟩
    replace S0 := Lib.hid S0
    clear h
    go_enter Tryz.func24, Tryz.ntmps24
    go_wp2_with (first | (go_at_call 65; ((with_reducible refine (PD.out).mono ?_); rintro e w1 ⟨rfl, hw1⟩; subst w1)))
    clear m0 m1 m2 m3 m4 PD
    go_loopw [3, 17] (fun m' i' wr => ∃ (k : Nat) (m : Int), k ≤ 5 ∧ m' = .int .i64 m ∧ i' = .int .i64 k ∧ ∃ FM', FSt9 w b n H ms FM mb c M R k m wr FM') (fun _ i' _ => 5 - (intOf i').toNat)
    case atStart => exact ⟨0, 0, by omega, rfl, rfl, FM, S0.out⟩
    case round =>
      obtain ⟨k, m, hk, rfl, rfl, FM2, hR⟩ := hrel
      by_cases hlt : k < 5
      · have hlt5 : decide ((k : Int) < 5) = true := by simp; omega
        have hw1 : IntKind.i64.wrap ((k : Int) + 1) = (k : Int) + 1 := by rw [IntKind.wrap_i64]; omega
        have hix := index_ms ms hlt wr
        have hq := hR.ra.ml k hlt
        have eM : (flH H k).M k = H.M k := flpM_self H k
        rw [eM] at hq
        have Q := Lib.hid (qflip hq (hinv.out.hl hlt))
        obtain ⟨hfs, hf5⟩ := flipS_len hinv.out hlt
        have em0 := hR.m0
        have em1 := hR.m1
        have hbr := hR.ra.tbl.lt
        replace hR := Lib.hid hR
        clear hq eM
        go_wp2_with (first | (go_at_call 71; ((with_reducible refine (Q.out).mono ?_); rintro e w1 ⟨u, F1, he, q1, q2, q3, hsl, hfar⟩; obtain ⟨ua, uc, rfl⟩ := hsl.form; subst he)))
        obtain ⟨P1, C1, N1⟩ := hR.out.ra.mstep hlt q1 q2 q3
        have P1' : RefP w1 b n { T := (flX H k).1, M := flpM H (k + 1), C := H.C } ms (upF FM2 k F1) mb c M R := by rw [← upM_flip]; exact P1
        have g0 : GSt9 w1 b H (extX ms mb) k 0 m w1 := ⟨by rw [flQ_zero]; exact P1'.tbl, Ch.refl _ _, by rw [flQ_zero]; exact hR.out.e, em0, by omega⟩
        replace g0 := Lib.hid g0
        have cA := Lib.hid (hR.out.ch.then_ C1 hR.out.nw)
        have nA := Lib.hid (Newer.trans hR.out.nw N1 hR.out.ch.size)
        replace P1' := Lib.hid P1'
        clear P1 C1 N1 q1 q2 q3 Q hR em0 em1
        have hfl : ∀ q c, (flipR (H.M k))[q]? = some c → (flipS H k)[q]? = some ((k : Int), c) := fun q c hq => by
          unfold flipS
          rw [List.getElem?_map, hq]; rfl
        have hrl : Hid (∀ q m wX, GSt9 w1 b H (extX ms mb) k q m wX → b < wX.heap.size) := Lib.hid (fun q m wX hX => hX.rt.lt)
        generalize flipR (H.M k) = L at *
        replace hfl := Lib.hid hfl
        have hb1 : b < w1.heap.size := P1'.out.tbl.lt
        rcases hsl.cases with ⟨hnil, e0⟩ | ⟨g, cap, hgc, _, _, hgs, hrow⟩
        · subst e0
          clear hsl hnil
          go_wp2
          refine wp_loop_rounds 1 ?_
          rw [rounds_succ]
          obtain ⟨m2, hm2⟩ : ∃ m2, m2 = m := ⟨m, rfl⟩
          rw [← hm2] at g0 ⊢
          have hG := g0
          obtain ⟨b1, b2⟩ := P1'.out.tstep hG.out.rt hG.out.ch
          have eT : (flQ H k 0).1 = (flX H (k + 1)).1 := by rw [flX_succ, hfs]; rfl
          have em2 : m2 = (flX H (k + 1)).2 := by rw [hG.out.e, flX_succ, hfs]; rfl
          have b3 : RefP w1 b n (flH H (k + 1)) ms (upF FM2 k F1) mb c M R := by
            unfold flH
            rw [← eT]
            exact b1
          have hN : FSt9 w b n H ms FM mb c M R (k + 1) m2 w1 (upF FM2 k F1) := ⟨b3, cA.out.then_ b2 nA.out, nA.out, em2, hG.out.m0, by have := hG.out.m1; omega⟩
          replace hN := Lib.hid hN
          clear b1 b2 b3 eT em2 hG
          clear hm2 g0
          go_wp2
          go_roundw
          case rel => exact ⟨k + 1, m2, by omega, rfl, by go_num, _, hN.out⟩
          case measure => simp [intOf]; omega
        · cases hgc
          have hgb : g ≠ b := by have := hfar g rfl; omega
          have hcell : Hid (∀ (wX : World) (q : Nat) (y : Int), Ch (fun x => x = b) w1 wX → L[q]? = some y → wX.cell? ⟨g, q, none⟩ = some (.int .i64 y)) := Lib.hid (fun wX q y hc hq => (World.cell?_of_block (a := ⟨g, q, none⟩) (hc.block g hgs hgb)).trans (row_cell hrow hq))
          clear hsl hrow hfar
          go_wp2
          go_loopw [3, 24] (fun m' q' wq => ∃ (q : Nat) (m2 : Int), q ≤ L.length ∧ m' = .int .i64 m2 ∧ q' = .int .i64 q ∧ GSt9 w1 b H (extX ms mb) k q m2 wq) (fun _ q' _ => L.length - (intOf q').toNat)
          case atStart => exact ⟨0, m, by omega, rfl, rfl, g0.out⟩
          case round =>
            obtain ⟨q, m2, hq, rfl, rfl, hG⟩ := hrel
            by_cases hql : q < L.length
            · have hqd : decide ((q : Int) < (L.length : Int)) = true := by simp; omega
              have hwq : IntKind.i64.wrap ((q : Int) + 1) = (q : Int) + 1 := by rw [IntKind.wrap_i64]; omega
              obtain ⟨y, hy⟩ : ∃ y, L[q]? = some y := ⟨L[q], by simp [hql]⟩
              have hcy := hcell.out _ q y hG.ch hy
              have hp := hfl.out q y hy
              have m0 := hG.m0
              have m1 := hG.m1
              have hwm : IntKind.i64.wrap (m2 + 1) = m2 + 1 := by rw [IntKind.wrap_i64]; omega
              have PO := Lib.hid (rof_c ((k : Int), y) hG.rt)
              have eq2 := flQ_succ hp
              have hbw := hG.rt.lt
              unfold plV at PO
              simp only at PO
              cases ho : ofR (flQ H k q).1 ((k : Int), y) with
              | none =>
                have eI : ofI (flQ H k q).1 ((k : Int), y) = 0 := by unfold ofI; rw [ho]; rfl
                rw [eI, ho] at PO
                have eN : flQ H k (q + 1) = flQ H k q := by rw [eq2]; exact giveP_none ho
                replace hG := Lib.hid hG
                clear eI ho eq2 hy hp
                go_wp2_with (first | (go_at_call 72; ((with_reducible refine (PO.out).mono ?_); rintro e w5 ⟨he, hb5⟩; simp only [Option.isSome] at he; subst he)))
                have hN : GSt9 w1 b H (extX ms mb) k (q + 1) m2 w5 := ⟨by rw [eN]; exact hG.out.rt.keep hb5, hG.out.ch.trans (below_F hb5), by rw [eN]; exact hG.out.e, m0, by omega⟩
                replace hN := Lib.hid hN
                clear hb5 hG PO hcy eN
                go_roundw
                case rel => exact ⟨q + 1, m2, by omega, rfl, by go_num, hN.out⟩
                case measure => simp [intOf]; omega
              | some id =>
                obtain ⟨i4, i10, hT, _⟩ := firstIn_some ho
                have hTid : (flQ H k q).1 id = some ((k : Int), y) := by simpa using hT
                have eI : ofI (flQ H k q).1 ((k : Int), y) = (id : Int) := by unfold ofI; rw [ho]; rfl
                rw [eI, ho] at PO
                have eN : flQ H k (q + 1) = (updT (flQ H k q).1 id none, (flQ H k q).2 + 1) := by rw [eq2]; exact giveP_some ho
                have hh : hasT (flQ H k q).1 (id : Int) = true := by rw [hasT_in i10]; unfold inR; rw [hTid]; rfl
                have eG : giveT (flQ H k q).1 (id : Int) = updT (flQ H k q).1 id none := by unfold giveT; rw [if_pos hh]; simp
                have PG := Lib.hid (fun (wX : World) (hX : Below wr.heap.size wr wX) => rgive_c (id : Int) (hG.rt.keep hX))
                rw [hh, eG] at PG
                replace hG := Lib.hid hG
                clear eI ho eq2 hy hp hT hTid hh eG
                go_wp2_with (first | (go_at_call 72; ((with_reducible refine (PO.out).mono ?_); rintro e w5 ⟨he, hb5⟩; simp only [Option.isSome] at he; subst he; replace hb5 := Lib.hid hb5)) | (go_at_call 73; ((with_reducible refine (PG.out _ hb5.out).mono ?_); rintro e w6 ⟨he, d1, d2⟩; subst he)))
                have hN : GSt9 w1 b H (extX ms mb) k (q + 1) (m2 + 1) w6 := ⟨by rw [eN]; exact d1, hG.out.ch.trans ((below_F hb5.out).trans d2), by rw [eN, hG.out.e], by omega, by omega⟩
                replace hN := Lib.hid hN
                clear hb5 hG PO PG hcy eN d1 d2
                go_roundw
                case rel => exact ⟨q + 1, m2 + 1, by omega, by go_num, by go_num, hN.out⟩
                case measure => simp [intOf]; omega
            · have e : q = L.length := by omega
              subst e
              have hqd : decide ((L.length : Int) < (L.length : Int)) = false := by simp
              replace hG := Lib.hid hG
              obtain ⟨b1, b2⟩ := P1'.out.tstep hG.out.rt hG.out.ch
              have eT : (flQ H k L.length).1 = (flX H (k + 1)).1 := by rw [flX_succ, hfs]
              have em2 : m2 = (flX H (k + 1)).2 := by rw [hG.out.e, flX_succ, hfs]
              have b3 : RefP wr b n (flH H (k + 1)) ms (upF FM2 k F1) mb c M R := by
                unfold flH
                rw [← eT]
                exact b1
              have hN : FSt9 w b n H ms FM mb c M R (k + 1) m2 wr (upF FM2 k F1) := ⟨b3, cA.out.then_ b2 nA.out, nA.out, em2, hG.out.m0, by have := hG.out.m1; omega⟩
              replace hN := Lib.hid hN
              clear b1 b2 b3 eT em2 hG
              clear g0 hcell
              go_wp2
              go_roundw
              case rel => exact ⟨k + 1, m2, by omega, rfl, by go_num, _, hN.out⟩
              case measure => simp [intOf]; omega
      · have e : k = 5 := by omega
        subst e
        have em := hR.e
        replace hR := Lib.hid hR
        replace em := Lib.hid em
        go_wp2
        go_ret
        rw [← em.out]
        first
          | exact ⟨_, rfl, ⟨ms, FM2, mb, c, M, R, rfl, ⟨hR.out.ra, hi9.out⟩⟩, hR.out.ch, hR.out.nw⟩
          | exact ⟨rfl, _, ⟨ms, FM2, mb, c, M, R, rfl, ⟨hR.out.ra, hi9.out⟩⟩, hR.out.ch, hR.out.nw⟩
end
end Wd
end Go.Proofs.YtdaojohdmidemaaGreat

/- The document's own memory: it is made. -/
namespace Go.Proofs.YtdaojohdmidemaaGreat
open Go.RowKit Go.Maps
set_option linter.unusedVariables false
namespace Wd
def zeroH (m : Nat) : Array Value := (List.replicate 1024 (Value.bool false) ++ (List.replicate 2048 (Value.int .i64 0) ++ (List.replicate 5 (Value.pointer none) ++ [Value.map (some m)]))).toArray
theorem builtH (m : Nat) : Tryz.prog.built 78 [(2, .map (some m))] = some (zeroH m) := by kernel_rfl
theorem run_buildH (m : Nat) (w : World) : (Instr.build 78 #[(2, .map (some m))]).run Tryz.prog w = .ok (.agg (zeroH m)) w := run_build w _ #[(2, .map (some m))] (zeroH m) (builtH m)
theorem zeroH_in {m k : Nat} (hk : k < 1024) : (zeroH m)[k]? = some (.bool false) := by
  unfold zeroH
  rw [List.getElem?_toArray, List.getElem?_append_left (by rw [List.length_replicate]; exact hk), List.getElem?_replicate, if_pos hk]
theorem zeroH_at {m k : Nat} (h1 : 1024 ≤ k) (h2 : k < 3072) : (zeroH m)[k]? = some (.int .i64 0) := by
  unfold zeroH
  rw [List.getElem?_toArray, List.getElem?_append_right (by rw [List.length_replicate]; exact h1), List.length_replicate, List.getElem?_append_left (by rw [List.length_replicate]; omega), List.getElem?_replicate, if_pos (by omega)]
theorem zeroH_pt {m k : Nat} (h1 : 3072 ≤ k) (h2 : k < 3077) : (zeroH m)[k]? = some (.pointer none) := by
  unfold zeroH
  rw [List.getElem?_toArray, List.getElem?_append_right (by rw [List.length_replicate]; omega), List.length_replicate, List.getElem?_append_right (by rw [List.length_replicate]; omega), List.length_replicate, List.getElem?_append_left (by rw [List.length_replicate]; omega), List.getElem?_replicate, if_pos (by omega)]
theorem zeroH_mp {m k : Nat} (h1 : 3077 ≤ k) : (zeroH m)[k]? = if k = 3077 then some (.map (some m)) else none := by
  unfold zeroH
  rw [List.getElem?_toArray, List.getElem?_append_right (by rw [List.length_replicate]; omega), List.length_replicate, List.getElem?_append_right (by rw [List.length_replicate]; omega), List.length_replicate, List.getElem?_append_right (by rw [List.length_replicate]; omega), List.length_replicate]
  by_cases e : k = 3077
  · subst e; rfl
  · rw [if_neg e, List.getElem?_eq_none]
    simp; omega
theorem zeroC_eq (m : Nat) : Tryz.zeroCells78.setIfInBounds 3077 (.map (some m)) = zeroH m := by kernel_rfl
/-- the cells behind the table while the first k mills are made -/
def nX (ms : Nat → Nat) (mb k : Nat) : Nat → Option Value := fun j => if j = 3077 then some (.map (some mb)) else if 3072 ≤ j ∧ j < 3077 then (if j - 3072 < k then some (.pointer (some ⟨ms (j - 3072), 0, none⟩)) else some (.pointer none)) else none
def upN (ms : Nat → Nat) (k g : Nat) : Nat → Nat := fun j => if j = k then g else ms j
theorem zeroH_ref (w : World) (m : Nat) (ms : Nat → Nat) : RefT (nX ms m 0) (w.alloc (.cells (zeroH m) 78)) w.heap.size noT := by
  have hh : (w.alloc (.cells (zeroH m) 78)).heap[w.heap.size]? = some (.cells (zeroH m) 78 (0, 0)) := heap_alloc_new _ _
  generalize w.alloc (.cells (zeroH m) 78) = W at hh ⊢
  generalize w.heap.size = b at hh ⊢
  refine ⟨fun k hk => ?_, fun k hk => ?_, fun k hk => ?_, fun k => by simp [World.frozen?, hh], fun k hk => ?_⟩
  · simp [World.cell?, hh, zeroH_in hk, inR, noT]
  · simp [World.cell?, hh, zeroH_at (m := m) (k := 1024 + k * 2) (by omega) (by omega), szR, noT]
  · simp [World.cell?, hh, zeroH_at (m := m) (k := 1024 + k * 2 + 1) (by omega) (by omega), clR, noT]
  · unfold nX
    by_cases h1 : k < 3077
    · rw [if_neg (by omega), if_pos ⟨hk, h1⟩, if_neg (by omega)]
      simp [World.cell?, hh, zeroH_pt (m := m) hk h1]
    · have h5 : ¬ (3072 ≤ k ∧ k < 3077) := by omega
      rw [if_neg h5]
      simp only [World.cell?, hh, zeroH_mp (m := m) (show 3077 ≤ k by omega)]
      by_cases e : k = 3077
      · simp [e]
      · simp [e]
theorem RefT.ext {X : Nat → Option Value} {w : World} {b : Nat} {T : Tst} (h : RefT X w b T) {k : Nat} (hk : 3072 ≤ k) {v0 v : Value} (hx : X k = some v0) : RefT (fun j => if j = k then some v else X j) (w.setCell ⟨b, k, none⟩ v) b T := by
  have far : ∀ {o : Nat}, o ≠ k → (w.setCell ⟨b, k, none⟩ v).cell? ⟨b, o, none⟩ = w.cell? ⟨b, o, none⟩ := fun hne => World.cell?_setCell_other _ _ _ _ (by intro e; injection e with _ h2; exact hne h2.symm)
  refine ⟨fun j hj => (far (by omega)).trans (h.ci j hj), fun j hj => (far (by omega)).trans (h.cs j hj), fun j hj => (far (by omega)).trans (h.cl j hj), fun j => by rw [World.frozen?_setCell]; exact h.z j, fun j hj => ?_⟩
  by_cases e : j = k
  · subst e
    simp only [if_true]
    exact World.cell?_setCell_same _ _ _ ((h.x j hk).trans hx)
  · simp only [if_neg e]
    exact (far e).trans (h.x j hj)
theorem nX_up (ms : Nat → Nat) (mb : Nat) {k g : Nat} (hk : k < 5) : (fun j => if j = 3072 + k then some (Value.pointer (some ⟨g, 0, none⟩)) else nX ms mb k j) = nX (upN ms k g) mb (k + 1) := by
  funext j
  unfold nX upN
  by_cases e : j = 3072 + k
  · subst e
    rw [if_pos rfl, if_neg (by omega), if_pos (by omega), if_pos (by omega), if_pos (by omega)]
  · rw [if_neg e]
    by_cases e2 : j = 3077
    · rw [if_pos e2, if_pos e2]
    · rw [if_neg e2, if_neg e2]
      by_cases h3 : 3072 ≤ j ∧ j < 3077
      · rw [if_pos h3, if_pos h3]
        by_cases h4 : j - 3072 < k
        · rw [if_pos h4, if_pos (by omega), if_neg (by omega)]
        · rw [if_neg h4, if_neg (by omega)]
      · rw [if_neg h3, if_neg h3]
theorem nX_five (ms : Nat → Nat) (mb : Nat) : nX ms mb 5 = extX ms mb := by
  funext j
  unfold nX extX
  by_cases e2 : j = 3077
  · rw [if_pos e2, if_pos e2]
  · rw [if_neg e2, if_neg e2]
    by_cases h3 : 3072 ≤ j ∧ j < 3077
    · rw [if_pos h3, if_pos h3, if_pos (by omega)]
    · rw [if_neg h3, if_neg h3]
/-- while the mills are made: the first k are there -/
structure NS9 (w : World) (n : Nat → Nat) (c : Nat → Int) (s0 : Nat) (k : Nat) (wr : World) (ms : Nat → Nat) (FM : Nat → Nat → Prop) : Prop where
  bel : Below s0 w wr
  size : s0 + 3 ≤ wr.heap.size
  cf : ∀ j, j < 5 → wr.cell? ⟨s0, j, none⟩ = some (.int .i64 (c j))
  tbl : RefT (nX ms (s0 + 1) k) wr (s0 + 2) noT
  mp : MapV wr (s0 + 1) 0 (fun _ => none)
  ml : ∀ s, s < k → QM wr (ms s) (startA (n s)) (FM s)
  far : ∀ s, s < k → ∀ g, FM s g → s0 + 3 ≤ g
  ap : ∀ s t, s < k → t < k → s ≠ t → ∀ g, FM s g → ¬ FM t g
theorem NS9.next {w wr w1 : World} {n : Nat → Nat} {c : Nat → Int} {s0 k : Nat} {ms : Nat → Nat} {FM : Nat → Nat → Prop} (h : NS9 w n c s0 k wr ms FM) (hk : k < 5) {V : Nat → Value}
    (hr : RefM w1 wr.heap.size (startA (n k)) V) (hb : Below wr.heap.size wr w1) (hV : ∀ j g, j < 4 → (V j).ownBlock = some g → wr.heap.size ≤ g) :
    NS9 w n c s0 (k + 1) (w1.setCell ⟨s0 + 2, 3072 + k, none⟩ (.pointer (some ⟨wr.heap.size, 0, none⟩))) (upN ms k wr.heap.size) (upF FM k (fun g => g = wr.heap.size ∨ ∃ j, j < 4 ∧ (V j).ownBlock = some g)) := by
  have hs := h.size
  have hs1 := hb.size
  have hF : ∀ g, (g = wr.heap.size ∨ ∃ j, j < 4 ∧ (V j).ownBlock = some g) → wr.heap.size ≤ g := by
    rintro g (rfl | ⟨j, hj, hg⟩)
    · exact Nat.le_refl _
    · exact hV j g hj hg
  have e1 : ∀ g, g < wr.heap.size → g ≠ s0 + 2 → (w1.setCell ⟨s0 + 2, 3072 + k, none⟩ (.pointer (some ⟨wr.heap.size, 0, none⟩))).heap[g]? = wr.heap[g]? := fun g h1 h2 => (Below.heap_setCell _ _ _ _ (by show g ≠ s0 + 2; omega)).trans (hb.block g h1)
  have e2 : ∀ g, g ≠ s0 + 2 → (w1.setCell ⟨s0 + 2, 3072 + k, none⟩ (.pointer (some ⟨wr.heap.size, 0, none⟩))).heap[g]? = w1.heap[g]? := fun g h2 => Below.heap_setCell _ _ _ _ (by show g ≠ s0 + 2; omega)
  refine ⟨below_set (h.bel.trans (hb.mono (by omega))) (by show s0 ≤ s0 + 2; omega) _, ?_, fun j hj => (World.cell?_of_block (a := ⟨s0, j, none⟩) (e1 s0 (by omega) (by omega))).trans (h.cf j hj), ?_, h.mp.same (e1 (s0 + 1) (by omega) (by omega)), fun s hs' => ?_, fun s hs' g hg => ?_, fun s t hs' ht hst g h1 h2 => ?_⟩
  · rw [World.size_setCell]; omega
  · rw [← nX_up ms (s0 + 1) hk]
    refine (h.tbl.keep hb).ext (by omega) (v0 := .pointer none) ?_
    unfold nX
    rw [if_neg (by omega), if_pos (by omega), if_neg (by omega)]
  · unfold upN upF
    by_cases e : s = k
    · subst e
      simp only [if_true]
      exact ⟨V, rfl, hr.same (fun g hg => e2 g (by have := hF g hg; omega))⟩
    · simp only [if_neg e]
      exact (h.ml s (by omega)).same (fun g hg => e1 g ((h.ml s (by omega)).lt g hg) (by have := h.far s (by omega) g hg; omega))
  · unfold upF at hg
    split at hg
    · have := hF g hg; omega
    · exact h.far s (by omega) g hg
  · unfold upF at h1 h2
    split at h1
    · rename_i e
      rw [if_neg (by omega)] at h2
      have h3 := hF g h1
      have h4 := (h.ml t (by omega)).lt g h2
      omega
    · split at h2
      · have h3 := hF g h2
        have h4 := (h.ml s (by omega)).lt g h1
        omega
      · exact h.ap s t (by omega) (by omega) hst g h1 h2
set_option maxHeartbeats 16000000 in
set_option maxRecDepth 20000 in
theorem rnewh_c (n : Nat → Nat) (p : Int) (w : World) (few : ∀ s, s < 5 → n s ≤ 512) (sum : n 0 + (n 1 + (n 2 + (n 3 + n 4))) ≤ 1020) :
    Calls Tryz.prog 10 #[.agg #[.int .i64 (n 0 : Nat), .int .i64 (n 1 : Nat), .int .i64 (n 2 : Nat), .int .i64 (n 3 : Nat), .int .i64 (n 4 : Nat), .int .i64 p]] w fun e w' => ∃ b F, e = .returned (.pointer (some ⟨b, 0, none⟩)) ∧ RA9 w' b n (newH n) F ∧ (∀ g, F g → w.heap.size ≤ g) ∧ Below w.heap.size w w' := by
  obtain ⟨s0, hs0⟩ : ∃ s0, s0 = w.heap.size := ⟨_, rfl⟩
  have hbH := run_buildH (w.heap.size + 1)
  have S0 : NS9 w n (fun j => (n j : Int)) s0 0 (((w.alloc (.cells #[.int .i64 (n 0 : Nat), .int .i64 (n 1 : Nat), .int .i64 (n 2 : Nat), .int .i64 (n 3 : Nat), .int .i64 (n 4 : Nat), .int .i64 p] 28)).alloc (.map #[] 0)).alloc (.cells (zeroH (w.heap.size + 1)) 78)) (fun _ => 0) (fun _ _ => False) := by
    rw [hs0]
    refine ⟨(((Below.refl _ _).alloc (Nat.le_refl _) _).alloc (by simp) _).alloc (by simp; omega) _, by simp, fun j hj => ?_, ?_, ?_, fun s hs => by omega, fun s hs => by omega, fun s t hs => by omega⟩
    · have hh : ((((w.alloc (.cells #[.int .i64 (n 0 : Nat), .int .i64 (n 1 : Nat), .int .i64 (n 2 : Nat), .int .i64 (n 3 : Nat), .int .i64 (n 4 : Nat), .int .i64 p] 28)).alloc (.map #[] 0)).alloc (.cells (zeroH (w.heap.size + 1)) 78))).heap[w.heap.size]? = some (.cells #[.int .i64 (n 0 : Nat), .int .i64 (n 1 : Nat), .int .i64 (n 2 : Nat), .int .i64 (n 3 : Nat), .int .i64 (n 4 : Nat), .int .i64 p] 28 (0, 0)) := by
        rw [Below.heap_alloc _ _ _ (by simp; omega), Below.heap_alloc _ _ _ (by simp)]
        exact heap_alloc_new _ _
      rcases (show j = 0 ∨ j = 1 ∨ j = 2 ∨ j = 3 ∨ j = 4 by omega) with rfl | rfl | rfl | rfl | rfl <;> simp only [World.cell?, hh] <;> rfl
    · have := zeroH_ref ((w.alloc (.cells #[.int .i64 (n 0 : Nat), .int .i64 (n 1 : Nat), .int .i64 (n 2 : Nat), .int .i64 (n 3 : Nat), .int .i64 (n 4 : Nat), .int .i64 p] 28)).alloc (.map #[] 0)) (w.heap.size + 1) (fun _ => 0)
      have e : ((w.alloc (.cells #[.int .i64 (n 0 : Nat), .int .i64 (n 1 : Nat), .int .i64 (n 2 : Nat), .int .i64 (n 3 : Nat), .int .i64 (n 4 : Nat), .int .i64 p] 28)).alloc (.map #[] 0)).heap.size = w.heap.size + 2 := by simp
      rw [e] at this
      exact this
    · have := MapV.made (w.alloc (.cells #[.int .i64 (n 0 : Nat), .int .i64 (n 1 : Nat), .int .i64 (n 2 : Nat), .int .i64 (n 3 : Nat), .int .i64 (n 4 : Nat), .int .i64 p] 28))
      have e : (w.alloc (.cells #[.int .i64 (n 0 : Nat), .int .i64 (n 1 : Nat), .int .i64 (n 2 : Nat), .int .i64 (n 3 : Nat), .int .i64 (n 4 : Nat), .int .i64 p] 28)).heap.size = w.heap.size + 1 := by simp
      rw [e] at this
      exact this.same (Below.heap_alloc _ _ _ (by simp))
  replace S0 := Lib.hid S0
  have hmm := @run_makeMap Tryz.prog
  go_enter Tryz.func10, Tryz.ntmps10
  go_wp2
  rw [zeroC_eq]
  clear hbH hmm
  have e1 : w.heap.size + 1 = s0 + 1 := by omega
  have e2 : w.heap.size + 1 + 1 = s0 + 2 := by omega
  rw [e1] at S0 ⊢
  rw [show s0 + 1 + 1 = s0 + 2 by omega, ← hs0]
  generalize ((w.alloc (.cells #[.int .i64 (n 0 : Nat), .int .i64 (n 1 : Nat), .int .i64 (n 2 : Nat), .int .i64 (n 3 : Nat), .int .i64 (n 4 : Nat), .int .i64 p] 28)).alloc (.map #[] 0)).alloc (.cells (zeroH (s0 + 1)) 78) = w0 at *
  replace hs0 := Lib.hid hs0
  clear e1 e2
  go_loopw [8] (fun i wr => ∃ k : Nat, k ≤ 5 ∧ i = .int .i64 k ∧ ∃ ms FM, NS9 w n (fun j => (n j : Int)) s0 k wr ms FM) (fun i _ => 5 - (intOf i).toNat)
  case atStart => exact ⟨0, by omega, rfl, _, _, S0.out⟩
  case round =>
    obtain ⟨k, hk, rfl, ms, FM, hR⟩ := hrel
    by_cases hlt : k < 5
    · have hlt5 : decide ((k : Int) < 5) = true := by simp; omega
      have hlt5' : (k : Int) < 5 := by omega
      have hw1 : IntKind.i64.wrap ((k : Int) + 1) = (k : Int) + 1 := by rw [IntKind.wrap_i64]; omega
      have hcf := hR.cf k hlt
      have hsz := hR.size
      have hfew := few k hlt
      have PN := Lib.hid (rnewm_c (n k) (by omega) wr.drew)
      have hx : wr.cell? ⟨s0 + 2, 3072 + k, none⟩ = some (.pointer none) := by
        rw [hR.tbl.x (3072 + k) (by omega)]
        unfold nX
        rw [if_neg (by omega), if_pos (by omega), if_neg (by omega)]
      have hz := hR.tbl.z (3072 + k)
      have hx2 : Hid (∀ w1, Below wr.heap.size wr w1 → w1.cell? ⟨s0 + 2, 3072 + k, none⟩ = some (.pointer none) ∧ w1.frozen? ⟨s0 + 2, 3072 + k, none⟩ = false) := Lib.hid (fun w1 hb => ⟨(hb.cell (by show s0 + 2 < wr.heap.size; omega)).trans hx, (hb.frozen (by show s0 + 2 < wr.heap.size; omega)).trans hz⟩)
      replace hR := Lib.hid hR
      clear hz
      go_wp2
      go_region_with (first | (go_at_call 42; ((with_reducible refine (PN.out).mono ?_); rintro e w1 ⟨V, he, q1, q2, q3⟩; subst he; have q2' : Below wr.heap.size wr w1 := ⟨q2.os, q2.tape, q2.output, q2.size, q2.block⟩; obtain ⟨x1, z1⟩ := hx2.out w1 q2')))
      have hN := hR.out.next hlt q1 q2' q3
      replace hN := Lib.hid hN
      clear q1 q2 q2' q3 x1 z1 hR hx2 PN hx hcf
      go_wp2
      go_roundw
      case rel => exact ⟨k + 1, by omega, by go_num, _, _, hN.out⟩
      case measure => simp [intOf]; omega
    · have e : k = 5 := by omega
      subst e
      replace hR := Lib.hid hR
      go_wp2
      go_ret
      have h := hR.out
      have ht := h.tbl
      rw [nX_five] at ht
      have hP : RefP wr (s0 + 2) n (newH n) ms FM (s0 + 1) 0 (fun _ => none) (fun _ => False) :=
        ⟨ht, h.ml, h.mp, ⟨fun p v hp => (by cases hp), fun p _ => rfl, fun g hg => False.elim hg⟩, ⟨[], List.nodup_nil, rfl, fun p => (by simp)⟩, fun p hp => (by cases hp), fun s hs hF => (by have := h.far s hs _ hF; omega), (by omega), fun h => h,
         fun s t hs ht hst g h1 h2 => h.ap s t hs ht hst g h1 h2, fun s hs hF => (by have := h.far s hs _ hF; omega), fun s hs g hF h => h, fun h => h⟩
      refine ⟨s0 + 2, _, rfl, ⟨ms, FM, s0 + 1, 0, _, _, rfl, ⟨hP, HInv.new n few sum⟩⟩, ?_, by rw [← hs0.out]; exact h.bel⟩
      rintro g (h1 | ⟨s, hs, h1⟩ | h1 | h1)
      · have := hs0.out; omega
      · have := h.far s hs g h1; have := hs0.out; omega
      · have := hs0.out; omega
      · exact h1.elim
end Wd
end Go.Proofs.YtdaojohdmidemaaGreat
