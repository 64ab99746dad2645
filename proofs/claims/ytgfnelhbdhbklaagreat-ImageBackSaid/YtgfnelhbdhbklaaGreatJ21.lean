/- Texts joined: IWD. -/
import Derived.Test.YtgfnelhbdhbklaaGreatJ20
/- A name more, an object more: programs still, and how long. -/
namespace Go.Proofs.YtgfnelhbdhbklaaGreat
open Go.RowKit
set_option linter.unusedVariables false
set_option maxRecDepth 20000
namespace Wd
theorem step_app_any {P : Program} {w : World} {ops : Array Oper} {o : Oper} {a : Act} {K : Act → World → Prop} {Q : Exit → Act → World → Prop} {E : Prop} (hgd : o.guard = none) (s x : Operand) (t : TypeId)
    (ho : o.op = .call { callee := .builtin .append, args := #[s, x], argTypes := #[t, t] })
    (base : Nat) (e : TypeId) (i : TypeInfo) (z : Value) (size bytes : Nat) (ht : P.underlying t = some (.slice e)) (hi : P.info? e = some i) (hz : i.zero = some z)
    (hsize : i.size = size) (hby : i.bytes = bytes) (hzs : z.cells.size = size) (hsz : 0 < size)
    (v u : Value) (n m : Nat) (xs news : List Value) (hs : a.eval s = v) (hx : a.eval x = u) (hown : w.ownsRow base e size v n xs) (hu : Rd w u m news) (hl : news.length = m * size) (h1 : ∀ u ∈ news, u.oneCell' = true)
    (h63 : n + m ≤ maxLen) (hbytes : (n + m) * bytes ≤ 140737488355328) (hbase : base ≤ w.heap.size)
    (h : ∀ v' w', w'.ownsRow base e size v' (n + m) (xs ++ news) → w.grownBy w' v.ownBlock → (v'.ownBlock = v.ownBlock ∨ v'.ownBlock = some w.heap.size) → K (a.put o.dst v') w') :
    if Region.wanted o (yielded ops a.tmps) = true then Oper.wp P o a w K Q else E := by
  have hw : Region.wanted o (yielded ops a.tmps) = true := by simp [Region.wanted, hgd]
  rw [if_pos hw]
  obtain ⟨v', w', hr, h2, h3, h5⟩ := run_app_any (P := P) w base t o.type e i z size bytes ht hi hz hsize hby hzs hsz v u n m xs news hown hu hl h1 h63 hbytes hbase
  unfold Oper.wp execOp
  simp only [ho, resolve, invoke, builtin, Sem.run_bind, Sem.run_pure, Result.andThen_ok, List.map_toArray, List.map_cons, List.map_nil, hs, hx, hr]
  exact h v' w' h2 h3 h5
theorem rd_own {w : World} {base size g n cap : Nat} {e : TypeId} {xs : List Value} (h : w.ownsRow base e size (.slice (some ⟨g, 0, none⟩) n cap) n xs) : Rd w (.slice (some ⟨g, 0, none⟩) n cap) n xs :=
  Or.inr ⟨_, _, rfl, fun j x hx => by
    have hj := (List.getElem?_eq_some_iff.1 hx).1
    have := h.1
    rw [Addr.add_lit, Nat.zero_add]
    exact (h.cellAt j (by omega)).trans hx⟩
theorem infoOb8 : (Tryz.prog.info? 55).map (fun i => (i.zero, i.size, i.bytes)) = some (some (.agg #[.int .i64 0, .slice none 0 0]), 2, 32) := by kernel_rfl
theorem infoVl8 : (Tryz.prog.info? 68).map (fun i => (i.zero, i.size, i.bytes)) = some (some (.agg #[.int .i64 0, .int .i64 0]), 2, 16) := by kernel_rfl
theorem pr2_zeros : ∀ n : Nat, pr2 (List.replicate n ((0 : Int), (0 : Int))) = List.replicate (n * 2) (.int .i64 0)
  | 0 => rfl
  | n + 1 => by
    rw [List.replicate_succ, pr2, pr2_zeros n, show (n + 1) * 2 = n * 2 + 1 + 1 by omega, List.replicate_succ, List.replicate_succ]
theorem made_zeros (n : Nat) : (madeCells #[Value.int .i64 0, Value.int .i64 0] (n * 2)).toList = pr2 (List.replicate n (0, 0)) := by
  rw [pr2_zeros]
  apply List.ext_getElem?
  intro j
  by_cases hj : j < n * 2
  · have h2 : j % 2 < 2 := Nat.mod_lt _ (by omega)
    rcases (show j % 2 = 0 ∨ j % 2 = 1 by omega) with e | e <;> simp [madeCells, hj, e]
  · simp [madeCells, hj]
theorem more_right {U : UnitA} (hT : TapeU U) {kk : Nat} (hk : kk ≤ 62) : unitR { U with objects := U.objects ++ [⟨1, List.replicate kk (0, 0)⟩] } = 0 := by
  have ho1 := hT.ob1
  have hc0 := hT.cl0
  have hM : TapeM U { U with objects := U.objects ++ [⟨1, List.replicate kk (0, 0)⟩] } := ⟨hT, rfl, rfl, rfl, by simp, by simp; omega, fun x hx => by
    simp only [List.length_append, List.length_singleton] at hx ⊢
    rcases List.mem_append.1 hx with hx | hx
    · exact objB_more (by omega) (obj_ok hT hx)
    · rw [List.mem_singleton.1 hx, objB_yes (head_ok (by simp only; omega) (fun g => by simp only at g; omega) (by simp only [List.length_replicate]; omega)), List.all_eq_true]
      intro v hv
      rw [List.eq_of_mem_replicate hv]
      rfl⟩
  exact hM.unit.trans (main_six hT rfl hT.main)
def anoB : ByteArray := ⟨#[97, 110, 111, 116, 104, 101, 114]⟩
theorem bnd_seven {b : List (Int × Int)} (h : bindsOk b 6 9 = true) : bindsOk b 7 9 = true := by
  unfold bindsOk at h ⊢
  simp only [Bool.and_eq_true, List.all_eq_true] at h ⊢
  refine ⟨⟨fun x hx => ?_, h.1.2⟩, h.2⟩
  have := h.1.1 x hx
  unfold bindOk at this ⊢
  simp only [Bool.and_eq_true, decide_eq_true_eq] at this ⊢
  omega
theorem from_seven {L : List ClassA} : ∀ (R : List ClassA) (i : Nat), (∀ c ∈ R, bindsOk c.binds 6 9 = true) → shapeFrom L 6 9 i R = 0 → shapeFrom L 7 9 i R = 0
  | [], _, _, _ => rfl
  | c :: R, i, hb, h => by
    rw [shapeFrom] at h ⊢
    split at h
    · cases h
    · next g1 =>
      rw [if_neg g1]
      split at h
      · cases h
      · next g2 =>
        rw [if_neg g2]
        split at h
        · cases h
        · next g3 =>
          rw [if_neg g3, if_neg (by rw [bnd_seven (hb c (by simp))]; decide)]
          split at h
          · cases h
          · exact from_seven R (i + 1) (fun c hc => hb c (by simp [hc])) h
theorem shape_seven {L : List ClassA} (hb : ∀ c ∈ L, bindsOk c.binds 6 9 = true) (h : shapeR L 6 9 = 0) : shapeR L 7 9 = 0 := by
  unfold shapeR at h ⊢
  split at h
  · cases h
  · next g1 =>
    rw [if_neg g1]
    split at h
    · cases h
    · next g2 =>
      rw [if_neg g2]
      exact from_seven L 0 hb h
theorem lit_seven {x : Int × Int} {nc nm : Nat} (h : litR x 6 nc nm = true) : litR x 7 nc nm = true := by
  unfold litR at h ⊢
  split
  · next g => rw [if_pos g] at h; exact h
  · next g =>
    rw [if_neg g] at h
    split
    · next g5 =>
      rw [if_pos g5] at h
      simp only [Bool.and_eq_true, decide_eq_true_eq] at h ⊢
      omega
    · next g5 => rw [if_neg g5] at h; exact h
theorem met_seven {m : MethA} {nc nm : Nat} (h : metR m 6 nc nm = 0) : metR m 7 nc nm = 0 := by
  have e : ∀ nn, metR m nn nc nm = if m.code.length > 128 ∨ m.lits.length > 16 ∨ m.args < 0 ∨ m.temps < 0 ∨ m.args > 8 ∨ m.temps > 8 - m.args then 3
    else if m.code.length < 2 ∨ m.code.length % 2 ≠ 0 then 12
    else if byAt m.code (m.code.length - 2) ≠ 14 ∧ byAt m.code (m.code.length - 2) ≠ 19 ∧ byAt m.code (m.code.length - 2) ≠ 16 then 12
    else if m.lits.all (fun x => litR x nn nc nm) = false then 12
    else if insF m (m.code.length / 2) 0 = false then 12 else 0 := fun nn => rfl
  rw [e] at h ⊢
  split at h
  · cases h
  · next g1 =>
    rw [if_neg g1]
    split at h
    · cases h
    · next g2 =>
      rw [if_neg g2]
      split at h
      · cases h
      · next g3 =>
        rw [if_neg g3]
        split at h
        · cases h
        · next g4 =>
          rw [if_neg (by
            have g4' : m.lits.all (fun x => litR x 6 nc nm) = true := by simpa using g4
            have : m.lits.all (fun x => litR x 7 nc nm) = true := by
              rw [List.all_eq_true] at g4' ⊢
              exact fun x hx => lit_seven (g4' x hx)
            rw [this]; decide)]
          exact h
theorem ano_args : ∀ s : Nat, s < 6 → argsR (nmAt (nameL ++ [anoB]) (s : Int)) = argOf s := by decide +kernel
theorem ano_ok : namesB (nameL ++ [anoB]) = true := by decide +kernel
theorem name_right {T : UnitA} (h : TapeU T) : unitR { T with names := T.names ++ [anoB] } = 0 := by
  have hn : ({ T with names := T.names ++ [anoB] } : UnitA).names = nameL ++ [anoB] := by simp only [h.names]
  obtain ⟨U, hU⟩ : ∃ U : UnitA, U = { T with names := T.names ++ [anoB] } := ⟨_, rfl⟩
  rw [← hU] at hn ⊢
  have hc : U.classes = T.classes := by rw [hU]
  have hm : U.methods = T.methods := by rw [hU]
  have hob : U.objects = T.objects := by rw [hU]
  have hml : U.methods.length = 9 := by rw [hm]; exact h.ml
  have ho1 := h.ob0
  have ho2 := h.ob1
  have hlong : longB U = false := by
    unfold longB
    rw [hn, hml, hob]
    rw [decide_eq_false (show ¬ 48 < (nameL ++ [anoB]).length by decide), decide_eq_false (show ¬ 9 < 1 by decide), decide_eq_false (show ¬ 32 < 9 by decide), decide_eq_false (show ¬ T.objects.length < 1 by omega), decide_eq_false (show ¬ 40 < T.objects.length by omega)]
    rfl
  have hsh : shapeR U.classes U.names.length U.methods.length = 0 := by
    rw [hn, hml, hc]
    refine shape_seven (fun c hc => ?_) (tape_right h.tl (by have := h.cl0; omega))
    obtain ⟨k, hk⟩ := List.getElem?_of_mem hc
    exact bnd_right (h.cls k c hk).2.2
  unfold unitR
  rw [firstE, if_pos (by rw [hlong]; rfl), firstE, if_pos (by rw [hn, ano_ok]; rfl), firstE, if_pos hsh]
  unfold restC
  rw [List.drop_zero, first_skip _ _ (fun x hx => ?_)]
  · unfold restM
    rw [List.drop_zero, first_skip _ _ (fun x hx => ?_)]
    · unfold restA
      rw [List.drop_zero, first_skip _ _ (eArgs_zero _ (fun c hc2 b hb => ?_))]
      · unfold restO
        rw [List.drop_zero, first_skip _ _ (fun x hx => ?_), first_one]
        · exact main_six h hm (by rw [hU]; exact h.main)
        · obtain ⟨y, hy, rfl⟩ := List.mem_map.1 hx
          rw [if_pos (by rw [hc, hob]; rw [hob] at hy; exact obj_ok h hy)]
      · rw [hc] at hc2
        obtain ⟨k, hk⟩ := List.getElem?_of_mem hc2
        obtain ⟨_, _, S, _, h2, e⟩ := h.cls k c hk
        rw [e] at hb
        obtain ⟨s, hs, rfl⟩ := List.mem_map.1 hb
        have hs6 := h2 s hs
        unfold eArg
        rw [if_pos]
        simp only
        rw [hn, ano_args s hs6]
        obtain ⟨x, hx⟩ : ∃ x, T.methods[s]? = some x := ⟨T.methods[s]'(by rw [h.ml]; omega), by simp⟩
        unfold agAt
        rw [hm, Int.toNat_natCast, hx]
        simp only
        rw [(h.mts s x hx).args, if_pos hs6]
    · obtain ⟨y, hy, rfl⟩ := List.mem_map.1 hx
      rw [hm] at hy
      obtain ⟨k, hk⟩ := List.getElem?_of_mem hy
      have hk9 := (List.getElem?_eq_some_iff.1 hk).1
      rw [h.ml] at hk9
      have := met_seven (meth_ok (h.mts k y hk) hk9 (nn := 6) (nc := U.classes.length) (nm := U.methods.length) rfl (by rw [hc]) hml)
      rw [hn]
      exact this
  · obtain ⟨y, hy, rfl⟩ := List.mem_map.1 hx
    rw [hc] at hy
    obtain ⟨k, hk⟩ := List.getElem?_of_mem hy
    exact bnd_fit (h.cls k y hk).2.2
theorem row_more {T : Type} (f : T → List Int) (A : List T) (x : T) : (rowB f (A ++ [x])).length = (rowB f A).length + (f x).length := by
  unfold rowB
  simp only [List.length_append, b4_len, List.map_append, List.flatten_append, List.map_cons, List.map_nil, List.flatten_cons, List.flatten_nil, List.append_nil]
  omega
theorem sz_name {T : UnitA} (h : TapeU T) : szU { T with names := T.names ++ [anoB] } = szU T + 11 := by
  rw [szU_y (name_right h), szU_y h.right]
  unfold bytesU bodyU
  simp only [List.length_append, row_more]
  have : (txt anoB).length = 11 := by decide +kernel
  omega
theorem repl_len (f : (Int × Int) → List Int) (x : Int × Int) : ∀ k : Nat, (((List.replicate k x).map f).flatten).length = k * (f x).length
  | 0 => by simp
  | k + 1 => by
    rw [List.replicate_succ, List.map_cons, List.flatten_cons, List.length_append, repl_len f x k, Nat.succ_mul, Nat.add_comm]
theorem sz_obj {T : UnitA} (h : TapeU T) {k : Nat} (hk : k ≤ 62) : szU { T with objects := T.objects ++ [⟨1, List.replicate k (0, 0)⟩] } = szU T + 8 + 8 * (k : Int) := by
  rw [szU_y (more_right h hk), szU_y h.right]
  unfold bytesU bodyU
  simp only [List.length_append, row_more]
  have : (obB ⟨1, List.replicate k (0, 0)⟩).length = 8 + 8 * k := by
    unfold obB
    rw [rowP_eq]
    unfold rowB
    simp only [List.length_append, b4_len, List.length_replicate, repl_len]
    omega
  omega
end Wd
end Go.Proofs.YtgfnelhbdhbklaaGreat
