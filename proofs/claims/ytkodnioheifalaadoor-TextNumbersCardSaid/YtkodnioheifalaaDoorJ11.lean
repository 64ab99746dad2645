/- Texts joined: RHD, TLM, CG, TLN, TLO, TLP, TLQ, TLR. -/
import Derived.Test.YtkodnioheifalaaDoorJ2
import Derived.Test.YtkodnioheifalaaDoorJ3
import Derived.Test.YtkodnioheifalaaDoorJ9
import Derived.Test.YtkodnioheifalaaDoorJ10
import Derived.OrdersHeld
import Derived.Deep.RegionHeld
/- A region that draws, whose last operation writes what the others load: 'S holds behind each operation, as long as number d has not come up'. No program is named here. -/
namespace Go.Proofs.YtkodnioheifalaaDoor
set_option linter.unusedVariables false
namespace Wd
section
variable {P : Program} {ops : Array Oper} {Q : Exit → Act → World → Prop} {md : Region.Mode} {S : World → Prop} {d : Nat}
/-- Whatever order is picked from here on; S holds behind every operation that is carried out while number d has not come up. -/
def wpAnyD (P : Program) (md : Region.Mode) (ops : Array Oper) (Q : Exit → Act → World → Prop) (S : World → Prop) (d : Nat) : Nat → Array Bool → Act → World → Prop
  | 0, listed, a, w => Region.ready md ops listed = [] ∧ Q .normal a w
  | fuel + 1, listed, a, w =>
    (Region.ready md ops listed = [] → Q .normal a w) ∧
    ∀ i ∈ Region.ready md ops listed, wpOp P ops Q i (fun a' w' => ((listed.setIfInBounds i true).getD d true = false → S w') ∧ wpAnyD P md ops Q S d fuel (listed.setIfInBounds i true) a' w') a w
theorem wpAny_of_D : ∀ (fuel : Nat) (listed : Array Bool) (a : Act) (w : World), wpAnyD P md ops Q S d fuel listed a w → wpAny P md ops Q fuel listed a w
  | 0, _, _, _, h => h
  | fuel + 1, _, _, _, h => ⟨h.1, fun i hi => wpOp_mono (fun a' w' h' => wpAny_of_D fuel _ a' w' h'.2) (h.2 i hi)⟩
theorem wpAnyD_first {i : Nat} {oi od : Oper} {v : Value} (hi : ops[i]? = some oi) (hd : ops[d]? = some od) (hw : ∃ e ∈ od.after, Region.binds md e = true ∧ e.on = i) (hid : i ≠ d) (hsel : ∀ (j : Nat) (o : Oper) cs b, ops[j]? = some o → o.op ≠ .select cs b)
    (hQ : ∀ c a w, Q (.panic c) (a.put oi.dst v) w → Q (.panic c) a w) :
    ∀ (fuel : Nat) (listed : Array Bool) (a : Act) (w : World),
      (∀ j oj, ops[j]? = some oj → j ≠ i → listed.getD j true = false → (∀ e ∈ oj.after, Region.binds md e = true → e.on ≠ i) → oi.apart ops oj = true) →
      listed.getD d true = false → i ∈ Region.ready md ops listed → YieldsIf P ops S oi v a → S w →
      wpAnyD P md ops Q S d fuel (listed.setIfInBounds i true) (a.put oi.dst v) w → wpAnyD P md ops Q S d (fuel + 1) listed a w := by
  intro fuel
  induction fuel with
  | zero =>
    intro listed a w _ _ hr hy hS H
    refine ⟨fun h => (by rw [h] at hr; cases hr), fun j hj => ?_⟩
    by_cases hji : j = i
    · subst hji; exact hy.wpOp hi hS ⟨fun _ => hS, H⟩
    · have := ready_mono hj hji
      rw [H.1] at this
      cases this
  | succ fuel ih =>
    intro listed a w hfree hdl hr hy hS H
    refine ⟨fun h => (by rw [h] at hr; cases hr), fun j hj => ?_⟩
    by_cases hji : j = i
    · subst hji; exact hy.wpOp hi hS ⟨fun _ => hS, H⟩
    · have h1 := H.2 j (ready_mono hj hji)
      obtain ⟨hjun, oj, hoj, hall⟩ := mem_ready.1 hj
      have hnot : ∀ e ∈ oj.after, Region.binds md e = true → e.on ≠ i := fun e he hb heq => by
        have h1 := hall e he hb
        have h0 := (mem_ready.1 hr).1
        rw [heq] at h1
        rcases Nat.lt_or_ge i listed.size with h' | h'
        · simp [h'] at h0 h1; rw [h0] at h1; cases h1
        · simp [Array.getElem?_eq_none h'] at h1
      have hjd : j ≠ d := fun e => by
        subst e
        obtain ⟨e, he, hb, hon⟩ := hw
        rw [hoj] at hd; cases hd
        exact hnot e he hb hon
      have h2 := wpOp_putIf hoj (hfree j oj hoj hji hjun hnot) (fun cs b => hsel i oi cs b hi) (fun cs b => hsel j oj cs b hoj) hQ hy h1
      have hfree' : ∀ k ok, ops[k]? = some ok → k ≠ i → (listed.setIfInBounds j true).getD k true = false →
          (∀ e ∈ ok.after, Region.binds md e = true → e.on ≠ i) → oi.apart ops ok = true := fun k ok hk hki hun hno => by
        refine hfree k ok hk hki ?_ hno
        by_cases hjk : j = k
        · subst hjk; exact hjun
        · rw [getD_set_ne true hjk] at hun; exact hun
      have hdj : (listed.setIfInBounds j true).getD d true = false := by rw [getD_set_ne true hjd]; exact hdl
      have hdij : ((listed.setIfInBounds i true).setIfInBounds j true).getD d true = false := by rw [getD_set_ne true hjd, getD_set_ne true hid]; exact hdl
      refine wpOp_mono (fun a' w' h3 => ⟨fun _ => h3.2.1 hdij, ih (listed.setIfInBounds j true) a' w' hfree' hdj (ready_mono hr (Ne.symm hji)) h3.1 (h3.2.1 hdij) ?_⟩) h2
      rw [Array.setIfInBounds_comm _ _ hji]
      exact h3.2.2
/-- one that answers the same in whatever world may be taken ahead, too -/
theorem wpAnyD_pure1 {i : Nat} {oi : Oper} {v : Value} (hi : ops[i]? = some oi) (hid : i ≠ d) (hsel : ∀ (j : Nat) (o : Oper) cs b, ops[j]? = some o → o.op ≠ .select cs b)
    (hQ : ∀ c a w, Q (.panic c) (a.put oi.dst v) w → Q (.panic c) a w) :
    ∀ (fuel : Nat) (listed : Array Bool) (a : Act) (w : World),
      (∀ j oj, ops[j]? = some oj → j ≠ i → listed.getD j true = false → (∀ e ∈ oj.after, Region.binds md e = true → e.on ≠ i) → oi.apart ops oj = true) →
      i ∈ Region.ready md ops listed → YieldsIf P ops (fun _ => True) oi v a → (listed.getD d true = false → S w) →
      wpAnyD P md ops Q S d fuel (listed.setIfInBounds i true) (a.put oi.dst v) w → wpAnyD P md ops Q S d (fuel + 1) listed a w := by
  intro fuel
  induction fuel with
  | zero =>
    intro listed a w _ hr hy hS H
    refine ⟨fun h => (by rw [h] at hr; cases hr), fun j hj => ?_⟩
    by_cases hji : j = i
    · subst hji; exact hy.wpOp hi trivial ⟨fun e => hS (by rwa [getD_set_ne true hid] at e), H⟩
    · have := ready_mono hj hji
      rw [H.1] at this
      cases this
  | succ fuel ih =>
    intro listed a w hfree hr hy hS H
    refine ⟨fun h => (by rw [h] at hr; cases hr), fun j hj => ?_⟩
    by_cases hji : j = i
    · subst hji; exact hy.wpOp hi trivial ⟨fun e => hS (by rwa [getD_set_ne true hid] at e), H⟩
    · have h1 := H.2 j (ready_mono hj hji)
      obtain ⟨hjun, oj, hoj, hall⟩ := mem_ready.1 hj
      have hnot : ∀ e ∈ oj.after, Region.binds md e = true → e.on ≠ i := fun e he hb heq => by
        have h1 := hall e he hb
        have h0 := (mem_ready.1 hr).1
        rw [heq] at h1
        rcases Nat.lt_or_ge i listed.size with h' | h'
        · simp [h'] at h0 h1; rw [h0] at h1; cases h1
        · simp [Array.getElem?_eq_none h'] at h1
      have h2 := wpOp_putIf hoj (hfree j oj hoj hji hjun hnot) (fun cs b => hsel i oi cs b hi) (fun cs b => hsel j oj cs b hoj) hQ hy h1
      have hfree' : ∀ k ok, ops[k]? = some ok → k ≠ i → (listed.setIfInBounds j true).getD k true = false →
          (∀ e ∈ ok.after, Region.binds md e = true → e.on ≠ i) → oi.apart ops ok = true := fun k ok hk hki hun hno => by
        refine hfree k ok hk hki ?_ hno
        by_cases hjk : j = k
        · subst hjk; exact hjun
        · rw [getD_set_ne true hjk] at hun; exact hun
      have hc : ((listed.setIfInBounds i true).setIfInBounds j true).getD d true = (listed.setIfInBounds j true).getD d true := by
        rw [Array.setIfInBounds_comm _ _ (fun e => hji e.symm), getD_set_ne true hid]
      refine wpOp_mono (fun a' w' h3 => ⟨fun e => h3.2.1 (hc.trans e), ih (listed.setIfInBounds j true) a' w' hfree' (ready_mono hr (Ne.symm hji)) h3.1 (fun e => h3.2.1 (hc.trans e)) ?_⟩) h2
      rw [Array.setIfInBounds_comm _ _ hji]
      exact h3.2.2
theorem wpAnyD_pure {i : Nat} {oi : Oper} {v : Value} {fuel : Nat} {listed : Array Bool} {a : Act} {w : World} (hi : ops[i]? = some oi)
    (hs : Region.noSelect ops = true) (hf : Region.free md ops listed i = true) (hr : (Region.ready md ops listed).contains i = true) (hid : i ≠ d)
    (hQ : ∀ c a w, Q (.panic c) (a.put oi.dst v) w → Q (.panic c) a w) (hy : YieldsIf P ops (fun _ => True) oi v a) (hS : listed.getD d true = false → S w)
    (h : wpAnyD P md ops Q S d fuel (listed.setIfInBounds i true) (a.put oi.dst v) w) : wpAnyD P md ops Q S d (fuel + 1) listed a w :=
  wpAnyD_pure1 hi hid (Region.noSelect_spec hs) hQ fuel listed a w (Region.free_spec hi hf) (by simpa using hr) hy hS h
/-- does number d wait for number i, in this mode -/
def waits (md : Region.Mode) (ops : Array Oper) (d i : Nat) : Bool := ((ops[d]?).map (fun o => o.after.any fun e => Region.binds md e && (e.on == i))).getD false && !(i == d)
theorem waits_spec {i : Nat} (h : waits md ops d i = true) : ∃ od, ops[d]? = some od ∧ (∃ e ∈ od.after, Region.binds md e = true ∧ e.on = i) ∧ i ≠ d := by
  unfold waits at h
  cases ho : ops[d]? with
  | none => simp [ho] at h
  | some o =>
    simp only [ho, Option.map_some, Option.getD_some, Bool.and_eq_true, Array.any_eq_true', beq_iff_eq, Bool.not_eq_true', beq_eq_false_iff_ne] at h
    obtain ⟨⟨e, he, hb⟩, hne⟩ := h
    exact ⟨o, rfl, ⟨e, he, hb.1, hb.2⟩, hne⟩
theorem wpAnyD_take {i : Nat} {oi : Oper} {v : Value} {fuel : Nat} {listed : Array Bool} {a : Act} {w : World} (hi : ops[i]? = some oi)
    (hs : Region.noSelect ops = true) (hf : Region.free md ops listed i = true) (hr : (Region.ready md ops listed).contains i = true) (hwt : waits md ops d i = true) (hdl : listed.getD d true = false)
    (hQ : ∀ c a w, Q (.panic c) (a.put oi.dst v) w → Q (.panic c) a w) (hy : YieldsIf P ops S oi v a) (hS : S w)
    (h : wpAnyD P md ops Q S d fuel (listed.setIfInBounds i true) (a.put oi.dst v) w) : wpAnyD P md ops Q S d (fuel + 1) listed a w := by
  obtain ⟨od, hd, hw, hid⟩ := waits_spec hwt
  exact wpAnyD_first hi hd hw hid (Region.noSelect_spec hs) hQ fuel listed a w (Region.free_spec hi hf) hdl (by simpa using hr) hy hS h
theorem wpAnyD_done {listed : Array Bool} {a : Act} {w : World} (hr : Region.ready md ops listed = []) (h : Q .normal a w) :
    ∀ fuel, wpAnyD P md ops Q S d fuel listed a w
  | 0 => ⟨hr, h⟩
  | _ + 1 => ⟨fun _ => h, by rw [hr]; simp⟩
def AllReadyD (P : Program) (md : Region.Mode) (ops : Array Oper) (Q : Exit → Act → World → Prop) (S : World → Prop) (d fuel : Nat) (listed : Array Bool) (a : Act) (w : World) (rs : List Nat) : Prop :=
  ∀ i ∈ rs, wpOp P ops Q i (fun a' w' => ((listed.setIfInBounds i true).getD d true = false → S w') ∧ wpAnyD P md ops Q S d fuel (listed.setIfInBounds i true) a' w') a w
theorem AllReadyD.nil {fuel : Nat} {listed : Array Bool} {a : Act} {w : World} : AllReadyD P md ops Q S d fuel listed a w [] := fun _ h => by cases h
theorem AllReadyD.cons {fuel : Nat} {listed : Array Bool} {a : Act} {w : World} {i : Nat} {o : Oper} {rs : List Nat} (ho : ops[i]? = some o)
    (h : ∀ K' : Act → World → Prop, Shut (∀ a w, ((listed.setIfInBounds i true).getD d true = false → S w) → wpAnyD P md ops Q S d fuel (listed.setIfInBounds i true) a w → K' a w) → if Region.wanted o (yielded ops a.tmps) = true then Oper.wp P o a w K' Q else K' (a.put o.dst undef) w)
    (hs : AllReadyD P md ops Q S d fuel listed a w rs) : AllReadyD P md ops Q S d fuel listed a w (i :: rs) := fun j hj => by
  rcases List.mem_cons.1 hj with rfl | hj
  · exact wpOp_step ho (fun K' hK => h K' (fun a w hS hW => hK a w ⟨hS, hW⟩))
  · exact hs j hj
theorem wpAnyD_ready {rs : List Nat} {fuel : Nat} {listed : Array Bool} {a : Act} {w : World} (hr : Region.ready md ops listed = rs) (hne : rs ≠ [])
    (h : AllReadyD P md ops Q S d fuel listed a w rs) : wpAnyD P md ops Q S d (fuel + 1) listed a w := ⟨fun h0 => absurd (hr ▸ h0) hne, hr ▸ h⟩
theorem wp_region_D {id : Nat} {a : Act} {w : World} (hm : P.follows .mixedOrders = true) (hS : S w.drew)
    (h : S w.drew → wpAnyD P .any ops Q S d ops.size (Array.replicate ops.size false) a w.drew) : (Code.region id ops true).wp P Q a w :=
  wp_region_any hm (wpAny_of_D _ _ _ _ (h hS))
/-- behind an operation: S, and on -/
theorem shut_step {C : Prop} {X K' : Act → World → Prop} (hK : Shut (∀ a w, (C → S w) → X a w → K' a w)) {a : Act} {w : World} (hS : S w) (h : S w → X a w) : K' a w := hK.out a w (fun _ => hS) (h hS)
/-- behind number d -/
theorem shut_last {b : Bool} {X K' : Act → World → Prop} (hK : Shut (∀ a w, (b = false → S w) → X a w → K' a w)) (hb : b = true) {a : Act} {w : World} (h : X a w) : K' a w := hK.out a w (fun c => absurd (hb.symm.trans c) (by decide)) h
end
end Wd
end Go.Proofs.YtkodnioheifalaaDoor

/- The landed text: lines that are read: a literal. -/
namespace Go.Proofs.YtkodnioheifalaaDoor
open Go.RowKit
set_option linter.unusedVariables false
set_option maxRecDepth 20000
namespace Wd
theorem own_lt {w : World} {base : Nat} {e : TypeId} {size n : Nat} {v : Value} {xs : List Value} (h : w.ownsRow base e size v n xs) (k : Nat) (hk : v.ownBlock = some k) : k < w.heap.size := by
  rcases h.2 with ⟨rfl, _⟩ | ⟨g, cap, cur, rfl, _, h4, _⟩
  · simp [Value.ownBlock] at hk
  · simp only [Value.ownBlock, Option.some.injEq] at hk
    subst hk
    rcases Nat.lt_or_ge g w.heap.size with h' | h'
    · exact h'
    · rw [Array.getElem?_eq_none h'] at h4; cases h4
theorem blk_lt {w : World} {q : Nat} {cs : Array Value} {T : TypeId} {z : Nat × Nat} (h : w.heap[q]? = some (.cells cs T z)) : q < w.heap.size := by
  rcases Nat.lt_or_ge q w.heap.size with h' | h'
  · exact h'
  · rw [Array.getElem?_eq_none h'] at h; cases h
set_option maxHeartbeats 16000000 in
theorem rlit_c {w wr : World} {p : Nat} {S : TS} (l : Bs) (h : RdS w wr p S) (hm : l.length ≤ 4611686018427387904) (hL : S.L.length ≤ 1000000000) (hk : S.k = 1) :
    Calls Tryd.prog 46 #[.pointer (some ⟨p, 0, none⟩), .string (bs l)] wr fun e w' => (∃ v, liR l = some v ∧ e = .returned (.bool true) ∧ RdS w w' p { S with L := S.L ++ [v] }) ∨ (liR l = none ∧ e = .returned (.bool false) ∧ RdS w w' p S) := by
  rw [← li_eq]
  have CP := Lib.hid (fun w => cutp_c l tLit w)
  change Hid (∀ w, Calls _ _ _ _ (fun e w' => e = .returned (.tuple #[.string (bs (cpx tLit l)), .bool (tLit.isPrefixOf l)]) ∧ w' = w)) at CP
  have C1 := Lib.hid (fun w => value_c (cpx tLit l) (by have := cpx_le tLit l; omega) w)
  unfold liP
  generalize cpx tLit l = r at *
  generalize valP r = c at *
  obtain ⟨⟨v1, v2⟩, ba⟩ := c
  simp only at C1 ⊢
  generalize hpp : tLit.isPrefixOf l = bp at *
  clear hpp hm
  generalize hX : (if (bp && ba) = true then some (v1, v2) else none) = X
  replace hX := Lib.hid hX
  obtain ⟨la, lc, ca, cc, last, hx, hl⟩ := h.ex
  have hbel := Lib.hid h.bel
  replace hx := Lib.hid hx
  replace hl := Lib.hid hl
  replace hL := Lib.hid hL
  replace hk := Lib.hid hk
  clear h
  go_enter Tryd.func46, Tryd.ntmps46
  go_upto_region 2 with (go_at_call 52; (refine (CP.out _).mono ?_); rintro e w2 ⟨rfl, rfl⟩)
  go_upto_region 3 with (go_at_call 18; (with_reducible refine (C1.out _).mono ?_); rintro e y3 ⟨rfl, hb⟩)
  clear CP C1
  replace hbel := Lib.hid (hbel.out.trans (hb.mono (Nat.le_of_lt hx.out.lt)))
  replace hx := Lib.hid (hx.out.up hb)
  clear hb
  have hbx := Lib.hid (heap_alloc_new y3 (.cells #[.int .i64 v1, .int .i64 v2] 49))
  have hol3 := Lib.hid (fun k hk => own_lt hx.out.ol k hk)
  have hba := Lib.hid ((Below.refl y3.heap.size y3).alloc (Nat.le_refl _) (.cells #[.int .i64 v1, .int .i64 v2] 49))
  replace hbel := Lib.hid (hbel.out.trans (hba.out.mono (Nat.le_of_lt hx.out.lt)))
  replace hx := Lib.hid (hx.out.up hba.out)
  clear hba
  generalize hW : y3.alloc (.cells #[.int .i64 v1, .int .i64 v2] 49) = W at *
  obtain ⟨q, hq⟩ : ∃ q, y3.heap.size = q := ⟨_, rfl⟩
  simp only [hq] at hbx hol3 ⊢
  clear hq hW
  by_cases hok : (bp && ba) = true
  · obtain rfl : X = some (v1, v2) := by rw [← hX.out, if_pos hok]
    simp only [Bool.and_eq_true] at hok
    obtain ⟨rfl, rfl⟩ := hok
    clear hX
    obtain ⟨i0, hi, hz0, hz1, hz2⟩ := info_parts infoVal
    go_upto_region 5 with fail
    have hbd := Lib.hid ((Below.refl W.heap.size W).drew)
    replace hbel := Lib.hid (hbel.out.trans (hbd.out.mono (Nat.le_of_lt hx.out.lt)))
    replace hbx := Lib.hid ((hbd.out.block _ (blk_lt hbx.out)).trans hbx.out)
    replace hx := Lib.hid (hx.out.up hbd.out)
    clear hbd
    obtain ⟨lv, hlv⟩ : ∃ lv, lv = Value.slice la S.L.length lc := ⟨_, rfl⟩
    refine wp_region_D (d := 13) (S := (fun wr' => wr'.cell? ⟨p, 2, none⟩ = some (.slice la S.L.length lc) ∧ wr'.cell? ⟨q, 0, none⟩ = some (.int .i64 v1) ∧ wr'.cell? ⟨q, 1, none⟩ = some (.int .i64 v2))) (by kernel_rfl) ?_ (fun hHeld => ?_)
    · (try dsimp only); exact ⟨hx.out.c.2.2.1, (by rw [Lib.cell_of_heap hbx.out]; rfl), (by rw [Lib.cell_of_heap hbx.out]; rfl)⟩
    try simp only [Act.put, nA]
    refine wpAnyD_pure (i := 1) (oi := ⟨some 26, .move (.tmp 0), 88, "parse.go:90", #[{ on := 13, ground := Ground.gcOnly Departure.lateStores }], none⟩) (v := ?_) rfl (by kernel_rfl) (by kernel_rfl) (by kernel_rfl) (by decide) (fun _ _ _ h => h) (Or.inl ⟨by rfl, ?_⟩) (fun _ => by assumption) ?_
    rotate_left 1
    · intro w hSw; (try dsimp only at hSw); go_simp <;> with_reducible rfl
    try simp only [Act.put, nA]
    refine wpAnyD_take (i := 0) (oi := ⟨some 25, .move (.tmp 0), 88, "parse.go:90", #[], none⟩) (v := ?_) rfl (by kernel_rfl) (by kernel_rfl) (by kernel_rfl) (by kernel_rfl) (by kernel_rfl) (fun _ _ _ h => h) (Or.inl ⟨by rfl, ?_⟩) (by assumption) ?_
    rotate_left 1
    · intro w hSw; (try dsimp only at hSw); obtain ⟨q0, q1, q2⟩ := hSw; go_simp <;> with_reducible rfl
    try simp only [Act.put, nA]
    refine wpAnyD_take (i := 2) (oi := ⟨some 27, .move (.tmp 0), 88, "parse.go:90", #[], none⟩) (v := ?_) rfl (by kernel_rfl) (by kernel_rfl) (by kernel_rfl) (by kernel_rfl) (by kernel_rfl) (fun _ _ _ h => h) (Or.inl ⟨by rfl, ?_⟩) (by assumption) ?_
    rotate_left 1
    · intro w hSw; (try dsimp only at hSw); obtain ⟨q0, q1, q2⟩ := hSw; go_simp <;> with_reducible rfl
    try simp only [Act.put, nA]
    refine wpAnyD_take (i := 3) (oi := ⟨some 28, .nilCheck (.tmp 27), 0, "parse.go:90", #[⟨2, .data⟩], none⟩) (v := ?_) rfl (by kernel_rfl) (by kernel_rfl) (by kernel_rfl) (by kernel_rfl) (by kernel_rfl) (fun _ _ _ h => h) (Or.inl ⟨by rfl, ?_⟩) (by assumption) ?_
    rotate_left 1
    · intro w hSw; (try dsimp only at hSw); obtain ⟨q0, q1, q2⟩ := hSw; go_simp <;> with_reducible rfl
    try simp only [Act.put, nA]
    refine wpAnyD_take (i := 4) (oi := ⟨some 29, .fieldAddr 66 (.tmp 28) 0, 0, "parse.go:90", #[⟨3, .data⟩], none⟩) (v := ?_) rfl (by kernel_rfl) (by kernel_rfl) (by kernel_rfl) (by kernel_rfl) (by kernel_rfl) (fun _ _ _ h => h) (Or.inl ⟨by rfl, ?_⟩) (by assumption) ?_
    rotate_left 1
    · intro w hSw; (try dsimp only at hSw); obtain ⟨q0, q1, q2⟩ := hSw; go_simp <;> with_reducible rfl
    try simp only [Act.put, nA]
    refine wpAnyD_take (i := 5) (oi := ⟨some 30, .fieldAddr 37 (.tmp 29) 2, 0, "parse.go:90", #[⟨4, .data⟩], none⟩) (v := ?_) rfl (by kernel_rfl) (by kernel_rfl) (by kernel_rfl) (by kernel_rfl) (by kernel_rfl) (fun _ _ _ h => h) (Or.inl ⟨by rfl, ?_⟩) (by assumption) ?_
    rotate_left 1
    · intro w hSw; (try dsimp only at hSw); obtain ⟨q0, q1, q2⟩ := hSw; go_simp <;> with_reducible rfl
    try simp only [Act.put, nA]
    refine wpAnyD_take (i := 6) (oi := ⟨some 31, .load 34 (.tmp 30), 34, "parse.go:90", #[⟨5, .data⟩], none⟩) (v := ?_) rfl (by kernel_rfl) (by kernel_rfl) (by kernel_rfl) (by kernel_rfl) (by kernel_rfl) (fun _ _ _ h => h) (Or.inl ⟨by rfl, ?_⟩) (by assumption) ?_
    rotate_left 1
    · intro w hSw; (try dsimp only at hSw); obtain ⟨q0, q1, q2⟩ := hSw; go_simp <;> with_reducible rfl
    try simp only [Act.put, nA]
    refine wpAnyD_take (i := 7) (oi := ⟨some 32, .load 49 (.tmp 7), 49, "parse.go:90", #[], none⟩) (v := ?_) rfl (by kernel_rfl) (by kernel_rfl) (by kernel_rfl) (by kernel_rfl) (by kernel_rfl) (fun _ _ _ h => h) (Or.inl ⟨by rfl, ?_⟩) (by assumption) ?_
    rotate_left 1
    · intro w hSw; (try dsimp only at hSw); obtain ⟨q0, q1, q2⟩ := hSw; go_simp <;> with_reducible rfl
    try simp only [Act.put, nA]
    refine wpAnyD_ready (rs := [8]) (by kernel_rfl) (by simp) ?_
    refine AllReadyD.cons (o := ⟨some 33, .buildSlice 34 1 #[(0, .tmp 32)], 34, "parse.go:90", #[⟨7, .data⟩], none⟩) rfl (fun K9 hK => ?_) AllReadyD.nil
    go_simp
    have hn : Hid (∀ (j : Nat) u, (pr2 [(v1, v2)])[j]? = some u → ((W.alloc (.cells #[.int .i64 v1, .int .i64 v2] 49)).drew).cell? ((⟨W.heap.size, 0, none⟩ : Addr).add j) = some u) := Lib.hid (World.news_of_block (show ((W.alloc (.cells #[.int .i64 v1, .int .i64 v2] 49)).drew).heap[W.heap.size]? = _ from heap_alloc_new W (.cells #[.int .i64 v1, .int .i64 v2] 49)))
    have hba : Hid (Below W.drew.heap.size W.drew ((W.alloc (.cells #[.int .i64 v1, .int .i64 v2] 49)).drew)) := Lib.hid ((Below.refl W.drew.heap.size W.drew).alloc (Nat.le_refl _) (.cells #[.int .i64 v1, .int .i64 v2] 49))
    replace hbel := Lib.hid (hbel.out.trans (hba.out.mono (Nat.le_of_lt hx.out.lt)))
    replace hbx := Lib.hid ((hba.out.block _ (blk_lt hbx.out)).trans hbx.out)
    replace hx := Lib.hid (hx.out.up hba.out)
    clear hba
    generalize hY : (W.alloc (.cells #[.int .i64 v1, .int .i64 v2] 49)).drew = Y at *
    obtain ⟨h8, hh8⟩ : ∃ h8, W.heap.size = h8 := ⟨_, rfl⟩
    simp only [hh8] at hn ⊢
    clear hh8 hY
    refine shut_step hK ?_ (fun hHeld2 => ?_)
    · (try dsimp only); exact ⟨hx.out.c.2.2.1, (by rw [Lib.cell_of_heap hbx.out]; rfl), (by rw [Lib.cell_of_heap hbx.out]; rfl)⟩
    clear hK K9 hHeld
    have hHeld := hHeld2
    clear hHeld2
    try simp only [Act.put, nA]
    refine wpAnyD_ready (rs := [9]) (by kernel_rfl) (by simp) ?_
    refine AllReadyD.cons (o := ⟨some 34, .call { callee := .builtin .append, args := #[.tmp 31, .tmp 33], argTypes := #[34, 34] }, 34, "parse.go:90", #[⟨6, .data⟩, ⟨8, .data⟩], none⟩) rfl (fun K9 hK => ?_) AllReadyD.nil
    refine step_append_lies _ rfl (.tmp 31) (.tmp 33) 34 rfl (p + 1) 49 i0 (.agg #[.int .i64 0, .int .i64 0]) 2 16 Tryd.underlying34 hi hz0 hz1 hz2 rfl (by decide) (.slice la S.L.length lc) S.L.length (pr2 S.L) rfl hx.out.ol ⟨h8, 0, none⟩ 1 1 (pr2 [(v1, v2)]) rfl rfl hn.out (pr2_one _) (by decide) (by have := hL.out; unfold maxLen; omega) (by have := hL.out; omega) (by have := hx.out.lt; omega) _ rfl ?_
    intro g cap y5 hown hgr hgg hglt
    obtain ⟨hbx9, hoc9⟩ := hx.out.glit hgr
    have hB2 := Lib.hid (bel_grown hbel.out (Nat.le_of_lt hx.out.lt) hgr (fun k hk => own_ge hx.out.ol k hk))
    replace hbx := Lib.hid ((hgr.block q (blk_lt hbx.out) (fun e => by have := hol3.out q e.symm; omega)).trans hbx.out)
    replace hbx9 := Lib.hid hbx9
    replace hoc9 := Lib.hid hoc9
    have hown2 : Hid (y5.ownsRow (p + 1) 49 2 (.slice (some ⟨g, 0, none⟩) (S.L ++ [(v1, v2)]).length cap) (S.L ++ [(v1, v2)]).length (pr2 (S.L ++ [(v1, v2)]))) := by
      rw [pr2_app, List.length_append, List.length_singleton]
      exact Lib.hid hown
    clear hown hgr hgg hglt hx hbel hn
    refine shut_step hK ?_ (fun hHeld2 => ?_)
    · (try dsimp only); exact ⟨(by rw [Lib.cell_of_heap hbx9.out]; rfl), (by rw [Lib.cell_of_heap hbx.out]; rfl), (by rw [Lib.cell_of_heap hbx.out]; rfl)⟩
    clear hK K9 hHeld
    have hHeld := hHeld2
    clear hHeld2
    try simp only [Act.put, nA]
    refine wpAnyD_pure (i := 10) (oi := ⟨some 35, .nilCheck (.tmp 25), 0, "parse.go:90", #[⟨0, .data⟩, ⟨0, .phase⟩, { on := 1, ground := Ground.textOnly Departure.lateStores }, ⟨2, .phase⟩, ⟨3, .phase⟩, ⟨4, .phase⟩, ⟨5, .phase⟩, ⟨6, .phase⟩, ⟨7, .phase⟩, ⟨8, .phase⟩, ⟨9, .phase⟩], none⟩) (v := ?_) rfl (by kernel_rfl) (by kernel_rfl) (by kernel_rfl) (by decide) (fun _ _ _ h => h) (Or.inl ⟨by rfl, ?_⟩) (fun _ => by assumption) ?_
    rotate_left 1
    · intro w hSw; (try dsimp only at hSw); go_simp <;> with_reducible rfl
    try simp only [Act.put, nA]
    refine wpAnyD_pure (i := 11) (oi := ⟨some 36, .fieldAddr 66 (.tmp 35) 0, 0, "parse.go:90", #[⟨10, .data⟩, ⟨0, .phase⟩, { on := 1, ground := Ground.textOnly Departure.lateStores }, ⟨2, .phase⟩, ⟨3, .phase⟩, ⟨4, .phase⟩, ⟨5, .phase⟩, ⟨6, .phase⟩, ⟨7, .phase⟩, ⟨8, .phase⟩, ⟨9, .phase⟩], none⟩) (v := ?_) rfl (by kernel_rfl) (by kernel_rfl) (by kernel_rfl) (by decide) (fun _ _ _ h => h) (Or.inl ⟨by rfl, ?_⟩) (fun _ => by assumption) ?_
    rotate_left 1
    · intro w hSw; (try dsimp only at hSw); go_simp <;> with_reducible rfl
    try simp only [Act.put, nA]
    refine wpAnyD_take (i := 12) (oi := ⟨some 37, .fieldAddr 37 (.tmp 36) 2, 0, "parse.go:90", #[⟨11, .data⟩, ⟨0, .phase⟩, { on := 1, ground := Ground.textOnly Departure.lateStores }, ⟨2, .phase⟩, ⟨3, .phase⟩, ⟨4, .phase⟩, ⟨5, .phase⟩, ⟨6, .phase⟩, ⟨7, .phase⟩, ⟨8, .phase⟩, ⟨9, .phase⟩], none⟩) (v := ?_) rfl (by kernel_rfl) (by kernel_rfl) (by kernel_rfl) (by kernel_rfl) (by kernel_rfl) (fun _ _ _ h => h) (Or.inl ⟨by rfl, ?_⟩) (by assumption) ?_
    rotate_left 1
    · intro w hSw; (try dsimp only at hSw); obtain ⟨q0, q1, q2⟩ := hSw; go_simp <;> with_reducible rfl
    try simp only [Act.put, nA]
    have d2 : y5.cell? ⟨p, 2, none⟩ = some (.slice la S.L.length lc) := by rw [Lib.cell_of_heap hbx9.out]; rfl
    have f2 : y5.frozen? ⟨p, 2, none⟩ = false := Lib.frozen_of_heap hbx9.out 2
    have d4 : y5.cell? ⟨p, 4, none⟩ = some (.int .i64 last) := by rw [Lib.cell_of_heap hbx9.out]; rfl
    have f4 : y5.frozen? ⟨p, 4, none⟩ = false := Lib.frozen_of_heap hbx9.out 4
    refine wpAnyD_ready (rs := [13]) (by kernel_rfl) (by simp) ?_
    refine AllReadyD.cons (o := ⟨none, .store 34 (.tmp 37) (.tmp 34), 0, "parse.go:90", #[⟨12, .data⟩, ⟨9, .data⟩, ⟨9, .chain⟩, ⟨0, .phase⟩, { on := 1, ground := Ground.textOnly Departure.lateStores }, ⟨2, .phase⟩, ⟨3, .phase⟩, ⟨4, .phase⟩, ⟨5, .phase⟩, ⟨6, .phase⟩, ⟨7, .phase⟩, ⟨8, .phase⟩, ⟨9, .phase⟩], none⟩) rfl (fun K9 hK => ?_) AllReadyD.nil
    go_simp
    refine shut_last hK (by kernel_rfl) ?_
    clear hK K9 hHeld
    try simp only [Act.put, nA]
    refine wpAnyD_pure (i := 14) (oi := ⟨some 38, .nilCheck (.tmp 26), 0, "parse.go:90", #[⟨1, .data⟩, ⟨0, .phase⟩, ⟨1, .phase⟩, ⟨2, .phase⟩, ⟨3, .phase⟩, ⟨4, .phase⟩, ⟨5, .phase⟩, ⟨6, .phase⟩, ⟨7, .phase⟩, ⟨8, .phase⟩, ⟨9, .phase⟩, ⟨10, .phase⟩, ⟨11, .phase⟩, ⟨12, .phase⟩, ⟨13, .phase⟩], none⟩) (v := ?_) rfl (by kernel_rfl) (by kernel_rfl) (by kernel_rfl) (by decide) (fun _ _ _ h => h) (Or.inl ⟨by rfl, ?_⟩) (fun h => absurd h (by decide)) ?_
    rotate_left 1
    · intro w hSw; (try dsimp only at hSw); go_simp <;> with_reducible rfl
    try simp only [Act.put, nA]
    refine wpAnyD_pure (i := 15) (oi := ⟨some 39, .fieldAddr 66 (.tmp 38) 1, 0, "parse.go:90", #[⟨14, .data⟩, ⟨0, .phase⟩, ⟨1, .phase⟩, ⟨2, .phase⟩, ⟨3, .phase⟩, ⟨4, .phase⟩, ⟨5, .phase⟩, ⟨6, .phase⟩, ⟨7, .phase⟩, ⟨8, .phase⟩, ⟨9, .phase⟩, ⟨10, .phase⟩, ⟨11, .phase⟩, ⟨12, .phase⟩, ⟨13, .phase⟩], none⟩) (v := ?_) rfl (by kernel_rfl) (by kernel_rfl) (by kernel_rfl) (by decide) (fun _ _ _ h => h) (Or.inl ⟨by rfl, ?_⟩) (fun h => absurd h (by decide)) ?_
    rotate_left 1
    · intro w hSw; (try dsimp only at hSw); go_simp <;> with_reducible rfl
    try simp only [Act.put, nA]
    refine wpAnyD_ready (rs := [16]) (by kernel_rfl) (by simp) ?_
    refine AllReadyD.cons (o := ⟨none, .store 3 (.tmp 39) (.const (.int .i64 2)), 0, "parse.go:90", #[⟨15, .data⟩, ⟨13, .chain⟩, ⟨0, .phase⟩, ⟨1, .phase⟩, ⟨2, .phase⟩, ⟨3, .phase⟩, ⟨4, .phase⟩, ⟨5, .phase⟩, ⟨6, .phase⟩, ⟨7, .phase⟩, ⟨8, .phase⟩, ⟨9, .phase⟩, ⟨10, .phase⟩, ⟨11, .phase⟩, ⟨12, .phase⟩, ⟨13, .phase⟩], none⟩) rfl (fun K9 hK => ?_) AllReadyD.nil
    go_simp
    refine shut_last hK (by kernel_rfl) ?_
    clear hK K9
    try simp only [Act.put, nA]
    have hfin := Lib.hid (RdX.setl (k' := S.k) (last' := 2) hbx9.out hown2.out hoc9.out)
    have hB9 := Lib.hid ((hB2.out.setCell (Nat.le_refl _) (p := ⟨p, 2, none⟩) (.slice (some ⟨g, 0, none⟩) (S.L.length + 1) cap)).setCell (Nat.le_refl _) (p := ⟨p, 4, none⟩) (.int .i64 2))
    refine wpAnyD_done (by kernel_rfl) ?_ _
    go_wp2_with fail
    go_ret
    have hf := hfin.out
    rw [show (S.L ++ [(v1, v2)]).length = S.L.length + 1 by simp] at hf
    exact Or.inl ⟨(v1, v2), rfl, rfl, ⟨some ⟨g, 0, none⟩, cap, ca, cc, 2, hf, Or.inr (Or.inl ⟨hk.out, Or.inr rfl⟩)⟩, hB9.out⟩
  · obtain rfl : X = none := by rw [← hX.out, if_neg hok]
    have hS : Hid (RdS w W p S) := Lib.hid ⟨⟨la, lc, ca, cc, last, hx.out, hl.out⟩, hbel.out⟩
    clear hx hl hbel hX hbx hol3
    cases bp with
    | false =>
      go_wp2_with fail
      go_ret
      exact ⟨rfl, hS.out⟩
    | true =>
      cases ba with
      | false =>
        go_wp2_with fail
        go_ret
        exact ⟨rfl, hS.out⟩
      | true => exact absurd rfl hok
end Wd
end Go.Proofs.YtkodnioheifalaaDoor

/- The landed instructions: as bytes. -/
namespace Go.Proofs.YtkodnioheifalaaDoor
open Go.RowKit
set_option linter.unusedVariables false
set_option maxRecDepth 20000
namespace Wd
theorem wr8_in (x : Int) : 0 ≤ wr8 x ∧ wr8 x ≤ 255 := by
  unfold wr8
  rw [IntKind.wrap_u8]
  omega
theorem bytL_in (L : List (Int × Int)) : ∀ x ∈ bytL L, 0 ≤ x ∧ x ≤ 255 := by
  intro x hx
  unfold bytL flat at hx
  rw [List.mem_flatMap] at hx
  obtain ⟨y, hy, hx⟩ := hx
  obtain ⟨z, _, rfl⟩ := List.mem_map.1 hy
  rcases List.mem_cons.1 hx with rfl | hx
  · exact wr8_in _
  · rcases List.mem_cons.1 hx with rfl | hx
    · exact wr8_in _
    · cases hx
theorem bytL_len (L : List (Int × Int)) : (bytL L).length = 2 * L.length := by
  induction L with
  | nil => rfl
  | cons x L ih => show (wr8 x.1 :: wr8 x.2 :: bytL L).length = _; simp [ih]; omega
theorem bytL_snoc (L : List (Int × Int)) (x : Int × Int) : bytL (L ++ [x]) = bytL L ++ [wr8 x.1, wr8 x.2] := by
  unfold bytL flat
  simp
/-- bytes being written -/
structure ByS (w0 wr : World) (vb : Value) (T : List Int) : Prop where
  own : wr.ownsRow w0.heap.size 5 1 vb T.length (bys T)
  bel : Below w0.heap.size w0 wr
theorem ByS.next {w0 wr w1 w2 : World} {vb v' : Value} {T : List Int} {x y : Int} (h : ByS w0 wr vb T) (hb : Below wr.heap.size wr w1) (hown : w2.ownsRow w0.heap.size 5 1 v' (T.length + 2) (bys T ++ bys [x, y])) (hg : w1.grownBy w2 vb.ownBlock) : ByS w0 w2 v' (T ++ [x, y]) := by
  have h1 := h.bel.trans (hb.mono h.bel.size)
  refine ⟨?_, h1.grown hg h1.size (fun k hk => (h.own.lt k hk).1)⟩
  have e : bys T ++ bys [x, y] = bys (T ++ [x, y]) := by simp [bys]
  have e2 : (T ++ [x, y]).length = T.length + 2 := by simp
  rw [e2, ← e]
  exact hown
set_option maxHeartbeats 16000000 in
theorem kbytes_c {w : World} {v : Value} {L : List (Int × Int)} (h : PrV w v L) (hL : L.length ≤ 1000) : Calls Tryd.prog 58 #[v] w fun e w' => ∃ v', e = .returned v' ∧ ByV w' v' (bytL L) ∧ Below w.heap.size w w' := by
  obtain ⟨la, lc, rfl, hlc, hlm, _⟩ := h.ex
  obtain ⟨i0, hi0, hz0, hz1, hz2⟩ := info_parts infoB8
  have hmx : 200000 ≤ maxLen := by decide
  obtain ⟨m, hm⟩ : ∃ m, m = 2 * L.length := ⟨_, rfl⟩
  have wm : IntKind.i64.wrap (2 * (L.length : Int)) = (m : Int) := by rw [IntKind.wrap_i64]; omega
  obtain ⟨Z, hmk, hO⟩ : ∃ Z : Array Value, (∀ w, (Instr.makeSlice 35 (.int .i64 0) (.int .i64 (m : Int))).run Tryd.prog w = .ok (.slice (some ⟨w.heap.size, 0, none⟩) 0 m) (w.alloc (.cells Z 5))) ∧ Z.size = m * 1 := by
    refine ⟨madeCells #[.int .u8 0] m, fun w => ?_, by rw [size_madeCells]; omega⟩
    have := run_make (P := Tryd.prog) w 35 5 i0 (.int .u8 0) Tryd.underlying35 hi0 hz0 .i64 .i64 0 m (by omega) (by omega) (by rw [hz2]; omega) (by omega)
    rw [hz1] at this
    simpa [Value.cells] using this
  have S0 : Hid (ByS w (w.alloc (.cells Z 5)) (.slice (some ⟨w.heap.size, 0, none⟩) 0 m) []) := Lib.hid ⟨by simpa [bys] using World.ownsRow_made w Z m (Nat.le_refl _) (by omega) hO, (Below.refl _ _).alloc (Nat.le_refl _) _⟩
  have hle : (L.length : Int) ≤ 9223372036854775807 := by omega
  replace hm := Lib.hid hm
  replace h := Lib.hid h
  clear hO
  go_enter Tryd.func58, Tryd.ntmps58
  go_upto_region 2 with fail
  clear wm hmk
  generalize w.alloc (.cells Z 5) = W at *
  go_wp2
  go_loopw [3, 12] (fun v3 v12 wr => ∃ (j : Nat) (a : Option Addr) (c : Nat), j ≤ L.length ∧ v12 = .int .i64 (j : Int) ∧ v3 = .slice a (2 * j) c ∧ Hid (ByS w wr (.slice a (2 * j) c) (bytL (L.take j)))) (fun _ v12 _ => L.length - (intOf v12).toNat)
  case atStart => exact ⟨0, _, _, by omega, rfl, rfl, S0⟩
  case round =>
    clear S0
    obtain ⟨j, a, c, hj, rfl, rfl, S⟩ := hrel
    by_cases hlt : j < L.length
    · have d1 : decide ((j : Int) < (L.length : Int)) = true := by simp; omega
      have j0 : (0 : Int) ≤ (j : Int) := by omega
      have j1 : (j : Int) < (L.length : Int) := by omega
      obtain ⟨⟨lk, lx⟩, hx⟩ : ∃ x, L[j]? = some x := ⟨L[j]'hlt, by simp⟩
      obtain ⟨_, _, g', off', rfl, l0, l1⟩ := (h.out.up S.out.bel).at hx
      have hTk : bytL (L.take (j + 1)) = bytL (L.take j) ++ [wr8 lk, wr8 lx] := by
        rw [List.take_add_one, hx]; exact bytL_snoc _ (lk, lx)
      have hlen : (bytL (L.take j)).length = 2 * j := by rw [bytL_len, List.length_take]; omega
      replace hTk := Lib.hid hTk
      clear hx
      have hown := S.out.own
      rw [hlen] at hown
      generalize hT : bytL (L.take j) = T at *
      unfold wr8 at hTk
      generalize ho : IntKind.u8.wrap lk = o' at *
      generalize ha : IntKind.u8.wrap lx = a' at *
      replace hown := Lib.hid hown
      replace hlen := Lib.hid hlen
      have hrd : ∀ X : World, Rd (X.alloc (.cells #[.int .u8 o', .int .u8 a'] 5)) (.slice (some ⟨X.heap.size, 0, none⟩) 2 2) 2 (bys [o', a']) := fun X => Or.inr ⟨_, _, rfl, bys_two ((World.cell?_alloc_new _ _ _ 0).trans rfl) ((World.cell?_alloc_new _ _ _ 1).trans rfl)⟩
      replace hrd := hrd (wr.alloc (.cells #[.int .i64 lk, .int .i64 lx] 75))
      rw [show (wr.alloc (.cells #[.int .i64 lk, .int .i64 lx] 75)).heap.size = wr.heap.size + 1 by simp] at hrd
      replace hrd := Lib.hid hrd
      go_wp2_with (first | (at_builtin; refine wpList_app_any rfl (.tmp 16) (.tmp 23) 35 rfl w.heap.size 5 i0 (.int .u8 0) 1 1 Tryd.underlying35 hi0 hz0 hz1 hz2 rfl (by decide) (.slice a (2 * j) c) (.slice (some ⟨wr.heap.size + 1, 0, none⟩) 2 2) (2 * j) 2 (bys T) (bys [o', a']) (by simp [Act.eval]) (by simp [Act.eval]) ((hown.out.alloc _).alloc _) hrd.out (by simp [bys]) (bys_one _) (by omega) (by omega) (by have := S.out.bel.size; simp; omega) ?_; intro v9 w9 hown9 hg9 hat9; have S9 := Lib.hid (S.out.next (((Below.refl _ _).alloc (Nat.le_refl _) _).alloc (by simp) _) (by rw [hlen.out]; exact hown9) hg9); obtain ⟨a9, c9, rfl⟩ := row_shape hown9; rw [← hTk.out] at S9; clear hown9 hg9 hat9 hown hTk hlen ho ha l0 l1 hrd))
      go_roundw
      case rel => exact ⟨j + 1, a9, c9, by omega, by go_num, rfl, S9⟩
      case measure => simp [intOf]; omega
    · have d1 : decide ((j : Int) < (L.length : Int)) = false := by simp; omega
      obtain rfl : j = L.length := by omega
      go_wp2
      go_ret
      refine ⟨_, rfl, ?_, S.out.bel⟩
      have hS := S.out.own
      rw [List.take_length] at hS
      exact ByV.own hS (bytL_in L)
end Wd
end Go.Proofs.YtkodnioheifalaaDoor

/- The landed text: lines that are read: an instruction. -/
namespace Go.Proofs.YtkodnioheifalaaDoor
open Go.RowKit
set_option linter.unusedVariables false
set_option maxRecDepth 20000
namespace Wd
theorem wr8_mod (x : Int) : wr8 x = x % 256 := by
  unfold wr8 IntKind.wrap
  rfl
theorem prv_one {y : World} {h o a : Int} {q : Nat} (h0 : y.cell? ⟨q, 0, none⟩ = some (.int .i64 o)) (h1 : y.cell? ⟨q, 1, none⟩ = some (.int .i64 a)) (ho : In64 o) (ha : In64 a) : PrV y (.slice (some ⟨q, 0, none⟩) 1 1) [(o, a)] :=
  ⟨some ⟨q, 0, none⟩, 1, rfl, Nat.le_refl _, by decide, fun k x hx => by
    match k, hx with
    | 0, hx =>
      cases hx
      exact ⟨ho, ha, q, 0, rfl, h0, h1⟩
    | k + 1, hx => simp at hx⟩
theorem byv_rd {y : World} {ad : Option Addr} {n c : Nat} {L : List Int} (h : ByV y (.slice ad n c) L) (hL : L ≠ []) : ∃ g off, ad = some ⟨g, off, none⟩ ∧ ∀ j u, (bys L)[j]? = some u → y.cell? ((⟨g, off, none⟩ : Addr).add j) = some u := by
  cases L with
  | nil => exact absurd rfl hL
  | cons x r =>
    obtain ⟨_, g, off, e, _⟩ := h.at (k := 0) (x := x) rfl
    refine ⟨g, off, e, fun j u hu => ?_⟩
    unfold bys at hu
    rw [List.getElem?_map] at hu
    obtain ⟨z, hz, rfl⟩ := Option.map_eq_some_iff.1 hu
    obtain ⟨_, g', off', e', c'⟩ := h.at hz
    rw [e] at e'
    cases e'
    rw [Addr.add_mid]
    exact c'
set_option maxHeartbeats 16000000 in
theorem rinst_c {w wr : World} {p : Nat} {S : TS} (l : Bs) (h : RdS w wr p S) (hm : l.length ≤ 4611686018427387904) (hC : S.C.length ≤ 1000000000) :
    Calls Tryd.prog 47 #[.pointer (some ⟨p, 0, none⟩), .string (bs l)] wr fun e w' => (∃ o a, ixR l = some (o, a) ∧ e = .returned (.bool true) ∧ RdS w w' p { S with k := 2, C := S.C ++ [o, a] }) ∨ (ixR l = none ∧ e = .returned (.bool false) ∧ RdS w w' p S) := by
  rw [← in_eq]
  have CP := Lib.hid (fun w => cutp_c l [32, 32] w)
  change Hid (∀ w, Calls _ _ _ _ (fun e w' => e = .returned (.tuple #[.string (bs (cpx [32, 32] l)), .bool (([32, 32] : Bs).isPrefixOf l)]) ∧ w' = w)) at CP
  have hr := cpx_le [32, 32] l
  have CC := Lib.hid (fun w => cut_c (cpx [32, 32] l) 32 (by omega) w)
  have hr2 := cut1_le (x := 32) (cpx [32, 32] l)
  have C1 := Lib.hid (fun w => opof_c (cut1 32 (cpx [32, 32] l)).1 (by omega) w)
  have C2 := Lib.hid (fun w => argof_c (opP (cut1 32 (cpx [32, 32] l)).1).1 (cut1 32 (cpx [32, 32] l)).2 (by omega) w)
  have ho9 : Hid ((opP (cut1 32 (cpx [32, 32] l)).1).2 = true → 0 ≤ (opP (cut1 32 (cpx [32, 32] l)).1).1 ∧ (opP (cut1 32 (cpx [32, 32] l)).1).1 ≤ 255) := Lib.hid (fun h => (op_sound (W := (cut1 32 (cpx [32, 32] l)).1) (o := (opP (cut1 32 (cpx [32, 32] l)).1).1) (by rw [← h])).1)
  have ha9 : Hid ((argP (opP (cut1 32 (cpx [32, 32] l)).1).1 (cut1 32 (cpx [32, 32] l)).2).2 = true → In64 (argP (opP (cut1 32 (cpx [32, 32] l)).1).1 (cut1 32 (cpx [32, 32] l)).2).1) := Lib.hid (fun h => by
    have := arg_sound (o := (opP (cut1 32 (cpx [32, 32] l)).1).1) (D := (cut1 32 (cpx [32, 32] l)).2) (a := (argP (opP (cut1 32 (cpx [32, 32] l)).1).1 (cut1 32 (cpx [32, 32] l)).2).1) (by rw [← h])
    have h2 := this.2.1
    have h1 := this.1
    unfold sgn at h2
    split at h2 <;> constructor <;> omega)
  unfold inP
  clear hr hr2
  generalize decide ((32 : UInt8) ∈ cpx [32, 32] l) = mm at *
  generalize cpx [32, 32] l = r at *
  generalize cut1 32 r = c at *
  obtain ⟨W, D⟩ := c
  simp only at CC C1 C2 ho9 ha9 ⊢
  generalize opP W = c at *
  obtain ⟨o, bo⟩ := c
  simp only at CC C1 C2 ho9 ha9 ⊢
  generalize argP o D = c at *
  obtain ⟨a, ba⟩ := c
  simp only at C2 ha9 ⊢
  generalize hpp : ([32, 32] : Bs).isPrefixOf l = bp at *
  clear hpp hm
  generalize hX : (if (bp && bo) = true then if ba = true then some (o, a % 256) else none else none) = X
  replace hX := Lib.hid hX
  obtain ⟨la, lc, ca, cc, last, hx, hl⟩ := h.ex
  have hbel := Lib.hid h.bel
  replace hx := Lib.hid hx
  replace hl := Lib.hid hl
  replace hC := Lib.hid hC
  clear h
  go_enter Tryd.func47, Tryd.ntmps47
  go_upto_region 2 with (go_at_call 52; (refine (CP.out _).mono ?_); rintro e w2 ⟨rfl, rfl⟩)
  go_upto_region 3 with (go_at_call 26; (refine (CC.out _).mono ?_); rintro e y1 ⟨rfl, hb1⟩)
  go_upto_region 4 with (go_at_call 56; (with_reducible refine (C1.out _).mono ?_); rintro e y2 ⟨rfl, hb2⟩)
  have hb : Below w2.heap.size w2 y2 := hb1.trans (hb2.mono hb1.size)
  clear hb1 hb2 CP CC C1
  replace hbel := Lib.hid (hbel.out.trans (hb.mono (Nat.le_of_lt hx.out.lt)))
  replace hx := Lib.hid (hx.out.up hb)
  clear hb
  by_cases hok : (bp && bo) = true
  · simp only [Bool.and_eq_true] at hok
    obtain ⟨rfl, rfl⟩ := hok
    have ho := ho9.out rfl
    clear ho9
    cases ba with
    | false =>
      obtain rfl : X = none := by rw [← hX.out]; rfl
      clear hX
      go_upto_region 7 with (go_at_call 57; (with_reducible refine (C2.out _).mono ?_); rintro e y4 ⟨rfl, hb⟩)
      have hS : Hid (RdS w y4 p S) := Lib.hid (RdS.up ⟨⟨la, lc, ca, cc, last, hx.out, hl.out⟩, hbel.out⟩ hb)
      clear hx hl hbel hb
      go_wp2_with fail
      go_ret
      exact ⟨rfl, hS.out⟩
    | true =>
      obtain rfl : X = some (o, a % 256) := by rw [← hX.out]; rfl
      have ha := Lib.hid (ha9.out rfl)
      have ho64 : Hid (In64 o) := Lib.hid ⟨by omega, by omega⟩
      have e8 : Hid (bytL [(o, a)] = [o, a % 256]) := Lib.hid (by
        show [wr8 o, wr8 a] = _
        rw [wr8_mod, wr8_mod, show o % 256 = o by omega])
      clear hX ha9 ho
      go_upto_region 9 with (go_at_call 57; (with_reducible refine (C2.out _).mono ?_); rintro e y4 ⟨rfl, hb⟩)
      clear C2
      replace hbel := Lib.hid (hbel.out.trans (hb.mono (Nat.le_of_lt hx.out.lt)))
      replace hx := Lib.hid (hx.out.up hb)
      clear hb
      obtain ⟨i0, hi, hz0, hz1, hz2⟩ := info_parts infoB8
      have hbd := Lib.hid ((Below.refl y4.heap.size y4).drew)
      replace hbel := Lib.hid (hbel.out.trans (hbd.out.mono (Nat.le_of_lt hx.out.lt)))
      replace hx := Lib.hid (hx.out.up hbd.out)
      clear hbd
      refine wp_region_D (d := 16) (S := (fun wr' => wr'.cell? ⟨p, 3, none⟩ = some (.slice ca S.C.length cc))) (by kernel_rfl) ?_ (fun hHeld => ?_)
      · (try dsimp only); exact hx.out.c.2.2.2.1
      try simp only [Act.put, nA]
      refine wpAnyD_pure (i := 1) (oi := ⟨some 44, .move (.tmp 0), 88, "parse.go:105", #[{ on := 16, ground := Ground.gcOnly Departure.lateStores }], none⟩) (v := ?_) rfl (by kernel_rfl) (by kernel_rfl) (by kernel_rfl) (by decide) (fun _ _ _ h => h) (Or.inl ⟨by rfl, ?_⟩) (fun _ => by assumption) ?_
      rotate_left 1
      · intro w hSw; (try dsimp only at hSw); go_simp <;> with_reducible rfl
      try simp only [Act.put, nA]
      refine wpAnyD_take (i := 0) (oi := ⟨some 43, .move (.tmp 0), 88, "parse.go:105", #[], none⟩) (v := ?_) rfl (by kernel_rfl) (by kernel_rfl) (by kernel_rfl) (by kernel_rfl) (by kernel_rfl) (fun _ _ _ h => h) (Or.inl ⟨by rfl, ?_⟩) (by assumption) ?_
      rotate_left 1
      · intro w hSw; (try dsimp only at hSw); go_simp <;> with_reducible rfl
      try simp only [Act.put, nA]
      refine wpAnyD_take (i := 2) (oi := ⟨some 45, .move (.tmp 0), 88, "parse.go:105", #[], none⟩) (v := ?_) rfl (by kernel_rfl) (by kernel_rfl) (by kernel_rfl) (by kernel_rfl) (by kernel_rfl) (fun _ _ _ h => h) (Or.inl ⟨by rfl, ?_⟩) (by assumption) ?_
      rotate_left 1
      · intro w hSw; (try dsimp only at hSw); go_simp <;> with_reducible rfl
      try simp only [Act.put, nA]
      refine wpAnyD_take (i := 3) (oi := ⟨some 46, .nilCheck (.tmp 45), 0, "parse.go:105", #[⟨2, .data⟩], none⟩) (v := ?_) rfl (by kernel_rfl) (by kernel_rfl) (by kernel_rfl) (by kernel_rfl) (by kernel_rfl) (fun _ _ _ h => h) (Or.inl ⟨by rfl, ?_⟩) (by assumption) ?_
      rotate_left 1
      · intro w hSw; (try dsimp only at hSw); go_simp <;> with_reducible rfl
      try simp only [Act.put, nA]
      refine wpAnyD_take (i := 4) (oi := ⟨some 47, .fieldAddr 66 (.tmp 46) 0, 0, "parse.go:105", #[⟨3, .data⟩], none⟩) (v := ?_) rfl (by kernel_rfl) (by kernel_rfl) (by kernel_rfl) (by kernel_rfl) (by kernel_rfl) (fun _ _ _ h => h) (Or.inl ⟨by rfl, ?_⟩) (by assumption) ?_
      rotate_left 1
      · intro w hSw; (try dsimp only at hSw); go_simp <;> with_reducible rfl
      try simp only [Act.put, nA]
      refine wpAnyD_take (i := 5) (oi := ⟨some 48, .fieldAddr 37 (.tmp 47) 3, 0, "parse.go:105", #[⟨4, .data⟩], none⟩) (v := ?_) rfl (by kernel_rfl) (by kernel_rfl) (by kernel_rfl) (by kernel_rfl) (by kernel_rfl) (fun _ _ _ h => h) (Or.inl ⟨by rfl, ?_⟩) (by assumption) ?_
      rotate_left 1
      · intro w hSw; (try dsimp only at hSw); go_simp <;> with_reducible rfl
      try simp only [Act.put, nA]
      refine wpAnyD_take (i := 6) (oi := ⟨some 49, .load 35 (.tmp 48), 35, "parse.go:105", #[⟨5, .data⟩], none⟩) (v := ?_) rfl (by kernel_rfl) (by kernel_rfl) (by kernel_rfl) (by kernel_rfl) (by kernel_rfl) (fun _ _ _ h => h) (Or.inl ⟨by rfl, ?_⟩) (by assumption) ?_
      rotate_left 1
      · intro w hSw; (try dsimp only at hSw); go_simp <;> with_reducible rfl
      try simp only [Act.put, nA]
      refine wpAnyD_take (i := 7) (oi := ⟨some 50, .move (.tmp 10), 3, "parse.go:105", #[], none⟩) (v := ?_) rfl (by kernel_rfl) (by kernel_rfl) (by kernel_rfl) (by kernel_rfl) (by kernel_rfl) (fun _ _ _ h => h) (Or.inl ⟨by rfl, ?_⟩) (by assumption) ?_
      rotate_left 1
      · intro w hSw; (try dsimp only at hSw); go_simp <;> with_reducible rfl
      try simp only [Act.put, nA]
      refine wpAnyD_take (i := 8) (oi := ⟨some 51, .move (.tmp 12), 3, "parse.go:105", #[], none⟩) (v := ?_) rfl (by kernel_rfl) (by kernel_rfl) (by kernel_rfl) (by kernel_rfl) (by kernel_rfl) (fun _ _ _ h => h) (Or.inl ⟨by rfl, ?_⟩) (by assumption) ?_
      rotate_left 1
      · intro w hSw; (try dsimp only at hSw); go_simp <;> with_reducible rfl
      try simp only [Act.put, nA]
      refine wpAnyD_take (i := 9) (oi := ⟨some 52, .build 75 #[(0, .tmp 50), (1, .tmp 51)], 75, "parse.go:105", #[⟨7, .data⟩, ⟨8, .data⟩], none⟩) (v := ?_) rfl (by kernel_rfl) (by kernel_rfl) (by kernel_rfl) (by kernel_rfl) (by kernel_rfl) (fun _ _ _ h => h) (Or.inl ⟨by rfl, ?_⟩) (by assumption) ?_
      rotate_left 1
      · intro w hSw; (try dsimp only at hSw); go_simp <;> with_reducible rfl
      try simp only [Act.put, nA]
      refine wpAnyD_ready (rs := [10]) (by kernel_rfl) (by simp) ?_
      refine AllReadyD.cons (o := ⟨some 53, .buildSlice 101 1 #[(0, .tmp 52)], 101, "parse.go:105", #[⟨9, .data⟩], none⟩) rfl (fun K9 hK => ?_) AllReadyD.nil
      go_simp
      have hPr : Hid (PrV ((y4.alloc (.cells #[.int .i64 o, .int .i64 a] 75)).drew) (.slice (some ⟨y4.heap.size, 0, none⟩) 1 1) [(o, a)]) := Lib.hid (prv_one (h := 0) (by rw [Lib.cell_of_heap (show ((y4.alloc (.cells #[.int .i64 o, .int .i64 a] 75)).drew).heap[y4.heap.size]? = _ from heap_alloc_new y4 (.cells #[.int .i64 o, .int .i64 a] 75))]; rfl) (by rw [Lib.cell_of_heap (show ((y4.alloc (.cells #[.int .i64 o, .int .i64 a] 75)).drew).heap[y4.heap.size]? = _ from heap_alloc_new y4 (.cells #[.int .i64 o, .int .i64 a] 75))]; rfl) ho64.out ha.out)
      have hba : Hid (Below y4.drew.heap.size y4.drew ((y4.alloc (.cells #[.int .i64 o, .int .i64 a] 75)).drew)) := Lib.hid ((Below.refl y4.drew.heap.size y4.drew).alloc (Nat.le_refl _) (.cells #[.int .i64 o, .int .i64 a] 75))
      replace hbel := Lib.hid (hbel.out.trans (hba.out.mono (Nat.le_of_lt hx.out.lt)))
      replace hx := Lib.hid (hx.out.up hba.out)
      clear hba
      generalize hY : (y4.alloc (.cells #[.int .i64 o, .int .i64 a] 75)).drew = Y at *
      obtain ⟨h8, hh8⟩ : ∃ h8, y4.heap.size = h8 := ⟨_, rfl⟩
      simp only [hh8] at hPr ⊢
      clear hh8 hY
      refine shut_step hK ?_ (fun hHeld2 => ?_)
      · (try dsimp only); exact hx.out.c.2.2.2.1
      clear hK K9 hHeld
      have hHeld := hHeld2
      clear hHeld2
      try simp only [Act.put, nA]
      refine wpAnyD_ready (rs := [11]) (by kernel_rfl) (by simp) ?_
      refine AllReadyD.cons (o := ⟨some 54, .call { callee := .value (.func 58), args := #[.tmp 53], argTypes := #[101] }, 35, "parse.go:105", #[⟨10, .data⟩], none⟩) rfl (fun K9 hK => ?_) AllReadyD.nil
      go_simp
      with_reducible refine (kbytes_c hPr.out (by simp)).mono ?_
      rintro e y5 ⟨v', rfl, hby, hb⟩
      rw [e8.out] at hby
      replace hbel := Lib.hid (hbel.out.trans (hb.mono (Nat.le_of_lt hx.out.lt)))
      replace hx := Lib.hid (hx.out.up hb)
      clear hb hPr
      obtain ⟨ad, c8, rfl, _⟩ := hby.form
      obtain ⟨gg, off, rfl, hn⟩ := byv_rd hby (by simp)
      replace hn := Lib.hid hn
      clear hby
      go_wp2_with fail
      refine shut_step hK ?_ (fun hHeld2 => ?_)
      · (try dsimp only); exact hx.out.c.2.2.2.1
      clear hK K9 hHeld
      have hHeld := hHeld2
      clear hHeld2
      try simp only [Act.put, nA]
      refine wpAnyD_ready (rs := [12]) (by kernel_rfl) (by simp) ?_
      refine AllReadyD.cons (o := ⟨some 55, .call { callee := .builtin .append, args := #[.tmp 49, .tmp 54], argTypes := #[35, 35] }, 35, "parse.go:105", #[⟨6, .data⟩, ⟨11, .data⟩, ⟨11, .chain⟩], none⟩) rfl (fun K9 hK => ?_) AllReadyD.nil
      refine step_append_lies _ rfl (.tmp 49) (.tmp 54) 35 rfl (p + 1) 5 i0 (.int .u8 0) 1 1 Tryd.underlying35 hi hz0 hz1 hz2 rfl (by decide) (.slice ca S.C.length cc) S.C.length (bys S.C) rfl hx.out.oc ⟨gg, off, none⟩ 2 c8 (bys [o, a % 256]) rfl rfl hn.out (bys_one _) (by decide) (by have := hC.out; unfold maxLen; omega) (by have := hC.out; omega) (by have := hx.out.lt; omega) _ rfl ?_
      intro g cap y6 hown hgr hgg hglt
      obtain ⟨hbx9, hol9⟩ := hx.out.gcode hgr
      have hB2 := Lib.hid (bel_grown hbel.out (Nat.le_of_lt hx.out.lt) hgr (fun k hk => own_ge hx.out.oc k hk))
      replace hbx9 := Lib.hid hbx9
      replace hol9 := Lib.hid hol9
      have hown2 : Hid (y6.ownsRow (p + 1) 5 1 (.slice (some ⟨g, 0, none⟩) (S.C ++ [o, a % 256]).length cap) (S.C ++ [o, a % 256]).length (bys (S.C ++ [o, a % 256]))) := by
        rw [show bys (S.C ++ [o, a % 256]) = bys S.C ++ bys [o, a % 256] by simp [bys], show (S.C ++ [o, a % 256]).length = S.C.length + 2 by simp]
        exact Lib.hid hown
      clear hown hgr hgg hglt hx hbel hn
      refine shut_step hK ?_ (fun hHeld2 => ?_)
      · (try dsimp only); (rw [Lib.cell_of_heap hbx9.out]; rfl)
      clear hK K9 hHeld
      have hHeld := hHeld2
      clear hHeld2
      try simp only [Act.put, nA]
      refine wpAnyD_pure (i := 13) (oi := ⟨some 56, .nilCheck (.tmp 43), 0, "parse.go:105", #[⟨0, .data⟩, ⟨0, .phase⟩, { on := 1, ground := Ground.textOnly Departure.lateStores }, ⟨2, .phase⟩, ⟨3, .phase⟩, ⟨4, .phase⟩, ⟨5, .phase⟩, ⟨6, .phase⟩, ⟨7, .phase⟩, ⟨8, .phase⟩, ⟨9, .phase⟩, ⟨10, .phase⟩, ⟨11, .phase⟩, ⟨12, .phase⟩], none⟩) (v := ?_) rfl (by kernel_rfl) (by kernel_rfl) (by kernel_rfl) (by decide) (fun _ _ _ h => h) (Or.inl ⟨by rfl, ?_⟩) (fun _ => by assumption) ?_
      rotate_left 1
      · intro w hSw; (try dsimp only at hSw); go_simp <;> with_reducible rfl
      try simp only [Act.put, nA]
      refine wpAnyD_pure (i := 14) (oi := ⟨some 57, .fieldAddr 66 (.tmp 56) 0, 0, "parse.go:105", #[⟨13, .data⟩, ⟨0, .phase⟩, { on := 1, ground := Ground.textOnly Departure.lateStores }, ⟨2, .phase⟩, ⟨3, .phase⟩, ⟨4, .phase⟩, ⟨5, .phase⟩, ⟨6, .phase⟩, ⟨7, .phase⟩, ⟨8, .phase⟩, ⟨9, .phase⟩, ⟨10, .phase⟩, ⟨11, .phase⟩, ⟨12, .phase⟩], none⟩) (v := ?_) rfl (by kernel_rfl) (by kernel_rfl) (by kernel_rfl) (by decide) (fun _ _ _ h => h) (Or.inl ⟨by rfl, ?_⟩) (fun _ => by assumption) ?_
      rotate_left 1
      · intro w hSw; (try dsimp only at hSw); go_simp <;> with_reducible rfl
      try simp only [Act.put, nA]
      refine wpAnyD_take (i := 15) (oi := ⟨some 58, .fieldAddr 37 (.tmp 57) 3, 0, "parse.go:105", #[⟨14, .data⟩, ⟨0, .phase⟩, { on := 1, ground := Ground.textOnly Departure.lateStores }, ⟨2, .phase⟩, ⟨3, .phase⟩, ⟨4, .phase⟩, ⟨5, .phase⟩, ⟨6, .phase⟩, ⟨7, .phase⟩, ⟨8, .phase⟩, ⟨9, .phase⟩, ⟨10, .phase⟩, ⟨11, .phase⟩, ⟨12, .phase⟩], none⟩) (v := ?_) rfl (by kernel_rfl) (by kernel_rfl) (by kernel_rfl) (by kernel_rfl) (by kernel_rfl) (fun _ _ _ h => h) (Or.inl ⟨by rfl, ?_⟩) (by assumption) ?_
      rotate_left 1
      · intro w hSw; (try dsimp only at hSw); go_simp <;> with_reducible rfl
      try simp only [Act.put, nA]
      have d2 : y6.cell? ⟨p, 3, none⟩ = some (.slice ca S.C.length cc) := by rw [Lib.cell_of_heap hbx9.out]; rfl
      have f2 : y6.frozen? ⟨p, 3, none⟩ = false := Lib.frozen_of_heap hbx9.out 3
      have d4 : y6.cell? ⟨p, 4, none⟩ = some (.int .i64 last) := by rw [Lib.cell_of_heap hbx9.out]; rfl
      have f4 : y6.frozen? ⟨p, 4, none⟩ = false := Lib.frozen_of_heap hbx9.out 4
      refine wpAnyD_ready (rs := [16]) (by kernel_rfl) (by simp) ?_
      refine AllReadyD.cons (o := ⟨none, .store 35 (.tmp 58) (.tmp 55), 0, "parse.go:105", #[⟨15, .data⟩, ⟨12, .data⟩, ⟨12, .chain⟩, ⟨0, .phase⟩, { on := 1, ground := Ground.textOnly Departure.lateStores }, ⟨2, .phase⟩, ⟨3, .phase⟩, ⟨4, .phase⟩, ⟨5, .phase⟩, ⟨6, .phase⟩, ⟨7, .phase⟩, ⟨8, .phase⟩, ⟨9, .phase⟩, ⟨10, .phase⟩, ⟨11, .phase⟩, ⟨12, .phase⟩], none⟩) rfl (fun K9 hK => ?_) AllReadyD.nil
      go_simp
      refine shut_last hK (by kernel_rfl) ?_
      clear hK K9 hHeld
      try simp only [Act.put, nA]
      refine wpAnyD_pure (i := 17) (oi := ⟨some 59, .nilCheck (.tmp 44), 0, "parse.go:105", #[⟨1, .data⟩, ⟨0, .phase⟩, ⟨1, .phase⟩, ⟨2, .phase⟩, ⟨3, .phase⟩, ⟨4, .phase⟩, ⟨5, .phase⟩, ⟨6, .phase⟩, ⟨7, .phase⟩, ⟨8, .phase⟩, ⟨9, .phase⟩, ⟨10, .phase⟩, ⟨11, .phase⟩, ⟨12, .phase⟩, ⟨13, .phase⟩, ⟨14, .phase⟩, ⟨15, .phase⟩, ⟨16, .phase⟩], none⟩) (v := ?_) rfl (by kernel_rfl) (by kernel_rfl) (by kernel_rfl) (by decide) (fun _ _ _ h => h) (Or.inl ⟨by rfl, ?_⟩) (fun h => absurd h (by decide)) ?_
      rotate_left 1
      · intro w hSw; (try dsimp only at hSw); go_simp <;> with_reducible rfl
      try simp only [Act.put, nA]
      refine wpAnyD_pure (i := 18) (oi := ⟨some 60, .fieldAddr 66 (.tmp 59) 1, 0, "parse.go:105", #[⟨17, .data⟩, ⟨0, .phase⟩, ⟨1, .phase⟩, ⟨2, .phase⟩, ⟨3, .phase⟩, ⟨4, .phase⟩, ⟨5, .phase⟩, ⟨6, .phase⟩, ⟨7, .phase⟩, ⟨8, .phase⟩, ⟨9, .phase⟩, ⟨10, .phase⟩, ⟨11, .phase⟩, ⟨12, .phase⟩, ⟨13, .phase⟩, ⟨14, .phase⟩, ⟨15, .phase⟩, ⟨16, .phase⟩], none⟩) (v := ?_) rfl (by kernel_rfl) (by kernel_rfl) (by kernel_rfl) (by decide) (fun _ _ _ h => h) (Or.inl ⟨by rfl, ?_⟩) (fun h => absurd h (by decide)) ?_
      rotate_left 1
      · intro w hSw; (try dsimp only at hSw); go_simp <;> with_reducible rfl
      try simp only [Act.put, nA]
      refine wpAnyD_ready (rs := [19]) (by kernel_rfl) (by simp) ?_
      refine AllReadyD.cons (o := ⟨none, .store 3 (.tmp 60) (.const (.int .i64 3)), 0, "parse.go:105", #[⟨18, .data⟩, ⟨16, .chain⟩, ⟨0, .phase⟩, ⟨1, .phase⟩, ⟨2, .phase⟩, ⟨3, .phase⟩, ⟨4, .phase⟩, ⟨5, .phase⟩, ⟨6, .phase⟩, ⟨7, .phase⟩, ⟨8, .phase⟩, ⟨9, .phase⟩, ⟨10, .phase⟩, ⟨11, .phase⟩, ⟨12, .phase⟩, ⟨13, .phase⟩, ⟨14, .phase⟩, ⟨15, .phase⟩, ⟨16, .phase⟩], none⟩) rfl (fun K9 hK => ?_) AllReadyD.nil
      go_simp
      refine shut_last hK (by kernel_rfl) ?_
      clear hK K9
      try simp only [Act.put, nA]
      have hfin := Lib.hid (RdX.setc (k' := 2) (last' := 3) hbx9.out hol9.out hown2.out)
      have hB9 := Lib.hid ((hB2.out.setCell (Nat.le_refl _) (p := ⟨p, 3, none⟩) (.slice (some ⟨g, 0, none⟩) (S.C.length + 2) cap)).setCell (Nat.le_refl _) (p := ⟨p, 4, none⟩) (.int .i64 3))
      refine wpAnyD_done (by kernel_rfl) ?_ _
      go_wp2_with fail
      go_ret
      have hf := hfin.out
      rw [show (S.C ++ [o, a % 256]).length = S.C.length + 2 by simp] at hf
      exact Or.inl ⟨o, a % 256, rfl, rfl, ⟨la, lc, some ⟨g, 0, none⟩, cap, 3, hf, Or.inr (Or.inr (Or.inl ⟨rfl, rfl⟩))⟩, hB9.out⟩
  · obtain rfl : X = none := by rw [← hX.out, if_neg hok]
    have hS : Hid (RdS w y2 p S) := Lib.hid ⟨⟨la, lc, ca, cc, last, hx.out, hl.out⟩, hbel.out⟩
    clear hx hl hbel hX
    cases bp with
    | false =>
      go_wp2_with fail
      go_ret
      exact ⟨rfl, hS.out⟩
    | true =>
      cases bo with
      | false =>
        go_wp2_with fail
        go_ret
        exact ⟨rfl, hS.out⟩
      | true => exact absurd rfl hok
end Wd
end Go.Proofs.YtkodnioheifalaaDoor

/- The landed text: a line more. -/
namespace Go.Proofs.YtkodnioheifalaaDoor
open Go.RowKit
set_option linter.unusedVariables false
set_option maxRecDepth 20000
namespace Wd
section
variable {w : World} {p : Nat} {S : TS} {l : Bs}
theorem rlit_y {v : Int × Int} (e : liR l = some v) (hm : l.length ≤ 4611686018427387904) (hL : S.L.length ≤ 1000000000) (hk : S.k = 1) (wr : World) (h : RdS w wr p S) :
    Calls Tryd.prog 46 #[.pointer (some ⟨p, 0, none⟩), .string (bs l)] wr fun e w' => e = .returned (.bool true) ∧ RdS w w' p { S with L := S.L ++ [v] } := by
  refine (rlit_c l h hm hL hk).mono ?_
  rintro e' w' (⟨v', h1, h2, h3⟩ | ⟨h1, _⟩)
  · rw [e] at h1; cases h1; exact ⟨h2, h3⟩
  · rw [e] at h1; cases h1
theorem rlit_n (e : liR l = none) (hm : l.length ≤ 4611686018427387904) (hL : S.L.length ≤ 1000000000) (hk : S.k = 1) (wr : World) (h : RdS w wr p S) :
    Calls Tryd.prog 46 #[.pointer (some ⟨p, 0, none⟩), .string (bs l)] wr fun e w' => e = .returned (.bool false) ∧ RdS w w' p S := by
  refine (rlit_c l h hm hL hk).mono ?_
  rintro e' w' (⟨v', h1, _⟩ | ⟨_, h2, h3⟩)
  · rw [e] at h1; cases h1
  · exact ⟨h2, h3⟩
theorem rinst_y {o a : Int} (e : ixR l = some (o, a)) (hm : l.length ≤ 4611686018427387904) (hC : S.C.length ≤ 1000000000) (wr : World) (h : RdS w wr p S) :
    Calls Tryd.prog 47 #[.pointer (some ⟨p, 0, none⟩), .string (bs l)] wr fun e w' => e = .returned (.bool true) ∧ RdS w w' p { S with k := 2, C := S.C ++ [o, a] } := by
  refine (rinst_c l h hm hC).mono ?_
  rintro e' w' (⟨o', a', h1, h2, h3⟩ | ⟨h1, _⟩)
  · rw [e] at h1; cases h1; exact ⟨h2, h3⟩
  · rw [e] at h1; cases h1
theorem rinst_n (e : ixR l = none) (hm : l.length ≤ 4611686018427387904) (hC : S.C.length ≤ 1000000000) (wr : World) (h : RdS w wr p S) :
    Calls Tryd.prog 47 #[.pointer (some ⟨p, 0, none⟩), .string (bs l)] wr fun e w' => e = .returned (.bool false) ∧ RdS w w' p S := by
  refine (rinst_c l h hm hC).mono ?_
  rintro e' w' (⟨o', a', h1, _⟩ | ⟨_, h2, h3⟩)
  · rw [e] at h1; cases h1
  · exact ⟨h2, h3⟩
theorem ralone_y {b : Int} (e : byR l = some b) (hm : l.length ≤ 4611686018427387904) (hC : S.C.length ≤ 1000000000) (wr : World) (h : RdS w wr p S) :
    Calls Tryd.prog 48 #[.pointer (some ⟨p, 0, none⟩), .string (bs l)] wr fun e w' => e = .returned (.bool true) ∧ RdS w w' p { S with k := 3, C := S.C ++ [b] } := by
  refine (ralone_c l h hm hC).mono ?_
  rintro e' w' (⟨b', h1, h2, h3⟩ | ⟨h1, _⟩)
  · rw [e] at h1; cases h1; exact ⟨h2, h3⟩
  · rw [e] at h1; cases h1
theorem ralone_n (e : byR l = none) (hm : l.length ≤ 4611686018427387904) (hC : S.C.length ≤ 1000000000) (wr : World) (h : RdS w wr p S) :
    Calls Tryd.prog 48 #[.pointer (some ⟨p, 0, none⟩), .string (bs l)] wr fun e w' => e = .returned (.bool false) ∧ RdS w w' p S := by
  refine (ralone_c l h hm hC).mono ?_
  rintro e' w' (⟨b', h1, _⟩ | ⟨_, h2, h3⟩)
  · rw [e] at h1; cases h1
  · exact ⟨h2, h3⟩
end
set_option maxHeartbeats 8000000 in
theorem read_c {w wr : World} {p : Nat} {S : TS} (l : Bs) (h : RdS w wr p S) (hm : l.length ≤ 4611686018427387904) (hL : S.L.length ≤ 1000000000) (hC : S.C.length ≤ 1000000000) (hok : S.ok) :
    Calls Tryd.prog 27 #[.pointer (some ⟨p, 0, none⟩), .string (bs l)] wr fun e w' => e = .returned (.bool (stepT S l).isSome) ∧ RdS w w' p ((stepT S l).getD S) := by
  obtain ⟨la, lc, ca, cc, last, hx, hl⟩ := h.ex
  have c4 := hx.c.2.2.2.2
  have hle := hok.le
  have hz := hok.z
  clear hx hok
  have hS := Lib.hid h
  clear h
  rcases hl with ⟨hk, rfl⟩ | ⟨hk, hl⟩ | ⟨hk, rfl⟩ | ⟨hk, rfl⟩
  · have hz' := hz hk
    subst hz'
    have CM := Lib.hid (rmethod_c l hS.out hm)
    cases e : hdR l with
    | some v =>
      have es : stepT tz l = some ⟨1, v.1, v.2, [], []⟩ := by unfold stepT; rw [if_pos (show tz.k = 0 from rfl), e]
      rw [es]
      replace CM : Hid (Calls Tryd.prog 45 #[.pointer (some ⟨p, 0, none⟩), .string (bs l)] wr fun e w' => e = .returned (.bool true) ∧ RdS w w' p ⟨1, v.1, v.2, [], []⟩) := Lib.hid (CM.out.mono (by
        rintro e' w' (⟨a, t, h1, h2, h3⟩ | ⟨h1, _⟩)
        · rw [e] at h1; cases h1; exact ⟨h2, h3⟩
        · rw [e] at h1; cases h1))
      clear hk e es hz hL hC
      go_enter Tryd.func27, Tryd.ntmps27
      go_wp2_with (go_at_call 45; (with_reducible refine CM.out.mono ?_); rintro e y1 ⟨rfl, h1⟩)
      go_ret
      exact ⟨rfl, h1⟩
    | none =>
      have es : stepT tz l = none := by unfold stepT; rw [if_pos (show tz.k = 0 from rfl), e]
      rw [es]
      replace CM : Hid (Calls Tryd.prog 45 #[.pointer (some ⟨p, 0, none⟩), .string (bs l)] wr fun e w' => e = .returned (.bool false) ∧ RdS w w' p tz) := Lib.hid (CM.out.mono (by
        rintro e' w' (⟨a, t, h1, _⟩ | ⟨_, h2, h3⟩)
        · rw [e] at h1; cases h1
        · exact ⟨h2, h3⟩))
      clear hk e es hz hL hC
      go_enter Tryd.func27, Tryd.ntmps27
      go_wp2_with (go_at_call 45; (with_reducible refine CM.out.mono ?_); rintro e y1 ⟨rfl, h1⟩)
      go_ret
      exact ⟨rfl, h1⟩
  · have l0 : (last == 0) = false := by rcases hl with rfl | rfl <;> rfl
    have l1 : (last == 1) = true ∨ ((last == 1) = false ∧ (last == 2) = true) := by rcases hl with rfl | rfl <;> simp
    clear hz
    cases e : liR l with
    | some v =>
      have es : stepT S l = some { S with L := S.L ++ [v] } := by unfold stepT; rw [if_neg (by omega), if_neg (by omega), if_pos hk, e]
      rw [es]
      have CL := Lib.hid (rlit_y e hm hL hk wr hS.out)
      clear hL hC es e hl hk hle
      rcases l1 with l1 | ⟨l1, l2⟩
      all_goals (
        go_enter Tryd.func27, Tryd.ntmps27
        go_wp2_with (go_at_call 46; (with_reducible refine CL.out.mono ?_); rintro e y1 ⟨rfl, h1⟩)
        go_ret
        exact ⟨rfl, h1⟩)
    | none =>
      have CL := Lib.hid (rlit_n e hm hL hk wr hS.out)
      cases e2 : ixR l with
      | some oa =>
        obtain ⟨o, a⟩ := oa
        have es : stepT S l = some { S with k := 2, C := S.C ++ [o, a] } := by unfold stepT; rw [if_neg (by omega), if_neg (by omega), if_pos hk, e, e2]
        rw [es]
        have CI := Lib.hid (fun y h => rinst_y (w := w) (p := p) (S := S) e2 hm hC y h)
        clear hL hC es e e2 hl hk hle
        rcases l1 with l1 | ⟨l1, l2⟩
        all_goals (
          go_enter Tryd.func27, Tryd.ntmps27
          go_wp2_with (first
            | (go_at_call 46; (with_reducible refine CL.out.mono ?_); rintro e y1 ⟨rfl, h1⟩)
            | (go_at_call 47; (with_reducible refine (CI.out _ h1).mono ?_); rintro e y2 ⟨rfl, h2⟩))
          go_ret
          exact ⟨rfl, h2⟩)
      | none =>
        have CI := Lib.hid (fun y h => rinst_n (w := w) (p := p) (S := S) e2 hm hC y h)
        cases e3 : byR l with
        | some b =>
          have es : stepT S l = some { S with k := 3, C := S.C ++ [b] } := by unfold stepT; rw [if_neg (by omega), if_neg (by omega), if_pos hk, e, e2, e3]
          rw [es]
          have CB := Lib.hid (fun y h => ralone_y (w := w) (p := p) (S := S) e3 hm hC y h)
          clear hL hC es e e2 e3 hl hk hle
          rcases l1 with l1 | ⟨l1, l2⟩
          all_goals (
            go_enter Tryd.func27, Tryd.ntmps27
            go_wp2_with (first
              | (go_at_call 46; (with_reducible refine CL.out.mono ?_); rintro e y1 ⟨rfl, h1⟩)
              | (go_at_call 47; (with_reducible refine (CI.out _ h1).mono ?_); rintro e y2 ⟨rfl, h2⟩)
              | (go_at_call 48; (with_reducible refine (CB.out _ h2).mono ?_); rintro e y3 ⟨rfl, h3⟩))
            go_ret
            exact ⟨rfl, h3⟩)
        | none =>
          have es : stepT S l = none := by unfold stepT; rw [if_neg (by omega), if_neg (by omega), if_pos hk, e, e2, e3]
          rw [es]
          have CB := Lib.hid (fun y h => ralone_n (w := w) (p := p) (S := S) e3 hm hC y h)
          clear hL hC es e e2 e3 hl hk hle
          rcases l1 with l1 | ⟨l1, l2⟩
          all_goals (
            go_enter Tryd.func27, Tryd.ntmps27
            go_wp2_with (first
              | (go_at_call 46; (with_reducible refine CL.out.mono ?_); rintro e y1 ⟨rfl, h1⟩)
              | (go_at_call 47; (with_reducible refine (CI.out _ h1).mono ?_); rintro e y2 ⟨rfl, h2⟩)
              | (go_at_call 48; (with_reducible refine (CB.out _ h2).mono ?_); rintro e y3 ⟨rfl, h3⟩))
            go_ret
            exact ⟨rfl, h3⟩)
  · clear hz
    cases e2 : ixR l with
    | some oa =>
      obtain ⟨o, a⟩ := oa
      have es : stepT S l = some { S with k := 2, C := S.C ++ [o, a] } := by unfold stepT; rw [if_neg (by omega), if_neg (by omega), if_neg (by omega), e2]
      rw [es]
      have CI := Lib.hid (fun y h => rinst_y (w := w) (p := p) (S := S) e2 hm hC y h)
      clear hL hC es e2 hk hle
      go_enter Tryd.func27, Tryd.ntmps27
      go_wp2_with (go_at_call 47; (with_reducible refine (CI.out _ hS.out).mono ?_); rintro e y2 ⟨rfl, h2⟩)
      go_ret
      exact ⟨rfl, h2⟩
    | none =>
      have CI := Lib.hid (fun y h => rinst_n (w := w) (p := p) (S := S) e2 hm hC y h)
      cases e3 : byR l with
      | some b =>
        have es : stepT S l = some { S with k := 3, C := S.C ++ [b] } := by unfold stepT; rw [if_neg (by omega), if_neg (by omega), if_neg (by omega), e2, e3]
        rw [es]
        have CB := Lib.hid (fun y h => ralone_y (w := w) (p := p) (S := S) e3 hm hC y h)
        clear hL hC es e2 e3 hk hle
        go_enter Tryd.func27, Tryd.ntmps27
        go_wp2_with (first
          | (go_at_call 47; (with_reducible refine (CI.out _ hS.out).mono ?_); rintro e y2 ⟨rfl, h2⟩)
          | (go_at_call 48; (with_reducible refine (CB.out _ h2).mono ?_); rintro e y3 ⟨rfl, h3⟩))
        go_ret
        exact ⟨rfl, h3⟩
      | none =>
        have es : stepT S l = none := by unfold stepT; rw [if_neg (by omega), if_neg (by omega), if_neg (by omega), e2, e3]
        rw [es]
        have CB := Lib.hid (fun y h => ralone_n (w := w) (p := p) (S := S) e3 hm hC y h)
        clear hL hC es e2 e3 hk hle
        go_enter Tryd.func27, Tryd.ntmps27
        go_wp2_with (first
          | (go_at_call 47; (with_reducible refine (CI.out _ hS.out).mono ?_); rintro e y2 ⟨rfl, h2⟩)
          | (go_at_call 48; (with_reducible refine (CB.out _ h2).mono ?_); rintro e y3 ⟨rfl, h3⟩))
        go_ret
        exact ⟨rfl, h3⟩
  · have es : stepT S l = none := by unfold stepT; rw [if_neg (by omega), if_pos (by omega)]
    rw [es]
    clear es hz hL hC hk hle
    go_enter Tryd.func27, Tryd.ntmps27
    go_wp2_with fail
    go_ret
    exact ⟨rfl, hS.out⟩
end Wd
end Go.Proofs.YtkodnioheifalaaDoor

/- The landed text: Parse. -/
namespace Go.Proofs.YtkodnioheifalaaDoor
open Go.RowKit
set_option linter.unusedVariables false
set_option maxRecDepth 20000
namespace Wd
/-- what is read from a state on, at line n -/
def parF (S : TS) (n : Nat) (s : Bs) : TS × Nat :=
  if (eatT S (splitL s).1).2 = (splitL s).1.length ∧ (splitL s).2 = [] ∧ (splitL s).1 ≠ [] then ((eatT S (splitL s).1).1, 0) else (tz, (eatT S (splitL s).1).2 + n)
theorem parF_none {S : TS} {n : Nat} {s : Bs} (h : (10 : UInt8) ∉ s) : parF S n s = (tz, n) := by
  unfold parF
  rw [splitL_tail s h]
  rw [if_neg (fun h => h.2.2 rfl)]
  show (tz, 0 + n) = _
  rw [Nat.zero_add]
theorem cut1_clean {x : UInt8} : ∀ (l : Bs), x ∉ (cut1 x l).1
  | [] => by simp [cut1]
  | c :: r => by
    rw [cut1]
    split
    · simp
    · rename_i h
      intro h'
      rcases List.mem_cons.1 h' with h' | h'
      · exact h h'.symm
      · exact cut1_clean r h'
theorem splitL_cut {s : Bs} (h : (10 : UInt8) ∈ s) : splitL s = ((cut1 10 s).1 :: (splitL (cut1 10 s).2).1, (splitL (cut1 10 s).2).2) := by
  conv => lhs; rw [cut1_mem h]
  exact splitL_line _ _ (cut1_clean s)
theorem parF_bad {S : TS} {n : Nat} {s : Bs} (h : (10 : UInt8) ∈ s) (e : stepT S (cut1 10 s).1 = none) : parF S n s = (tz, n) := by
  unfold parF
  rw [splitL_cut h]
  rw [eatT_none _ e, if_neg (fun h => by simp at h)]
  show (tz, 0 + n) = _
  rw [Nat.zero_add]
theorem parF_end {S S' : TS} {n : Nat} {s : Bs} (h : (10 : UInt8) ∈ s) (e : stepT S (cut1 10 s).1 = some S') (h2 : (cut1 10 s).2 = []) : parF S n s = (S', 0) := by
  unfold parF
  rw [splitL_cut h, h2]
  rw [eatT_some _ e]
  rfl
theorem parF_on {S S' : TS} {n : Nat} {s : Bs} (h : (10 : UInt8) ∈ s) (e : stepT S (cut1 10 s).1 = some S') (h2 : (cut1 10 s).2 ≠ []) : parF S n s = parF S' (n + 1) (cut1 10 s).2 := by
  unfold parF
  rw [splitL_cut h]
  generalize hr : (cut1 10 s).2 = r at *
  have hs := splitL_eq r
  rcases hx : splitL r with ⟨ls, t⟩
  rw [hx] at hs
  rw [eatT_some _ e]
  simp only at hs ⊢
  by_cases hc : (eatT S' ls).2 = ls.length ∧ t = []
  · have hne : ls ≠ [] := by
      rintro rfl
      rw [hc.2] at hs
      exact h2 hs.symm
    rw [if_pos ⟨by rw [hc.1]; rfl, hc.2, by simp⟩, if_pos ⟨hc.1, hc.2, hne⟩]
  · rw [if_neg (fun h => hc ⟨by have := h.1; simp at this; exact this, h.2.1⟩), if_neg (fun h => hc ⟨h.1, h.2.1⟩)]
    congr 1
    omega
theorem parT_F (s : Bs) : parT s = parF tz 1 s := by
  unfold parT parF
  by_cases hl : (splitL s).1 = []
  · rw [hl]
    rw [if_neg (fun h => h.2.2 rfl), if_neg (fun h => h.2.2 rfl)]
  · by_cases hc : (eatT tz (splitL s).1).2 = (splitL s).1.length ∧ (splitL s).2 = []
    · have hk := (eatT_ok _ tz tz_ok hc.1).2.2
      rw [if_pos ⟨hc.1, hc.2, fun h => hl (hk h).2⟩, if_pos ⟨hc.1, hc.2, hl⟩]
    · rw [if_neg (fun h => hc ⟨h.1, h.2.1⟩), if_neg (fun h => hc ⟨h.1, h.2.1⟩)]
theorem stepT_grow {S S' : TS} {l : Bs} (h : stepT S l = some S') : S'.L.length ≤ S.L.length + 1 ∧ S'.C.length ≤ S.C.length + 2 := by
  unfold stepT at h
  split at h
  · split at h
    · cases h; simp
    · cases h
  · split at h
    · cases h
    · split at h
      · cases h; simp
      · split at h
        · cases h; simp
        · split at h
          · cases h; simp
          · cases h
theorem cut1_lt {x : UInt8} {l : Bs} (h : x ∈ l) : (cut1 x l).2.length + 1 ≤ l.length := by
  have := congrArg List.length (cut1_mem h)
  rw [List.length_append, List.length_cons] at this
  omega
def szOf : Value → Nat
  | .string s => s.size
  | _ => 0
/-- where Parse stands -/
structure PaS (w1 wr : World) (s0 p : Nat) (s rest : Bs) (S : TS) (n : Nat) : Prop where
  mk ::
  r : RdS w1 wr p S
  b : wr.heap[s0]? = some (.cells #[.int .i64 0, .int .i64 0, .slice none 0 0, .slice none 0 0] 37 (0, 0))
  ok : S.ok
  e : parT s = parF S n rest
  n1 : 1 ≤ n
  lL : S.L.length + rest.length ≤ s.length
  lC : S.C.length + 2 * rest.length ≤ 2 * s.length
  ln : n + rest.length ≤ s.length + 1
theorem PaS.up {w1 wr w2 : World} {s0 p : Nat} {s rest : Bs} {S : TS} {n : Nat} (h : PaS w1 wr s0 p s rest S n) (b : Below wr.heap.size wr w2) : PaS w1 w2 s0 p s rest S n :=
  ⟨h.r.up b, (b.block _ (blk_lt h.b)).trans h.b, h.ok, h.e, h.n1, h.lL, h.lC, h.ln⟩
theorem PaS.c {w1 wr : World} {s0 p : Nat} {s rest : Bs} {S : TS} {n : Nat} (h : PaS w1 wr s0 p s rest S n) : (wr.cell? ⟨s0, 0, none⟩ = some (.int .i64 0) ∧ wr.cell? ⟨s0, 1, none⟩ = some (.int .i64 0) ∧ wr.cell? ⟨s0, 2, none⟩ = some (.slice none 0 0) ∧ wr.cell? ⟨s0, 3, none⟩ = some (.slice none 0 0)) ∧ ∀ j, wr.frozen? ⟨s0, j, none⟩ = false := by
  refine ⟨⟨?_, ?_, ?_, ?_⟩, fun j => Lib.frozen_of_heap h.b j⟩ <;> rw [Lib.cell_of_heap h.b] <;> rfl
end Wd
end Go.Proofs.YtkodnioheifalaaDoor

/- The landed text: Parse: the walk. -/
namespace Go.Proofs.YtkodnioheifalaaDoor
open Go.RowKit
set_option linter.unusedVariables false
set_option maxRecDepth 20000
namespace Wd
theorem byv_nil (w : World) : ByV w (.slice none 0 0) [] := ⟨none, 0, rfl, by simp, by decide, fun k x hx => by simp at hx⟩
theorem me_zero (w : World) : MeV w (.agg #[.int .i64 0, .int .i64 0, .slice none 0 0, .slice none 0 0]) ⟨0, 0, [], []⟩ := MeV.of (PrV.nil w) (byv_nil w) ⟨by decide, by decide⟩ ⟨by decide, by decide⟩
theorem row_set4 {y : World} {s0 base : Nat} {e T : TypeId} {size n : Nat} {v v0 v1 v2 v3 : Value} {xs : List Value} {cs : Array Value} {z : Nat × Nat} (h : y.ownsRow base e size v n xs) (hb : y.heap[s0]? = some (.cells cs T z)) (hT : T ≠ e) : (set4 y s0 v0 v1 v2 v3).ownsRow base e size v n xs := by
  have b1 := set_block y s0 0 v0 _ _ _ hb
  have b2 := set_block _ s0 1 v1 _ _ _ b1
  have b3 := set_block _ s0 2 v2 _ _ _ b2
  exact rowx_set (rowx_set (rowx_set (rowx_set h hb hT) b1 hT) b2 hT) b3 hT
theorem me_fin {y : World} {s0 p : Nat} {S : TS} {la : Option Addr} {lc : Nat} {ca : Option Addr} {cc : Nat} {last : Int} {v0 v1 v2 v3 : Value} {cs : Array Value} {z : Nat × Nat} (hx : RdX y p S la lc ca cc last) (hb : y.heap[s0]? = some (.cells cs 37 z)) (hok : S.ok) :
    MeV (set4 y s0 v0 v1 v2 v3) (.agg #[.int .i64 S.a, .int .i64 S.t, .slice la S.L.length lc, .slice ca S.C.length cc]) ⟨S.a, S.t, S.L, S.C⟩ := by
  obtain ⟨⟨a0, a1⟩, ⟨t0, t1⟩, hg⟩ := goM_iff.1 hok.go
  refine MeV.of (PrV.own (row_set4 hx.ol hb (by decide)) (fun v hv => ?_)) (ByV.own (row_set4 hx.oc hb (by decide)) hok.by8) ⟨by omega, by omega⟩ ⟨by omega, by omega⟩
  obtain ⟨hk, h1, h2⟩ := goV_iff.1 (hg v hv)
  refine ⟨?_, ⟨by omega, by omega⟩⟩
  rcases knd_some hk with e | e | e | e <;> rw [e] <;> exact ⟨by decide, by decide⟩
theorem set4_bel {w y : World} {s0 : Nat} {v0 v1 v2 v3 : Value} (h : Below s0 w y) : Below s0 w (set4 y s0 v0 v1 v2 v3) :=
  (((h.setCell (Nat.le_refl _) (p := ⟨s0, 0, none⟩) _).setCell (Nat.le_refl _) (p := ⟨s0, 1, none⟩) _).setCell (Nat.le_refl _) (p := ⟨s0, 2, none⟩) _).setCell (Nat.le_refl _) (p := ⟨s0, 3, none⟩) _
set_option maxHeartbeats 16000000 in
theorem parse_c (s : Bs) (hm : s.length ≤ 100000000) (w : World) :
    Calls Tryd.prog 12 #[.string (bs s)] w fun e w' => (∃ v, e = .returned (.tuple #[v, .int .i64 (parT s).2]) ∧ MeV w' v ⟨(parT s).1.a, (parT s).1.t, (parT s).1.L, (parT s).1.C⟩) ∧ Below w.heap.size w w' := by
  have hA : ∃ A, A = parT s := ⟨_, rfl⟩
  obtain ⟨A, hA⟩ := hA
  rw [← hA]
  replace hA := Lib.hid hA
  replace hm := Lib.hid hm
  have hS0 : Hid (PaS (w.alloc (.cells #[.int .i64 0, .int .i64 0, .slice none 0 0, .slice none 0 0] 37)) ((w.alloc (.cells #[.int .i64 0, .int .i64 0, .slice none 0 0, .slice none 0 0] 37)).alloc (.cells #[.int .i64 0, .int .i64 0, .slice none 0 0, .slice none 0 0, .int .i64 0] 66)) w.heap.size (w.heap.size + 1) s s tz 1) := by
    have hs1 : (w.alloc (.cells #[.int .i64 0, .int .i64 0, .slice none 0 0, .slice none 0 0] 37)).heap.size = w.heap.size + 1 := by simp
    refine Lib.hid ⟨⟨⟨none, 0, none, 0, 0, ⟨?_, World.ownsRow_nil _ _ _ _, World.ownsRow_nil _ _ _ _⟩, Or.inl ⟨rfl, rfl⟩⟩, ?_⟩, ?_, tz_ok, parT_F s, Nat.le_refl _, ?_, ?_, ?_⟩
    · have := heap_alloc_new (w.alloc (.cells #[.int .i64 0, .int .i64 0, .slice none 0 0, .slice none 0 0] 37)) (.cells #[.int .i64 0, .int .i64 0, .slice none 0 0, .slice none 0 0, .int .i64 0] 66)
      rw [hs1] at this
      exact this
    · exact ((Below.refl _ _).alloc (by rw [hs1]; exact Nat.le_refl _) _)
    · rw [Lib.alloc_old _ _ _ (by rw [hs1]; omega)]
      exact heap_alloc_new w _
    · show 0 + s.length ≤ _; omega
    · show 0 + 2 * s.length ≤ _; omega
    · omega
  have hw0 : Hid (Below w.heap.size w (w.alloc (.cells #[.int .i64 0, .int .i64 0, .slice none 0 0, .slice none 0 0] 37))) := Lib.hid ((Below.refl _ _).alloc (Nat.le_refl _) _)
  have hbw := Lib.hid (heap_alloc_new w (.cells #[.int .i64 0, .int .i64 0, .slice none 0 0, .slice none 0 0] 37))
  go_enter Tryd.func12, Tryd.ntmps12
  go_wp2_with fail
  generalize w.alloc (.cells #[.int .i64 0, .int .i64 0, .slice none 0 0, .slice none 0 0] 37) = w1 at *
  go_loopw [0, 5] (fun t0 t5 wr => ∃ (rest : Bs) (S : TS) (n : Nat), t0 = .string (bs rest) ∧ t5 = .int .i64 n ∧ Hid (PaS w1 wr w.heap.size (w.heap.size + 1) s rest S n)) (fun t0 _ _ => szOf t0)
  case atStart => exact ⟨s, tz, 1, rfl, rfl, hS0⟩
  case round =>
    clear hS0
    obtain ⟨rest, S, n, rfl, rfl, hS⟩ := hrel
    have hln := hS.out.ln
    have hlL := hS.out.lL
    have hlC := hS.out.lC
    have hn1 := hS.out.n1
    have hm' := hm.out
    have CC := Lib.hid (fun w => cut_c rest 10 (by omega) w)
    by_cases h10 : (10 : UInt8) ∈ rest
    · rw [decide_eq_true h10] at CC
      have hlt := cut1_lt h10
      cases est : stepT S (cut1 10 rest).1 with
      | none =>
        have eA := Lib.hid (hA.out.trans (hS.out.e.trans (parF_bad h10 est)))
        have CR := Lib.hid (fun y (hS : PaS w1 y w.heap.size (w.heap.size + 1) s rest S n) => read_c (cut1 10 rest).1 hS.r (by have := (cut1_le (x := 10) rest).1; omega) (by omega) (by omega) hS.ok)
        rw [est] at CR
        clear h10 est hlt
        generalize cut1 10 rest = c at *
        obtain ⟨ln, left⟩ := c
        simp only at CC CR
        go_upto_region 6 with (first
          | (go_at_call 26; (refine (CC.out _).mono ?_); rintro e y1 ⟨rfl, hb⟩; (replace hS := Lib.hid (hS.out.up hb)); clear hb)
          | (go_at_call 27; (refine (CR.out _ hS.out).mono ?_); rintro e y2 ⟨rfl, hr⟩))
        replace hS : Hid (PaS w1 y2 w.heap.size (w.heap.size + 1) s rest S n) := Lib.hid ⟨hr, (hr.bel.block _ (by omega)).trans hbw.out, hS.out.ok, hS.out.e, hS.out.n1, hS.out.lL, hS.out.lC, hS.out.ln⟩
        clear hr
        obtain ⟨⟨c0, c1, c2, c3⟩, hz⟩ := hS.out.c
        have z0 := hz 0
        have z1 := hz 1
        have z2 := hz 2
        have z3 := hz 3
        obtain ⟨r0, r1, r2, r3⟩ := set4_at (v0 := .int .i64 0) (v1 := .int .i64 0) (v2 := .slice none 0 0) (v3 := .slice none 0 0) c0 c1 c2 c3
        clear hz
        obtain rfl := eA.out
        go_wp2_with fail
        refine bodyPost_ret (by simp [results, Tryd.results12, go_sem, r0, r1, r2, r3]; try rfl) rfl ?_
        exact ⟨⟨_, rfl, me_zero _⟩, set4_bel (hw0.out.trans (hS.out.r.bel.mono (by omega)))⟩
      | some S' =>
        have CR := Lib.hid (fun y (hS : PaS w1 y w.heap.size (w.heap.size + 1) s rest S n) => read_c (cut1 10 rest).1 hS.r (by have := (cut1_le (x := 10) rest).1; omega) (by omega) (by omega) hS.ok)
        have hgr := stepT_grow est
        have hok := Lib.hid (stepT_ok hS.out.ok est).1
        rw [est] at CR
        by_cases hl : (cut1 10 rest).2 = []
        · have eA := Lib.hid (hA.out.trans (hS.out.e.trans (parF_end h10 est hl)))
          have g1 : (bs (cut1 10 rest).2).toList.isEmpty = true := by rw [hl]; exact bs_em
          clear h10 est hlt hl
          generalize cut1 10 rest = c at *
          obtain ⟨ln, left⟩ := c
          simp only at CC CR g1
          go_upto_region 8 with (first
            | (go_at_call 26; (refine (CC.out _).mono ?_); rintro e y1 ⟨rfl, hb⟩; (replace hS := Lib.hid (hS.out.up hb)); clear hb)
            | (go_at_call 27; (refine (CR.out _ hS.out).mono ?_); rintro e y2 ⟨rfl, hr⟩))
          have hb2 := (hr.bel.block w.heap.size (by omega)).trans hbw.out
          have c0 : y2.cell? ⟨w.heap.size, 0, none⟩ = some (.int .i64 0) := by rw [Lib.cell_of_heap hb2]; rfl
          have c1 : y2.cell? ⟨w.heap.size, 1, none⟩ = some (.int .i64 0) := by rw [Lib.cell_of_heap hb2]; rfl
          have c2 : y2.cell? ⟨w.heap.size, 2, none⟩ = some (.slice none 0 0) := by rw [Lib.cell_of_heap hb2]; rfl
          have c3 : y2.cell? ⟨w.heap.size, 3, none⟩ = some (.slice none 0 0) := by rw [Lib.cell_of_heap hb2]; rfl
          have z0 : y2.frozen? ⟨w.heap.size, 0, none⟩ = false := Lib.frozen_of_heap hb2 0
          have z1 : y2.frozen? ⟨w.heap.size, 1, none⟩ = false := Lib.frozen_of_heap hb2 1
          have z2 : y2.frozen? ⟨w.heap.size, 2, none⟩ = false := Lib.frozen_of_heap hb2 2
          have z3 : y2.frozen? ⟨w.heap.size, 3, none⟩ = false := Lib.frozen_of_heap hb2 3
          have hb2' := Lib.hid hb2
          obtain ⟨la, lc, ca, cc, last, hx, _⟩ := hr.ex
          have hbel := Lib.hid hr.bel
          obtain ⟨m0, m1, m2, m3, _⟩ := hx.c
          have hx' := Lib.hid hx
          simp only [Option.getD_some] at hx' m0 m1 m2 m3
          clear hx hb2 hr
          obtain ⟨r0, r1, r2, r3⟩ := set4_at (v0 := .int .i64 S'.a) (v1 := .int .i64 S'.t) (v2 := .slice la S'.L.length lc) (v3 := .slice ca S'.C.length cc) c0 c1 c2 c3
          obtain rfl := eA.out
          go_wp2_with fail
          refine bodyPost_ret (by simp [results, Tryd.results12, go_sem, r0, r1, r2, r3]; try rfl) rfl ?_
          exact ⟨⟨_, rfl, me_fin hx'.out hb2'.out hok.out⟩, set4_bel (hw0.out.trans (hbel.out.mono (by omega)))⟩
        · have g1 : (bs (cut1 10 rest).2).toList.isEmpty = false := bs_nem hl
          have eP := Lib.hid (parF_on (n := n) h10 est hl)
          clear h10 est hl
          generalize cut1 10 rest = c at *
          obtain ⟨ln, left⟩ := c
          simp only at CC CR g1 eP hlt
          go_upto_region 9 with (first
            | (go_at_call 26; (refine (CC.out _).mono ?_); rintro e y1 ⟨rfl, hb⟩; (replace hS := Lib.hid (hS.out.up hb)); clear hb)
            | (go_at_call 27; (refine (CR.out _ hS.out).mono ?_); rintro e y2 ⟨rfl, hr⟩))
          simp only [Option.getD_some] at hr
          replace hS : Hid (PaS w1 y2 w.heap.size (w.heap.size + 1) s left S' (n + 1)) := Lib.hid ⟨hr, (hr.bel.block _ (by omega)).trans hbw.out, hok.out, hS.out.e.trans eP.out, by omega, by omega, by omega, by omega⟩
          clear hr
          have sz1 : (bs left).size = left.length := bs_size left
          have sz2 : (bs rest).size = rest.length := bs_size rest
          go_wp2_with fail
          go_roundw
          case rel => exact ⟨left, S', n + 1, rfl, by go_num, hS⟩
          case measure => simp [szOf, sz1, sz2]; omega
    · rw [decide_eq_false h10] at CC
      have eA := Lib.hid (hA.out.trans (hS.out.e.trans (parF_none h10)))
      clear h10
      generalize cut1 10 rest = c at *
      obtain ⟨ln, left⟩ := c
      simp only at CC
      go_upto_region 6 with (go_at_call 26; (refine (CC.out _).mono ?_); rintro e y1 ⟨rfl, hb⟩; (replace hS := Lib.hid (hS.out.up hb)); clear hb)
      obtain ⟨⟨c0, c1, c2, c3⟩, hz⟩ := hS.out.c
      have z0 := hz 0
      have z1 := hz 1
      have z2 := hz 2
      have z3 := hz 3
      obtain ⟨r0, r1, r2, r3⟩ := set4_at (v0 := .int .i64 0) (v1 := .int .i64 0) (v2 := .slice none 0 0) (v3 := .slice none 0 0) c0 c1 c2 c3
      clear hz
      obtain rfl := eA.out
      go_wp2_with fail
      refine bodyPost_ret (by simp [results, Tryd.results12, go_sem, r0, r1, r2, r3]; try rfl) rfl ?_
      exact ⟨⟨_, rfl, me_zero _⟩, set4_bel (hw0.out.trans (hS.out.r.bel.mono (by omega)))⟩
end Wd
end Go.Proofs.YtkodnioheifalaaDoor

/- The laws of text: some of the chapter's runs. -/
namespace Go.Proofs.YtkodnioheifalaaDoor
open Go.RowKit
set_option linter.unusedVariables false
set_option maxRecDepth 20000
namespace Wd
theorem blk_up {w w2 : World} {q : Nat} {cs : Array Value} {T : TypeId} {z : Nat × Nat} (h : w.heap[q]? = some (.cells cs T z)) (b : Below w.heap.size w w2) : w2.heap[q]? = some (.cells cs T z) := (b.block _ (blk_lt h)).trans h
/-- a method lies boxed at q -/
structure Mb (w : World) (q : Nat) (la : Option Addr) (lc : Nat) (ca : Option Addr) (cc : Nat) (m : MethA) : Prop where
  mk ::
  h : w.heap[q]? = some (.cells #[.int .i64 m.args, .int .i64 m.temps, .slice la m.lits.length lc, .slice ca m.code.length cc] 37 (0, 0))
  v : MeV w (.agg #[.int .i64 m.args, .int .i64 m.temps, .slice la m.lits.length lc, .slice ca m.code.length cc]) m
section
variable {w w2 : World} {q : Nat} {la : Option Addr} {lc : Nat} {ca : Option Addr} {cc : Nat} {m : MethA}
theorem Mb.up (h : Mb w q la lc ca cc m) (b : Below w.heap.size w w2) : Mb w2 q la lc ca cc m := ⟨blk_up h.h b, h.v.up b⟩
theorem Mb.born (h : MeV w (.agg #[.int .i64 m.args, .int .i64 m.temps, .slice la m.lits.length lc, .slice ca m.code.length cc]) m) : Mb (w.alloc (.cells #[.int .i64 m.args, .int .i64 m.temps, .slice la m.lits.length lc, .slice ca m.code.length cc] 37)) w.heap.size la lc ca cc m := ⟨heap_alloc_new w _, h.up ((Below.refl _ _).alloc (Nat.le_refl _) _)⟩
theorem Mb.c (h : Mb w q la lc ca cc m) : w.cell? ⟨q, 0, none⟩ = some (.int .i64 m.args) ∧ w.cell? ⟨q, 1, none⟩ = some (.int .i64 m.temps) ∧ w.cell? ⟨q, 2, none⟩ = some (.slice la m.lits.length lc) ∧ w.cell? ⟨q, 3, none⟩ = some (.slice ca m.code.length cc) := by
  refine ⟨?_, ?_, ?_, ?_⟩ <;> rw [Lib.cell_of_heap h.h] <;> rfl
end
theorem me_form {w : World} {v : Value} {m : MethA} (h : MeV w v m) : ∃ la lc ca cc, v = .agg #[.int .i64 m.args, .int .i64 m.temps, .slice la m.lits.length lc, .slice ca m.code.length cc] ∧ MeV w (.agg #[.int .i64 m.args, .int .i64 m.temps, .slice la m.lits.length lc, .slice ca m.code.length cc]) m := by
  obtain ⟨la, lc, ca, cc, e, _⟩ := h.ex
  exact ⟨la, lc, ca, cc, e, by rw [← e]; exact h⟩
def kM : MethA := ⟨1, 2, [(3, -5)], [7, 255, 99, 1, 14, 0, 7]⟩
def kT : Bs := [109, 101, 116, 104, 111, 100, 32, 49, 32, 50, 10, 108, 105, 116, 32, 110, 117, 109, 32, 45, 53, 10, 32, 32, 112, 117, 115, 104, 110, 117, 109, 32, 45, 49, 10, 32, 32, 111, 112, 57, 57, 32, 49, 10, 32, 32, 114, 101, 116, 117, 114, 110, 32, 48, 10, 98, 121, 116, 101, 32, 55, 10]
theorem kT_eq : printR 1 2 [(3, -5)] [7, 255, 99, 1, 14, 0, 7] = kT := by decide +kernel
theorem kT_par : ∃ k, parT kT = (⟨k, 1, 2, [(3, -5)], [7, 255, 99, 1, 14, 0, 7]⟩, 0) := by
  rw [← kT_eq]
  exact parT_print (by decide) (by decide)
theorem k_nil : parT [] = (tz, 1) := rfl
theorem k_bad : valP [110, 117, 109, 32, 48, 53] = ((0, 0), false) := by decide +kernel
theorem k_blk : valP [98, 108, 107, 32, 51] = ((7, 3), true) := by decide +kernel
theorem k_num : litB (3, 5) = [110, 117, 109, 32, 53] := by decide +kernel
theorem k_no : litB (0, 0) = [] := by decide
theorem kM_v (w : World) : MeV ((w.alloc (.cells #[.int .i64 3, .int .i64 (-5)] 49)).alloc (.cells #[.int .u8 7, .int .u8 255, .int .u8 99, .int .u8 1, .int .u8 14, .int .u8 0, .int .u8 7] 5)) (.agg #[.int .i64 1, .int .i64 2, .slice (some ⟨w.heap.size, 0, none⟩) 1 1, .slice (some ⟨w.heap.size + 1, 0, none⟩) 7 7]) kM := by
  have h1 : ((w.alloc (.cells #[.int .i64 3, .int .i64 (-5)] 49)).alloc (.cells #[.int .u8 7, .int .u8 255, .int .u8 99, .int .u8 1, .int .u8 14, .int .u8 0, .int .u8 7] 5)).heap[w.heap.size]? = some (.cells #[.int .i64 3, .int .i64 (-5)] 49 (0, 0)) := by
    rw [Lib.alloc_old _ _ _ (by simp)]
    exact heap_alloc_new w _
  have h2 : ((w.alloc (.cells #[.int .i64 3, .int .i64 (-5)] 49)).alloc (.cells #[.int .u8 7, .int .u8 255, .int .u8 99, .int .u8 1, .int .u8 14, .int .u8 0, .int .u8 7] 5)).heap[w.heap.size + 1]? = some (.cells #[.int .u8 7, .int .u8 255, .int .u8 99, .int .u8 1, .int .u8 14, .int .u8 0, .int .u8 7] 5 (0, 0)) := by
    have := heap_alloc_new (w.alloc (.cells #[.int .i64 3, .int .i64 (-5)] 49)) (.cells #[.int .u8 7, .int .u8 255, .int .u8 99, .int .u8 1, .int .u8 14, .int .u8 0, .int .u8 7] 5)
    simpa using this
  refine MeV.of (a := 1) (t := 2) (L := [(3, -5)]) (C := [7, 255, 99, 1, 14, 0, 7]) (prv_one (h := 0) ?_ ?_ ⟨by decide, by decide⟩ ⟨by decide, by decide⟩) ⟨some ⟨w.heap.size + 1, 0, none⟩, 7, rfl, Nat.le_refl _, by decide, fun k x hx => ?_⟩ ⟨by decide, by decide⟩ ⟨by decide, by decide⟩
  · rw [Lib.cell_of_heap h1]; rfl
  · rw [Lib.cell_of_heap h1]; rfl
  · have hk : k < 7 := (List.getElem?_eq_some_iff.1 hx).1
    rcases (show k = 0 ∨ k = 1 ∨ k = 2 ∨ k = 3 ∨ k = 4 ∨ k = 5 ∨ k = 6 by omega) with rfl | rfl | rfl | rfl | rfl | rfl | rfl <;> (cases hx; exact ⟨⟨by decide, by decide⟩, w.heap.size + 1, 0, rfl, by rw [Lib.cell_of_heap h2]; rfl⟩)
end Wd
end Go.Proofs.YtkodnioheifalaaDoor
