/- The landed cache: which line a key has; how it lies. -/
import Derived.Test.YtpilbpofikdkmaaZM
import Derived.Test.YtpilbpofikdkmaaYTrue
namespace Go.Proofs.Ytpilbpofikdkmaa
open Go.RowKit Go.Maps
set_option linter.unusedVariables false
set_option maxRecDepth 20000
namespace Wd
theorem left_eq (n : Int) : Int.tmod (Int.tmod n 32 + 32) 32 = n % 32 := by
  have h1 := Int.tmod_add_mul_tdiv n 32
  have h2 : -32 < Int.tmod n 32 := Int.lt_tmod_of_pos n (by decide)
  rw [Int.tmod_eq_emod_of_nonneg (by omega)]
  omega
theorem left_bd (n : Int) : -32 < Int.tmod n 32 ∧ Int.tmod n 32 < 32 := ⟨Int.lt_tmod_of_pos n (by decide), Int.tmod_lt_of_pos n (by decide)⟩
theorem kleft_c (n : Int) (hn : I64 n) (w : World) : Calls Try.prog 22 #[.int .i64 n] w fun e w' => e = .returned (.int .i64 (n % 32)) ∧ w' = w := by
  have e := left_eq n
  obtain ⟨b0, b1⟩ := left_bd n
  obtain ⟨h0, h1⟩ := hn
  go_enter Try.func22, Try.ntmps22
  go_wp2
  go_ret
  exact ⟨rfl, rfl⟩
theorem line_eq (c k : Int) : ((c % 32) * 31 + k % 32) % 32 = (lineR c k : Nat) := by unfold lineR; omega
theorem kline_c {c k : Int} (hc : I64 c) (hk : I64 k) (w : World) : Calls Try.prog 20 #[.agg #[.int .i64 c, .int .i64 k]] w fun e w' => e = .returned (.int .i64 (lineR c k : Nat)) ∧ Below w.heap.size w w' := by
  have e := line_eq c k
  have L0 := fun W => kleft_c c hc W
  have L1 := fun W => kleft_c k hk W
  have L2 := fun W => kleft_c ((c % 32) * 31 + k % 32) ⟨by omega, by omega⟩ W
  rw [e] at L2
  obtain ⟨x, hx, x0, x1⟩ : ∃ x, c % 32 = x ∧ 0 ≤ x ∧ x < 32 := ⟨_, rfl, by omega, by omega⟩
  obtain ⟨y, hy, y0, y1⟩ : ∃ y, k % 32 = y ∧ 0 ≤ y ∧ y < 32 := ⟨_, rfl, by omega, by omega⟩
  rw [hx] at L0 L2
  rw [hy] at L1 L2
  clear hx hy e
  have hw1 : IntKind.i64.wrap (x * 31) = x * 31 := by rw [IntKind.wrap_i64]; omega
  have hw2 : IntKind.i64.wrap (x * 31 + y) = x * 31 + y := by rw [IntKind.wrap_i64]; omega
  have hw : x * 31 + y = IntKind.i64.wrap (IntKind.i64.wrap (x * 31) + y) := by rw [hw1, hw2]
  rw [hw] at L2
  clear hw hw1 hw2
  generalize ((lineR c k : Nat) : Int) = r at *
  replace L0 := Lib.hid L0
  replace L1 := Lib.hid L1
  replace L2 := Lib.hid L2
  have hB : Hid (Below w.heap.size w (w.alloc (.cells #[.int .i64 c, .int .i64 k] 32)).drew) := Lib.hid (((Below.refl _ _).alloc (Nat.le_refl _) _).drew)
  go_enter Try.func20, Try.ntmps20
  go_upto_region 1 with fail
  replace hB := hB.out
  have hp : (w.alloc (.cells #[.int .i64 c, .int .i64 k] 32)).heap[w.heap.size]? = some (.cells #[.int .i64 c, .int .i64 k] 32 (0, 0)) := heap_alloc_new w _
  have c0 : (w.alloc (.cells #[.int .i64 c, .int .i64 k] 32)).cell? ⟨w.heap.size, 0, none⟩ = some (.int .i64 c) := by unfold World.cell?; rw [hp]; rfl
  have c1 : (w.alloc (.cells #[.int .i64 c, .int .i64 k] 32)).cell? ⟨w.heap.size, 1, none⟩ = some (.int .i64 k) := by unfold World.cell?; rw [hp]; rfl
  clear hp
  replace hB := Lib.hid hB
  generalize w.alloc (.cells #[.int .i64 c, .int .i64 k] 32) = W at *
  refine wp_region_still_lit (by kernel_rfl) (by kernel_rfl) ?_
  iterate 2 still_step
  still_call (L0.out _)
  iterate 3 still_step
  still_call (L1.out _)
  still_step
  still_call (L2.out _)
  still_step
  refine wpStill_nil ?_
  change Exit.then _ _ Exit.normal _ (World.drew _)
  go_wp2
  go_ret
  exact ⟨rfl, hB.out⟩
/-- which key a line has; which method a key -/
def keyM (L : Ln) : Int → Option Pl := fun x => if 0 ≤ x ∧ x < 32 then (L x.toNat).map (fun t => (t.1, t.2.1)) else none
def methM (L : Ln) : Pl → Option Int := fun q => if hasT (L (lineR q.1 q.2)) q.1 q.2 = true then some (metT (L (lineR q.1 q.2)) q.1 q.2) else none
/-- what a cache's lines always are -/
def WfL (L : Ln) : Prop := ∀ j c k x, L j = some (c, k, x) → j < 32 ∧ lineR c k = j ∧ I64 c ∧ I64 k ∧ I64 x
theorem has_some (c k x c' k' : Int) : hasT (some (c, k, x)) c' k' = true ↔ (c', k') = (c, k) := by
  unfold hasT; simp; exact ⟨fun h => ⟨h.1.symm, h.2.symm⟩, fun h => ⟨h.1.symm, h.2.symm⟩⟩
theorem met_some (c k x : Int) : metT (some (c, k, x)) c k = x := by unfold metT; simp
theorem keyM_at {L : Ln} (c k : Int) : keyM L (lineR c k : Nat) = (L (lineR c k)).map (fun t => (t.1, t.2.1)) := by
  have := line_lt c k
  unfold keyM
  rw [if_pos ⟨by omega, by omega⟩, Int.toNat_natCast]
theorem keyM_upd (L : Ln) (c k x : Int) : keyM (updL L (lineR c k) (some (c, k, x))) = updQ (keyM L) (lineR c k : Nat) (some (c, k)) := by
  funext q
  have := line_lt c k
  unfold updQ keyM updL
  by_cases e : q = (lineR c k : Nat)
  · subst e; rw [if_pos ⟨by omega, by omega⟩, if_pos rfl, Int.toNat_natCast, if_pos rfl]; rfl
  · rw [if_neg e]
    by_cases h : 0 ≤ q ∧ q < 32
    · rw [if_pos h, if_neg (by omega), if_pos h]
    · rw [if_neg h, if_neg h]
theorem keyM_clr : keyM (fun _ => none) = fun _ => none := by funext q; unfold keyM; split <;> rfl
theorem methM_clr : methM (fun _ => none) = fun _ => none := by funext q; unfold methM; rfl
theorem methM_line {L : Ln} (h : WfL L) {c k : Int} {x : Int} (e : methM L (c, k) = some x) : L (lineR c k) = some (c, k, x) := by
  unfold methM at e
  split at e
  · rename_i h1
    injection e with e
    cases hL : L (lineR c k) with
    | none => rw [hL] at h1; cases h1
    | some t =>
      obtain ⟨a, b, y⟩ := t
      simp only at h1 e
      rw [hL] at h1 e
      have h2 := (has_some a b y c k).1 h1
      injection h2 with h2 h3
      subst h2; subst h3
      rw [met_some] at e
      rw [e]
  · cases e
theorem methM_of {L : Ln} (h : WfL L) {j : Nat} {c k x : Int} (e : L j = some (c, k, x)) : methM L (c, k) = some x := by
  obtain ⟨_, h2, _⟩ := h j c k x e
  unfold methM
  simp only [h2, e]
  rw [if_pos ((has_some c k x c k).2 rfl), met_some]
theorem methM_new (L : Ln) (c k x : Int) : methM (updL L (lineR c k) (some (c, k, x))) (c, k) = some x := by
  unfold methM updL
  simp only [if_true]
  rw [if_pos ((has_some c k x c k).2 rfl), met_some]
theorem methM_at {L : Ln} {j : Nat} {t : Option (Int × Int × Int)} {a b : Int} (hj : lineR a b = j) (e : L j = t) : methM L (a, b) = if hasT t a b = true then some (metT t a b) else none := by
  subst hj; subst e; rfl
theorem methM_far (L : Ln) {j : Nat} {t : Option (Int × Int × Int)} {a b : Int} (hj : lineR a b ≠ j) : methM (updL L j t) (a, b) = methM L (a, b) := by
  unfold methM updL
  simp only [if_neg hj]
theorem upd_same (L : Ln) (j : Nat) (t : Option (Int × Int × Int)) : updL L j t j = t := if_pos rfl
theorem methM_put0 {L : Ln} (h : WfL L) {c k x : Int} (e : L (lineR c k) = none) : methM (updL L (lineR c k) (some (c, k, x))) = updM (methM L) (c, k) (some x) ∧ methM L (c, k) = none := by
  have h0 : methM L (c, k) = none := by rw [methM_at rfl e]; rfl
  refine ⟨?_, h0⟩
  funext q
  obtain ⟨a, b⟩ := q
  unfold updM
  by_cases eq : (a, b) = (c, k)
  · rw [if_pos eq, eq]; exact methM_new L c k x
  · rw [if_neg eq]
    by_cases el : lineR a b = lineR c k
    · rw [methM_at el (upd_same L _ _), methM_at el e]
      rw [if_neg (fun hh => eq ((has_some c k x a b).1 hh))]
      rfl
    · exact methM_far L el
theorem methM_put1 {L : Ln} (h : WfL L) {c k x c' k' x' : Int} (e : L (lineR c k) = some (c', k', x')) : methM (updL L (lineR c k) (some (c, k, x))) = updM (updM (methM L) (c', k') none) (c, k) (some x) ∧ updM (methM L) (c', k') none (c, k) = none ∧ (methM L (c', k')).isSome = true := by
  have h0 := methM_of h e
  obtain ⟨_, h2, _⟩ := h _ _ _ _ e
  have h3 : updM (methM L) (c', k') none (c, k) = none := by
    unfold updM
    by_cases eq : (c, k) = (c', k')
    · rw [if_pos eq]
    · rw [if_neg eq, methM_at rfl e, if_neg (fun hh => eq ((has_some c' k' x' c k).1 hh))]
  refine ⟨?_, h3, by rw [h0]; rfl⟩
  funext q
  obtain ⟨a, b⟩ := q
  by_cases eq : (a, b) = (c, k)
  · rw [eq, methM_new]; unfold updM; rw [if_pos rfl]
  · have e1 : updM (updM (methM L) (c', k') none) (c, k) (some x) (a, b) = updM (methM L) (c', k') none (a, b) := if_neg eq
    rw [e1]
    unfold updM
    by_cases el : lineR a b = lineR c k
    · rw [methM_at el (upd_same L _ _), if_neg (fun hh => eq ((has_some c k x a b).1 hh))]
      by_cases e2 : (a, b) = (c', k')
      · rw [if_pos e2]
      · rw [if_neg e2, methM_at el e, if_neg (fun hh => e2 ((has_some c' k' x' a b).1 hh))]
    · rw [methM_far L el]
      rw [if_neg (fun hh => el (by injection hh with hh1 hh2; rw [hh1, hh2]; exact h2))]
theorem wf_put {L : Ln} (h : WfL L) {c k x : Int} (hc : I64 c) (hk : I64 k) (hx : I64 x) : WfL (updL L (lineR c k) (some (c, k, x))) := by
  intro j a b y e
  unfold updL at e
  by_cases ej : j = lineR c k
  · rw [if_pos ej] at e; cases e; subst ej; exact ⟨line_lt _ _, rfl, hc, hk, hx⟩
  · rw [if_neg ej] at e; exact h j a b y e
theorem cnt_put (S : Cst) (c k x : Int) : cntL (putS S c k x) = if (S.L (lineR c k)).isSome then cntL S else cntL S + 1 := by
  have := line_lt c k
  unfold cntL putS
  rw [cntK_upd]
  cases h : (S.L (lineR c k)).isSome
  · rw [if_pos ⟨this, rfl⟩]; rfl
  · rw [if_neg (fun hh => by cases hh.2)]; rfl
theorem cnt_pos {S : Cst} {c k : Int} {t : Int × Int × Int} (h : S.L (lineR c k) = some t) : 1 ≤ cntL S := by
  have hm : lineR c k ∈ (List.range 32).filter (fun j => (S.L j).isSome) := by
    rw [List.mem_filter]
    exact ⟨List.mem_range.2 (line_lt c k), by rw [h]; rfl⟩
  exact List.length_pos_of_mem hm
/-- the landed cache at block p: its methods in the map mm, its keys in the map mk -/
structure ZQ (w : World) (p mm mk h m a b : Nat) (A : Pl → Option Int) (B : Int → Option Pl) : Prop where
  c0 : w.cell? ⟨p, 0, none⟩ = some (.map (some mm))
  c1 : w.cell? ⟨p, 1, none⟩ = some (.map (some mk))
  c2 : w.cell? ⟨p, 2, none⟩ = some (.int .i64 (h : Nat))
  c3 : w.cell? ⟨p, 3, none⟩ = some (.int .i64 (m : Nat))
  z : ∀ k, w.frozen? ⟨p, k, none⟩ = false
  mp : MapP w mm a A
  mq : MapQ w mk b B
  mmp : mm ≠ p
  mkp : mk ≠ p
  mmk : mm ≠ mk
def FZ (p mm mk : Nat) : Nat → Prop := fun k => k = p ∨ k = mm ∨ k = mk
def CZ (w : World) (p : Nat) (S : Cst) (F : Nat → Prop) : Prop := ∃ mm mk, ZQ w p mm mk S.h S.m (cntL S) (cntL S) (methM S.L) (keyM S.L) ∧ WfL S.L ∧ F = FZ p mm mk
section
variable {w w1 w0 : World} {p mm mk h m a b : Nat} {A A' : Pl → Option Int} {B B' : Int → Option Pl}
theorem ZQ.lt (H : ZQ w p mm mk h m a b A B) : ∀ k, FZ p mm mk k → k < w.heap.size := by
  rintro k (rfl | rfl | rfl)
  · exact World.block_lt_of_cell? w _ H.c0
  · exact H.mp.lt
  · exact H.mq.lt
theorem ZQ.same (H : ZQ w p mm mk h m a b A B) (hb : ∀ k, FZ p mm mk k → w1.heap[k]? = w.heap[k]?) : ZQ w1 p mm mk h m a b A B :=
  ⟨(World.cell?_of_block (a := ⟨p, 0, none⟩) (hb p (Or.inl rfl))).trans H.c0, (World.cell?_of_block (a := ⟨p, 1, none⟩) (hb p (Or.inl rfl))).trans H.c1, (World.cell?_of_block (a := ⟨p, 2, none⟩) (hb p (Or.inl rfl))).trans H.c2, (World.cell?_of_block (a := ⟨p, 3, none⟩) (hb p (Or.inl rfl))).trans H.c3, fun k => (World.frozen?_of_block (a := ⟨p, k, none⟩) (hb p (Or.inl rfl))).trans (H.z k), H.mp.same (hb mm (Or.inr (Or.inl rfl))), H.mq.same (hb mk (Or.inr (Or.inr rfl))), H.mmp, H.mkp, H.mmk⟩
theorem ZQ.keep (H : ZQ w p mm mk h m a b A B) (g : Below w.heap.size w w1) : ZQ w1 p mm mk h m a b A B := H.same (fun k hk => g.block k (H.lt k hk))
theorem ZQ.drew (H : ZQ w p mm mk h m a b A B) : ZQ w.drew p mm mk h m a b A B := H.same (fun _ _ => rfl)
/-- the first map has been written -/
theorem ZQ.meth {a' : Nat} (H : ZQ w p mm mk h m a b A B) (hm : MapP w1 mm a' A') (g : w.grownBy w1 (some mm)) : ZQ w1 p mm mk h m a' b A' B := by
  have hp : w1.heap[p]? = w.heap[p]? := g.block p (H.lt p (Or.inl rfl)) (fun e => H.mmp (by injection e with e; exact e.symm))
  exact ⟨(World.cell?_of_block (a := ⟨p, 0, none⟩) hp).trans H.c0, (World.cell?_of_block (a := ⟨p, 1, none⟩) hp).trans H.c1, (World.cell?_of_block (a := ⟨p, 2, none⟩) hp).trans H.c2, (World.cell?_of_block (a := ⟨p, 3, none⟩) hp).trans H.c3, fun k => (World.frozen?_of_block (a := ⟨p, k, none⟩) hp).trans (H.z k), hm, H.mq.same (g.block mk H.mq.lt (fun e => H.mmk (by injection e with e; exact e.symm))), H.mmp, H.mkp, H.mmk⟩
/-- the second one -/
theorem ZQ.keys {b' : Nat} (H : ZQ w p mm mk h m a b A B) (hm : MapQ w1 mk b' B') (g : w.grownBy w1 (some mk)) : ZQ w1 p mm mk h m a b' A B' := by
  have hp : w1.heap[p]? = w.heap[p]? := g.block p (H.lt p (Or.inl rfl)) (fun e => H.mkp (by injection e with e; exact e.symm))
  exact ⟨(World.cell?_of_block (a := ⟨p, 0, none⟩) hp).trans H.c0, (World.cell?_of_block (a := ⟨p, 1, none⟩) hp).trans H.c1, (World.cell?_of_block (a := ⟨p, 2, none⟩) hp).trans H.c2, (World.cell?_of_block (a := ⟨p, 3, none⟩) hp).trans H.c3, fun k => (World.frozen?_of_block (a := ⟨p, k, none⟩) hp).trans (H.z k), H.mp.same (g.block mm H.mp.lt (fun e => H.mmk (by injection e with e))), hm, H.mmp, H.mkp, H.mmk⟩
theorem ZQ.hit (H : ZQ w p mm mk h m a b A B) : ZQ (w.setCell ⟨p, 2, none⟩ (.int .i64 ((h + 1 : Nat) : Int))) p mm mk (h + 1) m a b A B := by
  have far : ∀ k, k ≠ p → (w.setCell ⟨p, 2, none⟩ (.int .i64 ((h + 1 : Nat) : Int))).heap[k]? = w.heap[k]? := fun k hk => Below.heap_setCell _ _ _ _ hk
  exact ⟨(World.cell?_setCell_other _ _ _ _ (by simp)).trans H.c0, (World.cell?_setCell_other _ _ _ _ (by simp)).trans H.c1, World.cell?_setCell_same _ _ _ H.c2, (World.cell?_setCell_other _ _ _ _ (by simp)).trans H.c3, fun k => (World.frozen?_setCell _ _ _ _).trans (H.z k), H.mp.same (far mm H.mmp), H.mq.same (far mk H.mkp), H.mmp, H.mkp, H.mmk⟩
theorem ZQ.miss (H : ZQ w p mm mk h m a b A B) : ZQ (w.setCell ⟨p, 3, none⟩ (.int .i64 ((m + 1 : Nat) : Int))) p mm mk h (m + 1) a b A B := by
  have far : ∀ k, k ≠ p → (w.setCell ⟨p, 3, none⟩ (.int .i64 ((m + 1 : Nat) : Int))).heap[k]? = w.heap[k]? := fun k hk => Below.heap_setCell _ _ _ _ hk
  exact ⟨(World.cell?_setCell_other _ _ _ _ (by simp)).trans H.c0, (World.cell?_setCell_other _ _ _ _ (by simp)).trans H.c1, (World.cell?_setCell_other _ _ _ _ (by simp)).trans H.c2, World.cell?_setCell_same _ _ _ H.c3, fun k => (World.frozen?_setCell _ _ _ _).trans (H.z k), H.mp.same (far mm H.mmp), H.mq.same (far mk H.mkp), H.mmp, H.mkp, H.mmk⟩
theorem Ch.grown {F : Nat → Prop} {w w1 w2 : World} (c : Ch F w w1) {g : Nat} (hg : w1.grownBy w2 (some g)) (hF : F g) : Ch F w w2 :=
  ⟨hg.os.trans c.os, hg.tape.trans c.tape, hg.output.trans c.output, Nat.le_trans c.size hg.size, fun k hk hf => (hg.block k (Nat.lt_of_lt_of_le hk c.size) (fun e => hf (by injection e with e; rw [e]; exact hF))).trans (c.block k hk hf)⟩
end
end Wd
end Go.Proofs.Ytpilbpofikdkmaa
