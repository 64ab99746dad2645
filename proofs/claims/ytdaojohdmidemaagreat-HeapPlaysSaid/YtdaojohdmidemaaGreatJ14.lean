/- Texts joined: VNew. -/
import Derived.Test.YtdaojohdmidemaaGreatJ13
/- The landed memory: it is made. -/
namespace Go.Proofs.YtdaojohdmidemaaGreat
open Go.RowKit Go.Maps
set_option linter.unusedVariables false
set_option maxRecDepth 20000
namespace Wd
theorem index5 (n : Nat → Nat) {s : Nat} (hs : s < 5) (w : World) : (Instr.index 26 (.agg #[.int .i64 (n 0 : Nat), .int .i64 (n 1 : Nat), .int .i64 (n 2 : Nat), .int .i64 (n 3 : Nat), .int .i64 (n 4 : Nat)]) (.int .i64 (s : Int))).run Tryz.prog w = .ok (.int .i64 (n s : Nat)) w := by
  rcases (show s = 0 ∨ s = 1 ∨ s = 2 ∨ s = 3 ∨ s = 4 by omega) with rfl | rfl | rfl | rfl | rfl <;> kernel_rfl
theorem upB_ap2 {B : Nat → Nat → Prop} {i0 : Nat} {F' : Nat → Prop} (ap : ∀ i j k, B i k → B j k → i = j) (hn : ∀ k, F' k → ¬ un B k) : ∀ i j k, upB B i0 F' i k → upB B i0 F' j k → i = j := by
  intro i j k h1 h2
  unfold upB at h1 h2
  split at h1
  · split at h2
    · omega
    · exact absurd ⟨_, h2⟩ (hn k h1)
  · split at h2
    · exact absurd ⟨_, h1⟩ (hn k h2)
    · exact ap _ _ k h1 h2
/-- while it is made: km mills, kw rows of words are there -/
structure NV (w : World) (n : Nat → Nat) (p tb mt : Nat) (km kw : Nat) (wr : World) (B : Nat → Nat → Prop) (mp gw : Nat → Nat) : Prop where
  bel : Below w.heap.size w wr
  far : ∀ i j, B i j → w.heap.size ≤ j
  cm : ∀ s, s < 5 → wr.cell? ⟨p, s, none⟩ = some (.pointer (if s < km then mv n mp s else none))
  ce : ∀ s, s < 5 → kw ≤ s → ∃ v, wr.cell? ⟨p, 5 + s, none⟩ = some v
  cw : ∀ s, s < 5 → s < kw → 1 ≤ n s → wr.cell? ⟨p, 5 + s, none⟩ = some (.slice (some ⟨gw s, 0, none⟩) (n s * wN s) (n s * wN s))
  ct : wr.cell? ⟨p, 10, none⟩ = some (.pointer (some ⟨tb, 0, none⟩))
  cc : wr.cell? ⟨p, 11, none⟩ = some (.pointer (some ⟨mt, 0, none⟩))
  zp : ∀ k, wr.frozen? ⟨p, k, none⟩ = false
  bp : B 0 p
  bm : B 1 mt
  bg : ∀ s, s < 5 → s < kw → 1 ≤ n s → B (8 + s) (gw s)
  mill : ∀ s, s < 5 → s < km → 1 ≤ n s → MA wr (mp s) (n s) (startA (n s)) (B (3 + s))
  tbl : TA wr tb noT (B 2)
  met : Mt wr mt
  row : ∀ s, s < 5 → s < kw → ∀ k, k < n s * wN s → wr.cell? ⟨gw s, k, none⟩ = some (.int .u32 0)
  zg : ∀ s, s < 5 → s < kw → 1 ≤ n s → ∀ k, wr.frozen? ⟨gw s, k, none⟩ = false
  ap : ∀ i j k, B i k → B j k → i = j
  lt : ∀ i k, B i k → k < wr.heap.size
section
variable {w wr w1 : World} {n : Nat → Nat} {p tb mt km kw k q g : Nat} {B : Nat → Nat → Prop} {mp gw : Nat → Nat} {F' : Nat → Prop}
theorem NV.keep (h : NV w n p tb mt km kw wr B mp gw) (hb : Below wr.heap.size wr w1) : NV w n p tb mt km kw w1 B mp gw := by
  have hk : ∀ i k, B i k → w1.heap[k]? = wr.heap[k]? := fun i k hB => hb.block k (h.lt i k hB)
  have e0 := hk 0 p h.bp
  refine ⟨h.bel.trans (hb.mono h.bel.size), h.far, fun s hs => (World.cell?_of_block (a := ⟨p, s, none⟩) e0).trans (h.cm s hs), fun s hs hw => ?_, fun s hs hw hn => (World.cell?_of_block (a := ⟨p, 5 + s, none⟩) e0).trans (h.cw s hs hw hn), (World.cell?_of_block (a := ⟨p, 10, none⟩) e0).trans h.ct, (World.cell?_of_block (a := ⟨p, 11, none⟩) e0).trans h.cc,
    fun k => (World.frozen?_of_block (a := ⟨p, k, none⟩) e0).trans (h.zp k), h.bp, h.bm, h.bg, fun s hs hm hn => KM.keep (h.mill s hs hm hn) (fun k hB => hk _ k hB), KT.keep h.tbl (fun k hB => hk _ k hB), h.met.same (hk 1 mt h.bm), fun s hs hw k hkk => ?_, fun s hs hw hn k => ?_, h.ap, fun i k hB => Nat.lt_of_lt_of_le (h.lt i k hB) hb.size⟩
  · obtain ⟨v, hv⟩ := h.ce s hs hw
    exact ⟨v, (World.cell?_of_block (a := ⟨p, 5 + s, none⟩) e0).trans hv⟩
  · exact (World.cell?_of_block (a := ⟨gw s, k, none⟩) (hk _ _ (h.bg s hs hw (n_pos hkk)))).trans (h.row s hs hw k hkk)
  · exact (World.frozen?_of_block (a := ⟨gw s, k, none⟩) (hk _ _ (h.bg s hs hw hn))).trans (h.zg s hs hw hn k)
/-- a cell of the memory's own block is written -/
theorem NV.own (h : NV w n p tb mt km kw wr B mp gw) {o : Nat} {v : Value} {i j : Nat} (hB : B i j) (hi : i ≠ 0) : (wr.setCell ⟨p, o, none⟩ v).heap[j]? = wr.heap[j]? :=
  Below.heap_setCell _ _ _ _ (fun e => hi (h.ap i 0 j hB (by rw [e]; exact h.bp)))
theorem NV.off (h : NV w n p tb mt km kw wr B mp gw) {o o' : Nat} {v : Value} (hne : o' ≠ o) : (wr.setCell ⟨p, o, none⟩ v).cell? ⟨p, o', none⟩ = wr.cell? ⟨p, o', none⟩ :=
  World.cell?_setCell_other _ _ _ _ (by intro e; injection e with _ h2; exact hne h2.symm)
theorem NV.bel' (h : NV w n p tb mt km kw wr B mp gw) (o : Nat) (v : Value) : Below w.heap.size w (wr.setCell ⟨p, o, none⟩ v) := below_set h.bel (h.far 0 p h.bp) _
theorem NV.mil (h : NV w n p tb mt k kw wr B mp gw) (hk : k < 5) (hn : 1 ≤ n k) (hM : MA wr q (n k) (startA (n k)) F') (hd : ∀ j, F' j → ¬ un B j) (hf : ∀ j, F' j → w.heap.size ≤ j) :
    NV w n p tb mt (k + 1) kw (wr.setCell ⟨p, k, none⟩ (.pointer (some ⟨q, 0, none⟩))) (upB B (3 + k) F') (upN mp k q) gw := by
  have ne : ∀ {j : Nat}, j ≠ 3 + k → upB B (3 + k) F' j = B j := fun hne => by unfold upB; rw [if_neg hne]
  have hp0 : ∀ j, F' j → j ≠ p := fun j hj e => hd j hj ⟨0, by rw [e]; exact h.bp⟩
  refine ⟨h.bel' _ _, fun i j hij => ?_, fun s hs => ?_, fun s hs hw => ?_, fun s hs hw hns => (h.off (by omega)).trans (h.cw s hs hw hns), (h.off (by omega)).trans h.ct, (h.off (by omega)).trans h.cc, fun k => by rw [World.frozen?_setCell]; exact h.zp k, ?_, ?_, fun s hs hw hns => ?_, fun s hs hm hns => ?_, ?_, ?_, fun s hs hw j hj => ?_, fun s hs hw hns j => by rw [World.frozen?_setCell]; exact h.zg s hs hw hns j, upB_ap2 h.ap hd, fun i j hij => ?_⟩
  · unfold upB at hij
    split at hij
    · exact hf j hij
    · exact h.far i j hij
  · by_cases e : s = k
    · subst e
      rw [World.cell?_setCell_same _ _ _ (h.cm s hs), if_pos (by omega)]
      unfold mv upN
      rw [if_neg (by omega), if_pos rfl]
    · rw [h.off e, h.cm s hs]
      by_cases e2 : s < k
      · rw [if_pos e2, if_pos (by omega)]
        unfold mv upN
        rw [if_neg e]
      · rw [if_neg e2, if_neg (by omega)]
  · obtain ⟨v, hv⟩ := h.ce s hs hw
    exact ⟨v, (h.off (by omega)).trans hv⟩
  · rw [ne (by omega)]; exact h.bp
  · rw [ne (by omega)]; exact h.bm
  · rw [ne (by omega)]; exact h.bg s hs hw hns
  · unfold upN
    by_cases e : s = k
    · subst e
      rw [if_pos rfl]
      unfold upB
      rw [if_pos rfl]
      exact KM.keep hM (fun j hj => Below.heap_setCell _ _ _ _ (hp0 j hj))
    · rw [if_neg e, ne (by omega)]
      exact KM.keep (h.mill s hs (by omega) hns) (fun j hj => h.own hj (by omega))
  · rw [ne (by omega)]
    exact KT.keep h.tbl (fun j hj => h.own hj (by omega))
  · exact h.met.same (h.own h.bm (by omega))
  · exact (World.cell?_of_block (a := ⟨gw s, j, none⟩) (h.own (h.bg s hs hw (n_pos hj)) (by omega))).trans (h.row s hs hw j hj)
  · rw [World.size_setCell]
    unfold upB at hij
    split at hij
    · exact KM.lt hM j hij
    · exact h.lt i j hij
theorem NV.nomil (h : NV w n p tb mt k kw wr B mp gw) (hk : k < 5) (hn : n k = 0) : NV w n p tb mt (k + 1) kw (wr.setCell ⟨p, k, none⟩ (.pointer none)) B mp gw := by
  refine ⟨h.bel' _ _, h.far, fun s hs => ?_, fun s hs hw => ?_, fun s hs hw hns => (h.off (by omega)).trans (h.cw s hs hw hns), (h.off (by omega)).trans h.ct, (h.off (by omega)).trans h.cc, fun k => by rw [World.frozen?_setCell]; exact h.zp k, h.bp, h.bm, h.bg, fun s hs hm hns => ?_, ?_, ?_, fun s hs hw j hj => ?_, fun s hs hw hns j => by rw [World.frozen?_setCell]; exact h.zg s hs hw hns j, h.ap, fun i j hij => by rw [World.size_setCell]; exact h.lt i j hij⟩
  · by_cases e : s = k
    · subst e
      rw [World.cell?_setCell_same _ _ _ (h.cm s hs), if_pos (by omega)]
      unfold mv
      rw [if_pos hn]
    · rw [h.off e, h.cm s hs]
      by_cases e2 : s < k
      · rw [if_pos e2, if_pos (by omega)]
      · rw [if_neg e2, if_neg (by omega)]
  · obtain ⟨v, hv⟩ := h.ce s hs hw
    exact ⟨v, (h.off (by omega)).trans hv⟩
  · have : s ≠ k := fun e => by subst e; omega
    exact KM.keep (h.mill s hs (by omega) hns) (fun j hj => h.own hj (by omega))
  · exact KT.keep h.tbl (fun j hj => h.own hj (by omega))
  · exact h.met.same (h.own h.bm (by omega))
  · exact (World.cell?_of_block (a := ⟨gw s, j, none⟩) (h.own (h.bg s hs hw (n_pos hj)) (by omega))).trans (h.row s hs hw j hj)
theorem NV.rows (h : NV w n p tb mt km k wr B mp gw) (hk : k < 5) (hr : ∀ j, j < n k * wN k → wr.cell? ⟨g, j, none⟩ = some (.int .u32 0)) (hz : ∀ j, wr.frozen? ⟨g, j, none⟩ = false) (hd : ¬ un B g) (hf : w.heap.size ≤ g) (hl : g < wr.heap.size) :
    NV w n p tb mt km (k + 1) (wr.setCell ⟨p, 5 + k, none⟩ (.slice (some ⟨g, 0, none⟩) (n k * wN k) (n k * wN k))) (upB B (8 + k) (fun j => j = g)) mp (upN gw k g) := by
  have ne : ∀ {j : Nat}, j ≠ 8 + k → upB B (8 + k) (fun j => j = g) j = B j := fun hne => by unfold upB; rw [if_neg hne]
  have hgp : g ≠ p := fun e => hd ⟨0, by rw [e]; exact h.bp⟩
  refine ⟨h.bel' _ _, fun i j hij => ?_, fun s hs => (h.off (by omega)).trans (h.cm s hs), fun s hs hw => ?_, fun s hs hw hns => ?_, (h.off (by omega)).trans h.ct, (h.off (by omega)).trans h.cc, fun k => by rw [World.frozen?_setCell]; exact h.zp k, ?_, ?_, fun s hs hw hns => ?_, fun s hs hm hns => ?_, ?_, ?_, fun s hs hw j hj => ?_, fun s hs hw hns j => ?_, upB_ap2 h.ap (fun j hj => by subst hj; exact hd), fun i j hij => ?_⟩
  · unfold upB at hij
    split at hij
    · subst hij; exact hf
    · exact h.far i j hij
  · obtain ⟨v, hv⟩ := h.ce s hs (by omega)
    exact ⟨v, (h.off (by omega)).trans hv⟩
  · by_cases e : s = k
    · subst e
      obtain ⟨v, hv⟩ := h.ce s hs (by omega)
      unfold upN
      rw [if_pos rfl]
      exact World.cell?_setCell_same _ _ _ hv
    · unfold upN
      rw [if_neg e]
      exact (h.off (by omega)).trans (h.cw s hs (by omega) hns)
  · rw [ne (by omega)]; exact h.bp
  · rw [ne (by omega)]; exact h.bm
  · unfold upN
    by_cases e : s = k
    · subst e; rw [if_pos rfl]; unfold upB; rw [if_pos rfl]
    · rw [if_neg e, ne (by omega)]; exact h.bg s hs (by omega) hns
  · rw [ne (by omega)]
    exact KM.keep (h.mill s hs hm hns) (fun j hj => h.own hj (by omega))
  · rw [ne (by omega)]
    exact KT.keep h.tbl (fun j hj => h.own hj (by omega))
  · exact h.met.same (h.own h.bm (by omega))
  · unfold upN
    by_cases e : s = k
    · subst e
      rw [if_pos rfl]
      exact (World.cell?_of_block (a := ⟨g, j, none⟩) (Below.heap_setCell _ _ _ _ hgp)).trans (hr j hj)
    · rw [if_neg e]
      exact (World.cell?_of_block (a := ⟨gw s, j, none⟩) (h.own (h.bg s hs (by omega) (n_pos hj)) (by omega))).trans (h.row s hs (by omega) j hj)
  · rw [World.frozen?_setCell]
    unfold upN
    by_cases e : s = k
    · subst e; rw [if_pos rfl]; exact hz j
    · rw [if_neg e]; exact h.zg s hs (by omega) hns j
  · rw [World.size_setCell]
    unfold upB at hij
    split at hij
    · subst hij; exact hl
    · exact h.lt i j hij
theorem NV.fin (h : NV w n p tb mt 5 5 wr B mp gw) (few : ∀ s, s < 5 → n s ≤ 512) (sum : n 0 + (n 1 + (n 2 + (n 3 + n 4))) ≤ 1020) : HQ wr p n (newH n) B mp gw tb mt (fun _ _ => 0) := by
  refine ⟨⟨fun s hs => ?_, fun s hs hn => h.cw s hs hs hn, h.ct, h.cc, h.bp, h.bm, fun s hs hn => h.bg s hs hs hn, fun s hs hn => h.mill s hs hs hn, h.tbl, h.met, fun s hs k hk => h.row s hs hs k hk, fun s hs hn k => h.zg s hs hs hn k, fun s k => by omega, h.ap, h.lt⟩, fun k s c hT => (by cases hT), HInv.new n few sum⟩
  have := h.cm s hs
  rw [if_pos hs] at this
  exact this
/-- the blocks of a memory without mills -/
def B0 (p mt : Nat) (F1 : Nat → Prop) : Nat → Nat → Prop := fun i k => if i = 0 then k = p else if i = 1 then k = mt else if i = 2 then F1 k else False
theorem NV.begin {w1 w2 : World} {F1 : Nat → Prop} (hb1 : Below w.heap.size w w1) (hT : TA w1 tb noT F1) (hF : ∀ k, F1 k → w.heap.size ≤ k) (hm : Mt w2 mt) (hmt : mt = w1.heap.size) (hb2 : Below w1.heap.size w1 w2) :
    NV w n w2.heap.size tb mt 0 0 (w2.alloc (.cells #[.pointer none, .pointer none, .pointer none, .pointer none, .pointer none, .slice none 0 0, .slice none 0 0, .slice none 0 0, .slice none 0 0, .slice none 0 0, .pointer (some ⟨tb, 0, none⟩), .pointer (some ⟨mt, 0, none⟩)] 66)) (B0 w2.heap.size mt F1) (fun _ => 0) (fun _ => 0) := by
  have hm2 : mt < w2.heap.size := by
    obtain ⟨⟨a, b, h1, _⟩, _⟩ := hm
    exact World.block_lt_of_cell? w2 _ h1
  have hF2 : ∀ k, F1 k → k < w1.heap.size := KT.lt hT
  have hs := hb2.size
  have hs1 := hb1.size
  have hB12 : Below w.heap.size w w2 := hb1.trans (hb2.mono hs1)
  have hal : ∀ o : Obj, Below w2.heap.size w2 (w2.alloc o) := fun o => (Below.refl _ _).alloc (Nat.le_refl _) _
  refine ⟨hB12.trans ((hal _).mono hB12.size), fun i j hij => ?_, fun s h5 => ?_, fun s h5 _ => ?_, fun s h5 h0 => absurd h0 (by omega), by simp, by simp, fun k => by simp, by unfold B0; rw [if_pos rfl], by unfold B0; rw [if_neg (by omega), if_pos rfl], fun s h5 h0 => absurd h0 (by omega), fun s h5 h0 => absurd h0 (by omega), ?_, ?_, fun s h5 h0 => absurd h0 (by omega), fun s h5 h0 => absurd h0 (by omega), fun i j k h1 h2 => ?_, fun i j hij => ?_⟩
  · unfold B0 at hij
    split at hij
    · omega
    · split at hij
      · omega
      · split at hij
        · exact hF j hij
        · exact hij.elim
  · rcases (show s = 0 ∨ s = 1 ∨ s = 2 ∨ s = 3 ∨ s = 4 by omega) with rfl | rfl | rfl | rfl | rfl <;> simp
  · rcases (show s = 0 ∨ s = 1 ∨ s = 2 ∨ s = 3 ∨ s = 4 by omega) with rfl | rfl | rfl | rfl | rfl <;> exact ⟨_, by simp; rfl⟩
  · have e : B0 w2.heap.size mt F1 2 = F1 := by unfold B0; funext k; rw [if_neg (by omega), if_neg (by omega), if_pos rfl]
    rw [e]
    refine KT.keep hT (fun k hk => ?_)
    have := hF2 k hk
    exact ((hal _).block k (by omega)).trans (hb2.block k this)
  · exact hm.same ((hal _).block mt hm2)
  · unfold B0 at h1 h2
    have f1 : F1 k → k < w1.heap.size := hF2 k
    by_cases a0 : i = 0 <;> by_cases b0 : j = 0
    · omega
    · rw [if_pos a0] at h1; rw [if_neg b0] at h2
      split at h2
      · omega
      · split at h2
        · have := f1 h2; omega
        · exact h2.elim
    · rw [if_neg a0] at h1; rw [if_pos b0] at h2
      split at h1
      · omega
      · split at h1
        · have := f1 h1; omega
        · exact h1.elim
    · rw [if_neg a0] at h1; rw [if_neg b0] at h2
      by_cases a1 : i = 1 <;> by_cases b1 : j = 1
      · omega
      · rw [if_pos a1] at h1; rw [if_neg b1] at h2
        split at h2
        · have := f1 h2; omega
        · exact h2.elim
      · rw [if_neg a1] at h1; rw [if_pos b1] at h2
        split at h1
        · have := f1 h1; omega
        · exact h1.elim
      · rw [if_neg a1] at h1; rw [if_neg b1] at h2
        split at h1
        · split at h2
          · omega
          · exact h2.elim
        · exact h1.elim
  · rw [World.size_alloc]
    unfold B0 at hij
    split at hij
    · omega
    · split at hij
      · omega
      · split at hij
        · have := hF2 j hij; omega
        · exact hij.elim
set_option maxHeartbeats 16000000 in
theorem vnew_none {w : World} (p : Int) (hp : i64 p) : Calls Tryz.prog 9 #[cfgV (fun _ => 0) p] w fun e w' => e = .returned (.pointer .none) ∧ Below w.heap.size w w' := by
  have PR := Lib.hid (right_c 0 0 0 0 0 p (by omega) (by omega) (by omega) (by omega) (by omega) (by omega) (by omega) (by omega) (by omega) (by omega) hp.1 hp.2)
  have er : rt 0 0 0 0 0 p = 18 := by unfold rt; simp
  rw [er] at PR
  show Calls Tryz.prog 9 #[.agg #[.int .i64 0, .int .i64 0, .int .i64 0, .int .i64 0, .int .i64 0, .int .i64 p]] w _
  have hal : ∀ o : Obj, Below w.heap.size w (w.alloc o) := fun o => (Below.refl _ _).alloc (Nat.le_refl _) _
  replace hal := Lib.hid hal
  go_enter Tryz.func9, Tryz.ntmps9
  go_wp2_with (first | (go_at_call 37; ((with_reducible refine (PR.out _).mono ?_); rintro e w1 ⟨rfl, hw1⟩; subst w1)))
  go_ret
  exact ⟨rfl, (hal.out _).trans (((Below.refl _ _).alloc (Nat.le_refl _) _).mono (hal.out _).size)⟩
set_option maxHeartbeats 16000000 in
theorem vnew_c {w : World} (n : Nat → Nat) (p : Int) (few : ∀ s, s < 5 → n s ≤ 512) (sum1 : 1 ≤ n 0 + (n 1 + (n 2 + (n 3 + n 4)))) (sum : n 0 + (n 1 + (n 2 + (n 3 + n 4))) ≤ 1020) (p1 : 1 ≤ p) (p2 : p ≤ 16) :
    Calls Tryz.prog 9 #[cfgV n p] w fun e w' => ∃ q F, e = .returned (.pointer (some ⟨q, 0, none⟩)) ∧ HA w' q n (newH n) F ∧ (∀ k, F k → w.heap.size ≤ k) ∧ Below w.heap.size w w' := by
  have h0 := few 0 (by omega)
  have h1 := few 1 (by omega)
  have h2 := few 2 (by omega)
  have h3 := few 3 (by omega)
  have h4 := few 4 (by omega)
  have PR := Lib.hid (right_c (n 0 : Nat) (n 1 : Nat) (n 2 : Nat) (n 3 : Nat) (n 4 : Nat) p (by omega) (by omega) (by omega) (by omega) (by omega) (by omega) (by omega) (by omega) (by omega) (by omega) (by omega) (by omega))
  have er : rt (n 0 : Nat) (n 1 : Nat) (n 2 : Nat) (n 3 : Nat) (n 4 : Nat) p = 0 := (rt_zero _ _ _ _ _ _).2 (by omega)
  rw [er] at PR
  have hix := Lib.hid (fun (s : Nat) (hs : s < 5) (w : World) => index5 n hs w)
  unfold cfgV
  have hal : ∀ (w : World) (o : Obj), Below w.heap.size w (w.alloc o) := fun w o => (Below.refl _ _).alloc (Nat.le_refl _) _
  replace hal := Lib.hid hal
  clear er h0 h1 h2 h3 h4 sum1 p1 p2
  go_enter Tryz.func9, Tryz.ntmps9
  go_wp2_with (first | (go_at_call 37; ((with_reducible refine (PR.out _).mono ?_); rintro e w1 ⟨rfl, hw1⟩; subst w1)))
  have q : ∀ j, j < 5 → ((w.alloc (.cells #[.int .i64 (n 0 : Nat), .int .i64 (n 1 : Nat), .int .i64 (n 2 : Nat), .int .i64 (n 3 : Nat), .int .i64 (n 4 : Nat), .int .i64 p] 28)).alloc (.cells #[.int .i64 (n 0 : Nat), .int .i64 (n 1 : Nat), .int .i64 (n 2 : Nat), .int .i64 (n 3 : Nat), .int .i64 (n 4 : Nat), .int .i64 p] 28)).cell? ⟨w.heap.size, j, none⟩ = some (.int .i64 (n j : Nat)) := fun j hj => by
    rcases (show j = 0 ∨ j = 1 ∨ j = 2 ∨ j = 3 ∨ j = 4 by omega) with rfl | rfl | rfl | rfl | rfl <;> simp
  have hbW := (hal.out w (.cells #[.int .i64 (n 0 : Nat), .int .i64 (n 1 : Nat), .int .i64 (n 2 : Nat), .int .i64 (n 3 : Nat), .int .i64 (n 4 : Nat), .int .i64 p] 28)).trans ((hal.out (w.alloc (.cells #[.int .i64 (n 0 : Nat), .int .i64 (n 1 : Nat), .int .i64 (n 2 : Nat), .int .i64 (n 3 : Nat), .int .i64 (n 4 : Nat), .int .i64 p] 28)) (.cells #[.int .i64 (n 0 : Nat), .int .i64 (n 1 : Nat), .int .i64 (n 2 : Nat), .int .i64 (n 3 : Nat), .int .i64 (n 4 : Nat), .int .i64 p] 28)).mono (hal.out w _).size)
  have hlw : w.heap.size < ((w.alloc (.cells #[.int .i64 (n 0 : Nat), .int .i64 (n 1 : Nat), .int .i64 (n 2 : Nat), .int .i64 (n 3 : Nat), .int .i64 (n 4 : Nat), .int .i64 p] 28)).alloc (.cells #[.int .i64 (n 0 : Nat), .int .i64 (n 1 : Nat), .int .i64 (n 2 : Nat), .int .i64 (n 3 : Nat), .int .i64 (n 4 : Nat), .int .i64 p] 28)).heap.size := by simp only [World.size_alloc]; omega
  generalize (w.alloc (.cells #[.int .i64 (n 0 : Nat), .int .i64 (n 1 : Nat), .int .i64 (n 2 : Nat), .int .i64 (n 3 : Nat), .int .i64 (n 4 : Nat), .int .i64 p] 28)).alloc (.cells #[.int .i64 (n 0 : Nat), .int .i64 (n 1 : Nat), .int .i64 (n 2 : Nat), .int .i64 (n 3 : Nat), .int .i64 (n 4 : Nat), .int .i64 p] 28) = w1 at *
  with_reducible refine KT.new.mono ?_
  rintro e w2 ⟨tb, F1, rfl, t1, t2, t3⟩
  have q2 : ∀ j, j < 5 → w2.cell? ⟨w.heap.size, j, none⟩ = some (.int .i64 (n j : Nat)) := fun j hj => (t3.cell hlw).trans (q j hj)
  have hb2 := hbW.trans (t3.mono hbW.size)
  have hF1 : ∀ k, F1 k → w.heap.size ≤ k := fun k hk => Nat.le_trans hbW.size (t2 k hk)
  have hl2 : w.heap.size < w2.heap.size := Nat.lt_of_lt_of_le hlw t3.size
  replace hb2 := Lib.hid hb2
  replace hF1 := Lib.hid hF1
  replace t1 := Lib.hid t1
  clear t2 t3 hbW q PR hlw
  go_wp2_with (first | (go_at_call 39; ((with_reducible refine (cnew_c _).mono ?_); rintro e w3 ⟨mt, rfl, m1, m2, m3⟩; have S0 := Lib.hid (NV.begin (n := n) hb2.out t1.out hF1.out m1 m2 m3); have q3 : ∀ (o : Obj) j, j < 5 → (w3.alloc o).cell? ⟨w.heap.size, j, none⟩ = some (.int .i64 (n j : Nat)) := (fun o j hj => ((hal.out w3 o).cell (Nat.lt_of_lt_of_le hl2 m3.size)).trans ((m3.cell hl2).trans (q2 j hj))); have c0 := fun o => q3 o 0 (by omega); have c1 := fun o => q3 o 1 (by omega); have c2 := fun o => q3 o 2 (by omega); have c3 := fun o => q3 o 3 (by omega); have c4 := fun o => q3 o 4 (by omega); replace q3 := Lib.hid q3; replace m2 := Lib.hid m2; clear m1 m3)))
  replace q2 := Lib.hid q2
  clear c0 c1 c2 c3 c4 q3 hl2 hb2 hF1 t1 q2
  generalize w3.alloc (.cells #[.pointer none, .pointer none, .pointer none, .pointer none, .pointer none, .slice none 0 0, .slice none 0 0, .slice none 0 0, .slice none 0 0, .slice none 0 0, .pointer (some ⟨tb, 0, none⟩), .pointer (some ⟨mt, 0, none⟩)] 66) = w4 at *
  generalize w3.heap.size = P at *
  obtain ⟨i0, hi0, hz0, hz1, hz2⟩ := info_parts infoW
  have hmk : Hid (∀ m : Nat, m ≤ 32768 → ∀ w, (Instr.makeSlice 36 (.int .i64 (m : Int)) (.int .i64 (m : Int))).run Tryz.prog w = .ok (.slice (some ⟨w.heap.size, 0, none⟩) m m) (w.alloc (.cells (madeCells #[.int .u32 0] m) 37))) := Lib.hid (fun m hm w => by
    have := run_make (P := Tryz.prog) w 36 37 i0 (.int .u32 0) Tryz.underlying36 hi0 hz0 .i64 .i64 m m (by omega) (by omega) (by rw [hz2]; omega) (by omega)
    rw [hz1] at this
    simpa [Value.cells] using this)
  clear hi0 hz0 hz1 hz2
  go_loopw [15] (fun i' wr => ∃ k : Nat, k ≤ 5 ∧ i' = .int .i64 k ∧ ∃ B mp gw, NV w n P tb mt k k wr B mp gw) (fun i' _ => 5 - (intOf i').toNat)
  case atStart => exact ⟨0, by omega, rfl, _, _, _, S0.out⟩
  case round =>
    clear S0
    obtain ⟨k, hk, rfl, B, mp, gw, hR⟩ := hrel
    by_cases hlt : k < 5
    · have hlt5 : decide ((k : Int) < 5) = true := by simp; omega
      have hlt5' : (k : Int) < 5 := by omega
      have hw1 : IntKind.i64.wrap ((k : Int) + 1) = (k : Int) + 1 := by rw [IntKind.wrap_i64]; omega
      have hx := hix.out k hlt wr
      have hfew := few k hlt
      have hcx : Hid (∀ wX, Below wr.heap.size wr wX → wX.cell? ⟨P, k, none⟩ = some (.pointer none) ∧ wX.frozen? ⟨P, k, none⟩ = false) := Lib.hid (fun wX hb => by
        have h := hR.keep hb
        have := h.cm k hlt
        rw [if_neg (by omega)] at this
        exact ⟨this, h.zp k⟩)
      by_cases h0 : n k = 0
      · have PN := Lib.hid (fun (wX : World) => KM.none (w := wX) (n k : Nat) (by omega) (by omega) (Or.inl (by omega)))
        have hnx : Hid (∀ wX, Below wr.heap.size wr wX → NV w n P tb mt (k + 1) k (wX.setCell ⟨P, k, none⟩ (.pointer none)) B mp gw) := Lib.hid (fun wX hb => (hR.keep hb).nomil hlt h0)
        clear hR h0
        go_wp2
        go_region_with (first | (go_at_call 40; ((with_reducible refine (PN.out _).mono ?_); rintro e w5 ⟨rfl, hb5⟩; have hb5' : Below wr.heap.size wr w5 := ⟨hb5.os, hb5.tape, hb5.output, hb5.size, hb5.block⟩; obtain ⟨x1, z1⟩ := hcx.out w5 hb5')))
        have hN1 := hnx.out _ hb5'
        have hPl : P < (w5.setCell ⟨P, k, none⟩ (.pointer none)).heap.size := hN1.lt _ _ hN1.bp
        obtain ⟨v0, x2⟩ := hN1.ce k hlt (Nat.le_refl _)
        have z2 := hN1.zp (5 + k)
        clear x1 z1 hb5 hb5' hnx PN hcx
        replace hN1 := Lib.hid hN1
        generalize w5.setCell ⟨P, k, none⟩ (.pointer none) = w6 at *
        have PW := Lib.hid (words_c (k : Int) (by omega) (by omega))
        rw [wd_wN hlt] at PW
        have hWb := wN_bd hlt
        have hmb : n k * wN k ≤ 32768 := Nat.mul_le_mul hfew hWb.2
        have hml : IntKind.i64.wrap ((n k : Int) * (wN k : Int)) = ((n k * wN k : Nat) : Int) := by rw [← Int.natCast_mul, IntKind.wrap_i64]; omega
        have hmk2 := hmk.out _ hmb
        have hnx2 : Hid (∀ (g : Nat) (Z : Array Value), Z = madeCells #[.int .u32 0] (n k * wN k) → g = w6.heap.size → NV w n P tb mt (k + 1) (k + 1) ((w6.alloc (.cells Z 37)).setCell ⟨P, 5 + k, none⟩ (.slice (some ⟨g, 0, none⟩) (n k * wN k) (n k * wN k))) (upB B (8 + k) (fun j => j = g)) mp (upN gw k g)) := Lib.hid (fun g Z hZ hg => by
          subst hg
          refine (hN1.out.keep ((Below.refl _ _).alloc (Nat.le_refl _) _)).rows hlt (fun j hj => ?_) (fun j => by simp) (fun ⟨i, hi⟩ => Nat.lt_irrefl _ (hN1.out.lt i _ hi)) (hN1.out.bel.size) (by simp)
          have : (madeCells #[Value.int .u32 0] (n k * wN k)).toList[j]? = some (.int .u32 0) := by rw [toList_madeCells_one]; simp [hj]
          rw [hZ]
          simp only [World.cell?, heap_alloc_new]
          rw [← Array.getElem?_toList, this]
          rfl)
        obtain ⟨Z, hZ⟩ : ∃ Z, Z = madeCells #[.int .u32 0] (n k * wN k) := ⟨_, rfl⟩
        rw [← hZ] at hmk2
        have hnx3 := Lib.hid (fun g hg => hnx2.out g Z hZ hg)
        clear hN1 hnx2 hZ
        generalize n k * wN k = N at *
        generalize wN k = W at *
        go_wp2
        go_region_with (first | (go_at_call 41; ((with_reducible refine (PW.out _).mono ?_); rintro e w7 ⟨rfl, hw7⟩; subst w7)))
        have hN2 := hnx3.out w6.heap.size rfl
        rw [World.setCell_alloc_past _ _ _ _ hPl] at hN2
        have hN3 := hN2.keep (Below.refl _ _).drew
        generalize ((w6.setCell ⟨P, 5 + k, none⟩ (.slice (some ⟨w6.heap.size, 0, none⟩) N N)).alloc (.cells Z 37)).drew = w8 at *
        replace hN3 := Lib.hid hN3
        clear hN2 hnx3 hmk2 PW x2 z2 hml hmb
        generalize w6.heap.size = g6 at *
        (try simp only [Exit.inBlock, Exit.then])
        go_wp2
        go_roundw
        case rel => exact ⟨k + 1, by omega, by go_num, _, _, _, hN3.out⟩
        case measure => simp [intOf]; omega
      · have PN := Lib.hid (fun (wX : World) => KM.new (w := wX) (n k) (by omega) hfew)
        have hlB := Lib.hid (fun i j hB => hR.lt i j hB)
        have hsz := hR.bel.size
        have hnx0 : Hid (∀ wX q5 F5, Below wr.heap.size wr wX → MA wX q5 (n k) (startA (n k)) F5 → (∀ j, F5 j → wr.heap.size ≤ j) → NV w n P tb mt (k + 1) k (wX.setCell ⟨P, k, none⟩ (.pointer (some ⟨q5, 0, none⟩))) (upB B (3 + k) F5) (upN mp k q5) gw) := Lib.hid (fun wX q5 F5 hb hM hF => (hR.keep hb).mil hlt (by omega) hM (fun j hj ⟨i, hi⟩ => by have := hlB.out i j hi; have := hF j hj; omega) (fun j hj => by have := hF j hj; omega))
        clear hR h0
        go_wp2
        go_region_with (first | (go_at_call 40; ((with_reducible refine (PN.out _).mono ?_); rintro e w5 ⟨q5, F5, he, mm, mf, hb5⟩; subst he; have hb5' : Below wr.heap.size wr w5 := ⟨hb5.os, hb5.tape, hb5.output, hb5.size, hb5.block⟩; have mf' : ∀ j, F5 j → wr.heap.size ≤ j := mf; obtain ⟨x1, z1⟩ := hcx.out w5 hb5')))
        have hnx := Lib.hid (fun (wX : World) (_ : Below wr.heap.size wr w5) => hnx0.out w5 q5 F5 hb5' mm mf')
        have hnx : Hid (∀ wX, wX = w5 → NV w n P tb mt (k + 1) k (wX.setCell ⟨P, k, none⟩ (.pointer (some ⟨q5, 0, none⟩))) (upB B (3 + k) F5) (upN mp k q5) gw) := Lib.hid (fun wX e => by subst e; exact hnx0.out wX q5 F5 hb5' mm mf')
        clear hnx0 mm mf mf' hlB hsz
        have hN1 := hnx.out _ rfl
        have hPl : P < (w5.setCell ⟨P, k, none⟩ (.pointer (some ⟨q5, 0, none⟩))).heap.size := hN1.lt _ _ hN1.bp
        obtain ⟨v0, x2⟩ := hN1.ce k hlt (Nat.le_refl _)
        have z2 := hN1.zp (5 + k)
        clear x1 z1 hb5 hb5' hnx PN hcx
        replace hN1 := Lib.hid hN1
        generalize w5.setCell ⟨P, k, none⟩ (.pointer (some ⟨q5, 0, none⟩)) = w6 at *
        have PW := Lib.hid (words_c (k : Int) (by omega) (by omega))
        rw [wd_wN hlt] at PW
        have hWb := wN_bd hlt
        have hmb : n k * wN k ≤ 32768 := Nat.mul_le_mul hfew hWb.2
        have hml : IntKind.i64.wrap ((n k : Int) * (wN k : Int)) = ((n k * wN k : Nat) : Int) := by rw [← Int.natCast_mul, IntKind.wrap_i64]; omega
        have hmk2 := hmk.out _ hmb
        have hnx2 : Hid (∀ (g : Nat) (Z : Array Value), Z = madeCells #[.int .u32 0] (n k * wN k) → g = w6.heap.size → NV w n P tb mt (k + 1) (k + 1) ((w6.alloc (.cells Z 37)).setCell ⟨P, 5 + k, none⟩ (.slice (some ⟨g, 0, none⟩) (n k * wN k) (n k * wN k))) (upB (upB B (3 + k) F5) (8 + k) (fun j => j = g)) (upN mp k q5) (upN gw k g)) := Lib.hid (fun g Z hZ hg => by
          subst hg
          refine (hN1.out.keep ((Below.refl _ _).alloc (Nat.le_refl _) _)).rows hlt (fun j hj => ?_) (fun j => by simp) (fun ⟨i, hi⟩ => Nat.lt_irrefl _ (hN1.out.lt i _ hi)) (hN1.out.bel.size) (by simp)
          have : (madeCells #[Value.int .u32 0] (n k * wN k)).toList[j]? = some (.int .u32 0) := by rw [toList_madeCells_one]; simp [hj]
          rw [hZ]
          simp only [World.cell?, heap_alloc_new]
          rw [← Array.getElem?_toList, this]
          rfl)
        obtain ⟨Z, hZ⟩ : ∃ Z, Z = madeCells #[.int .u32 0] (n k * wN k) := ⟨_, rfl⟩
        rw [← hZ] at hmk2
        have hnx3 := Lib.hid (fun g hg => hnx2.out g Z hZ hg)
        clear hN1 hnx2 hZ
        generalize n k * wN k = N at *
        generalize wN k = W at *
        go_wp2
        go_region_with (first | (go_at_call 41; ((with_reducible refine (PW.out _).mono ?_); rintro e w7 ⟨rfl, hw7⟩; subst w7)))
        have hN2 := hnx3.out w6.heap.size rfl
        rw [World.setCell_alloc_past _ _ _ _ hPl] at hN2
        have hN3 := hN2.keep (Below.refl _ _).drew
        generalize ((w6.setCell ⟨P, 5 + k, none⟩ (.slice (some ⟨w6.heap.size, 0, none⟩) N N)).alloc (.cells Z 37)).drew = w8 at *
        replace hN3 := Lib.hid hN3
        clear hN2 hnx3 hmk2 PW x2 z2 hml hmb
        generalize w6.heap.size = g6 at *
        (try simp only [Exit.inBlock, Exit.then])
        go_wp2
        go_roundw
        case rel => exact ⟨k + 1, by omega, by go_num, _, _, _, hN3.out⟩
        case measure => simp [intOf]; omega
    · have e : k = 5 := by omega
      subst e
      have hQ := Lib.hid (hR.fin few sum)
      have hbl := Lib.hid hR.bel
      have hfr := Lib.hid hR.far
      clear hR
      go_wp2
      go_ret
      exact ⟨_, _, rfl, ⟨_, _, _, _, _, _, rfl, hQ.out⟩, fun g ⟨i, hi⟩ => hfr.out i g hi, hbl.out⟩
end
end Wd
end Go.Proofs.YtdaojohdmidemaaGreat
