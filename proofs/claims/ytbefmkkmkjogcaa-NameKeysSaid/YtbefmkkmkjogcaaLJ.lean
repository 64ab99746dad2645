/- The landed table of names: a name goes in. -/
import Derived.Test.YtbefmkkmkjogcaaLI
import Derived.Test.YtbefmkkmkjogcaaRLast
import Derived.Deep.RegionHeld
import Derived.Deep.RegionWith
import Derived.Deep.RegionHeldLaw
import Derived.Deep.RegionHeld3
import Derived.Deep.Draws
namespace Go.Proofs.Ytbefmkkmkjogcaa
open Go.RowKit Go.Maps
set_option linter.unusedVariables false
set_option maxRecDepth 20000
namespace Wd
theorem Ch.refl (F : Nat → Prop) (w : World) : Ch F w w := ⟨rfl, rfl, rfl, Nat.le_refl _, fun _ _ _ => rfl⟩
theorem Ch.trans {F : Nat → Prop} {w w1 w2 : World} (h : Ch F w w1) (g : Ch F w1 w2) : Ch F w w2 :=
  ⟨g.os.trans h.os, g.tape.trans h.tape, g.output.trans h.output, Nat.le_trans h.size g.size, fun k hk hf => (g.block k (Nat.lt_of_lt_of_le hk h.size) hf).trans (h.block k hk hf)⟩
theorem below_toCh {w w' : World} (F : Nat → Prop) (b : Below w.heap.size w w') : Ch F w w' := ⟨b.os, b.tape, b.output, b.size, fun k hk _ => b.block k hk⟩
theorem numM_add {l : List ByteArray} {b : ByteArray} {n : Nat} (hp : posR l b = none) (hn : l.length = n) (q : List UInt8) : numM (l ++ [b]) q = updM (numM l) b.data.toList (some (n : Nat)) q := by
  unfold numM updM
  have hpos : posR (l ++ [b]) ⟨q.toArray⟩ = (posR l ⟨q.toArray⟩).or (if b = ⟨q.toArray⟩ then some n else none) := by
    unfold posR
    rw [List.findIdx?_append, hn]
    congr 1
    by_cases e : b = ⟨q.toArray⟩
    · rw [if_pos e]; simp [e]
    · rw [if_neg e]; simp [e]
  rw [hpos]
  by_cases e : q = b.data.toList
  · have e2 : (⟨q.toArray⟩ : ByteArray) = b := by rw [e]
    rw [if_pos e, e2, hp, if_pos rfl]
    rfl
  · have e2 : ¬ b = ⟨q.toArray⟩ := fun h => e (by rw [h])
    rw [if_neg e, if_neg e2]
    show _ = Option.map (fun k => ((k : Nat) : Int)) (posR l ⟨q.toArray⟩)
    cases posR l ⟨q.toArray⟩ <;> rfl
theorem rd_key (w : World) (b : ByteArray) (g : Nat) (hg : g = w.heap.size) : ∀ j u, (kcl [b])[j]? = some u → (w.alloc (.cells (kcs b) 33)).cell? ((⟨g, 0, none⟩ : Addr).add j) = some u := by
  subst hg
  have e : kcl [b] = (kcs b).toList := by simp [kcl]
  rw [e]
  exact World.news_of_block (heap_alloc_new w _)
/-- ahead of the append -/
structure AdA (w0 wA : World) (p m n : Nat) (v : Value) (l : List ByteArray) (b : ByteArray) (g : Nat) : Prop where
  np : NP wA p m v l
  key : wA.heap[g]? = some (.cells (kcs b) 33 (0, 0))
  bel : Below w0.heap.size w0 wA
  lg : w0.heap.size ≤ g
  vlt : ∀ k, FN p m v k → k < w0.heap.size
  hn : l.length = n
/-- behind it: u is what the table's first cell holds -/
structure AdB (w0 wB : World) (p m n g1 cap : Nat) (v u : Value) (l : List ByteArray) (b : ByteArray) (g : Nat) : Prop where
  c0 : wB.cell? ⟨p, 0, none⟩ = some u
  c1 : wB.cell? ⟨p, 1, none⟩ = some (.map (some m))
  z : ∀ k, wB.frozen? ⟨p, k, none⟩ = false
  own : wB.ownsRow 0 33 16 (.slice (some ⟨g1, 0, none⟩) (n + 1) cap) (n + 1) (kcl (l ++ [b]))
  mp : MapK wB m n (numM l)
  key : wB.heap[g]? = some (.cells (kcs b) 33 (0, 0))
  ch : Ch (FN p m v) w0 wB
  g1o : v.ownBlock = some g1 ∨ w0.heap.size ≤ g1
  lg : w0.heap.size ≤ g
  vlt : ∀ k, FN p m v k → k < w0.heap.size
  mnp : m ≠ p
  g1p : g1 ≠ p
  g1m : g1 ≠ m
section
variable {w0 wA wB wC : World} {p m n g1 cap g : Nat} {v u : Value} {l : List ByteArray} {b : ByteArray}
theorem AdA.keepS (h : AdA w0 wA p m n v l b g) (c : Below wA.heap.size wA wB) : wB.cell? ⟨p, 0, none⟩ = some v ∧ wB.heap[g]? = some (.cells (kcs b) 33 (0, 0)) :=
  ⟨cell_up c h.np.c0, (c.block g (Array.getElem?_eq_some_iff.1 h.key).1).trans h.key⟩
theorem AdA.add (h : AdA w0 wA p m n v l b g) {o : Obj} (hown : wB.ownsRow 0 33 16 (.slice (some ⟨g1, 0, none⟩) (n + 1) cap) (n + 1) (kcl l ++ kcl [b])) (hg : (wA.drew.alloc o).grownBy wB v.ownBlock) (hat : v.ownBlock = some g1 ∨ g1 = (wA.drew.alloc o).heap.size) :
    AdB w0 wB p m n g1 cap v v l b g := by
  have hz : (wA.drew.alloc o).heap.size = wA.heap.size + 1 := by simp
  have hbk : ∀ k, k < wA.heap.size → v.ownBlock ≠ some k → wB.heap[k]? = wA.heap[k]? := fun k hk hne =>
    (hg.block k (by omega) (Ne.symm hne)).trans (Below.heap_alloc wA.drew o k hk)
  have hp : wB.heap[p]? = wA.heap[p]? := hbk p (h.np.lt p (Or.inl rfl)) (fun e => h.np.vnp p e rfl)
  have hm : wB.heap[m]? = wA.heap[m]? := hbk m (h.np.lt m (Or.inr (Or.inl rfl))) (fun e => h.np.vnm m e rfl)
  have hgl := (Array.getElem?_eq_some_iff.1 h.key).1
  have hs := h.bel.size
  refine ⟨(World.cell?_of_block (a := ⟨p, 0, none⟩) hp).trans h.np.c0, (World.cell?_of_block (a := ⟨p, 1, none⟩) hp).trans h.np.c1, fun k => (World.frozen?_of_block (a := ⟨p, k, none⟩) hp).trans (h.np.z k), by rw [kcl_app]; exact hown, by have := h.np.mp.same hm; rw [h.hn] at this; exact this, (hbk g hgl (fun e => by have := h.vlt g (Or.inr (Or.inr e)); have := h.lg; omega)).trans h.key, ?_, ?_, h.lg, h.vlt, h.np.mnp, ?_, ?_⟩
  · have hgs := hg.size
    refine ⟨hg.os.trans h.bel.os, ?_, hg.output.trans h.bel.output, by omega, fun k hk hF => ?_⟩
    · exact hg.tape.trans h.bel.tape
    · exact (hbk k (by omega) (fun e => hF (Or.inr (Or.inr e)))).trans (h.bel.block k hk)
  · rcases hat with e | e
    · exact Or.inl e
    · right; omega
  · rcases hat with e | e
    · exact h.np.vnp g1 e
    · have := h.np.lt p (Or.inl rfl); omega
  · rcases hat with e | e
    · exact h.np.vnm g1 e
    · have := h.np.lt m (Or.inr (Or.inl rfl)); omega
theorem AdB.keepS (h : AdB w0 wB p m n g1 cap v u l b g) : wB.cell? ⟨p, 0, none⟩ = some u ∧ wB.heap[g]? = some (.cells (kcs b) 33 (0, 0)) := ⟨h.c0, h.key⟩
theorem AdB.gp (h : AdB w0 wB p m n g1 cap v u l b g) : g ≠ p := by
  have := h.vlt p (Or.inl rfl); have := h.lg; omega
theorem AdB.set (h : AdB w0 wB p m n g1 cap v u l b g) (x : Value) : AdB w0 (wB.setCell ⟨p, 0, none⟩ x) p m n g1 cap v x l b g := by
  have far : ∀ k, k ≠ p → (wB.setCell ⟨p, 0, none⟩ x).heap[k]? = wB.heap[k]? := fun k hk => Below.heap_setCell _ _ _ _ hk
  refine ⟨World.cell?_setCell_same _ _ _ h.c0, (World.cell?_setCell_other _ _ _ _ (by simp)).trans h.c1, fun k => (World.frozen?_setCell _ _ _ _).trans (h.z k), row_same h.own (fun k hk => ?_), h.mp.same (far m h.mnp), (far g h.gp).trans h.key, ?_, h.g1o, h.lg, h.vlt, h.mnp, h.g1p, h.g1m⟩
  · injection hk with hk; subst hk; exact far _ h.g1p
  · refine ⟨h.ch.os, h.ch.tape, h.ch.output, by simpa using h.ch.size, fun k hk hF => ?_⟩
    exact (far k (fun e => hF (Or.inl e))).trans (h.ch.block k hk hF)
theorem AdB.drew (h : AdB w0 wB p m n g1 cap v u l b g) : AdB w0 wB.drew p m n g1 cap v u l b g :=
  ⟨h.c0, h.c1, h.z, h.own, h.mp.same rfl, h.key, ⟨h.ch.os, h.ch.tape, h.ch.output, h.ch.size, h.ch.block⟩, h.g1o, h.lg, h.vlt, h.mnp, h.g1p, h.g1m⟩
theorem AdB.last (h : AdB w0 wB p m n g1 cap v (.slice (some ⟨g1, 0, none⟩) (n + 1) cap) l b g) (hn : l.length = n) (hp : posR l b = none) (hb : 0 ≤ argsR b) (hrt : ∀ x ∈ l, 0 ≤ argsR x) (hnd : l.Nodup) (hl : n < 48)
    (hm : MapK wC m (n + 1) (updM (numM l) b.data.toList (some (n : Nat)))) (hg : wB.grownBy wC (some m)) :
    NP wC p m (.slice (some ⟨g1, 0, none⟩) (n + 1) cap) (l ++ [b]) ∧ Ch (FN p m v) w0 wC ∧ (v.ownBlock = some g1 ∨ w0.heap.size ≤ g1) := by
  have hpl : p < wB.heap.size := World.block_lt_of_cell? wB _ h.c0
  have hpb : wC.heap[p]? = wB.heap[p]? := hg.block p hpl (by intro e; injection e with e; exact h.mnp e.symm)
  have hlen : (l ++ [b]).length = n + 1 := by simp [hn]
  refine ⟨⟨(World.cell?_of_block (a := ⟨p, 0, none⟩) hpb).trans h.c0, (World.cell?_of_block (a := ⟨p, 1, none⟩) hpb).trans h.c1, fun k => (World.frozen?_of_block (a := ⟨p, k, none⟩) hpb).trans (h.z k), ?_, ?_, h.mnp, ?_, ?_, ?_, ?_, by omega⟩, ?_, h.g1o⟩
  · rw [hlen]
    refine row_same h.own (fun k hk => hg.block k (h.own.lt k hk).2 ?_)
    injection hk with hk; subst hk
    intro e; injection e with e; exact h.g1m e
  · rw [hlen]
    exact hm.eq (fun q _ => numM_add hp hn q)
  · intro k hk; injection hk with hk; subst hk; exact h.g1p
  · intro k hk; injection hk with hk; subst hk; exact h.g1m
  · intro x hx
    rcases List.mem_append.1 hx with hx | hx
    · exact hrt x hx
    · rw [List.mem_singleton.1 hx]; exact hb
  · rw [List.nodup_append]
    exact ⟨hnd, by simp, fun x hx y hy e => pos_none hp (by rw [← List.mem_singleton.1 hy, ← e]; exact hx)⟩
  · refine h.ch.trans ⟨hg.os, hg.tape, hg.output, hg.size, fun k hk hF => hg.block k hk (fun e => hF (Or.inr (Or.inl (Option.some.inj e))))⟩
end
set_option maxHeartbeats 32000000 in
theorem kint_add {w : World} {p m : Nat} {v : Value} {l : List ByteArray} (h : NP w p m v l) {b : ByteArray} (hp : posR l b = none) (hb : 0 ≤ argsR b) {n : Nat} (hn : l.length = n) (hl : n < 48) :
    Calls Try.prog 12 #[.pointer (some ⟨p, 0, none⟩), .string b] w fun e w' => ∃ g1 cap, e = .returned (.int .i64 (n : Nat)) ∧ NP w' p m (.slice (some ⟨g1, 0, none⟩) (n + 1) cap) (l ++ [b]) ∧ Ch (FN p m v) w w' ∧ (v.ownBlock = some g1 ∨ w.heap.size ≤ g1) := by
  have PF := kfind_c h b
  rw [pos_none_find hp] at PF
  have PO := fun w => kof_y b w hb
  obtain ⟨ad, cp, rfl⟩ := h.form
  rw [hn] at h ⊢
  have hmx : 100000 ≤ maxLen := by decide
  obtain ⟨i0, hi0, hz0, hz1, hz2⟩ := info_parts2 infoKy
  obtain ⟨d, hd1, hd2⟩ := rowKey
  replace hd1 := Lib.hid hd1
  replace hd2 := Lib.hid hd2
  have hNP : Hid (∀ w1, Below w.heap.size w w1 → NP w1 p m (.slice ad n cp) l) := Lib.hid (fun w1 c => h.keep c)
  have hlt : Hid (∀ k, FN p m (.slice ad n cp) k → k < w.heap.size) := Lib.hid h.lt
  have hfix : Hid (posR l b = none ∧ 0 ≤ argsR b ∧ (∀ x ∈ l, 0 ≤ argsR x) ∧ l.Nodup ∧ l.length = n) := Lib.hid ⟨hp, hb, h.rt, h.nd, hn⟩
  clear h hp hb hn
  have hl' : ((n : Int) == 48) = false := by rw [beq_eq_false_iff_ne]; omega
  unfold kcs at PO
  go_enter Try.func12, Try.ntmps12
  go_wp2_with fail
  refine PF.mono ?_
  rintro e w1 ⟨rfl, hb1⟩
  clear PF
  go_wp2_with fail
  refine (PO w1).mono ?_
  rintro e w2 ⟨rfl, hb2⟩
  replace hb2 := hb1.trans (hb2.mono hb1.size)
  have c0 := (hNP.out w2 hb2).c0
  have lp : p < w2.heap.size := (hNP.out w2 hb2).lt p (Or.inl rfl)
  clear PO hb1
  go_upto_region 8 with fail
  have hA : AdA w (w2.alloc (.cells #[.int .u8 (kn b 0), .int .u8 (kn b 1), .int .u8 (kn b 2), .int .u8 (kn b 3), .int .u8 (kn b 4), .int .u8 (kn b 5), .int .u8 (kn b 6), .int .u8 (kn b 7), .int .u8 (kn b 8), .int .u8 (kn b 9), .int .u8 (kn b 10), .int .u8 (kn b 11), .int .u8 (kn b 12), .int .u8 (kn b 13), .int .u8 (kn b 14), .int .u8 (kn b 15)] 33)) p m n (.slice ad n cp) l b w2.heap.size :=
    ⟨hNP.out _ (hb2.alloc hb2.size _), heap_alloc_new w2 _, hb2.alloc hb2.size _, hb2.size, hlt.out, hfix.out.2.2.2.2⟩
  replace hA := Lib.hid hA
  have hS0 := hA.out.keepS ((Below.refl _ _).drew)
  generalize w2.alloc (.cells #[.int .u8 (kn b 0), .int .u8 (kn b 1), .int .u8 (kn b 2), .int .u8 (kn b 3), .int .u8 (kn b 4), .int .u8 (kn b 5), .int .u8 (kn b 6), .int .u8 (kn b 7), .int .u8 (kn b 8), .int .u8 (kn b 9), .int .u8 (kn b 10), .int .u8 (kn b 11), .int .u8 (kn b 12), .int .u8 (kn b 13), .int .u8 (kn b 14), .int .u8 (kn b 15)] 33) = wA at *
  clear c0 lp hb2 hNP
  generalize w2.heap.size = g at *
  refine wp_region_last (d := 10) (fuel := 10) (S := (fun wr' => wr'.cell? ⟨p, 0, none⟩ = some (.slice ad n cp) ∧ wr'.heap[g]? = some (.cells #[.int .u8 (kn b 0), .int .u8 (kn b 1), .int .u8 (kn b 2), .int .u8 (kn b 3), .int .u8 (kn b 4), .int .u8 (kn b 5), .int .u8 (kn b 6), .int .u8 (kn b 7), .int .u8 (kn b 8), .int .u8 (kn b 9), .int .u8 (kn b 10), .int .u8 (kn b 11), .int .u8 (kn b 12), .int .u8 (kn b 13), .int .u8 (kn b 14), .int .u8 (kn b 15)] 33 (0, 0)))) (by kernel_rfl) (by kernel_rfl) rfl ?_ (fun hHeld => ?_)
  · (try dsimp only); exact hS0
  try simp only [Act.put, List.setIfInBounds_toArray, List.set_cons_zero, List.set_cons_succ]
  refine wpAnyH_take (i := 0) (oi := { dst := some 35, op := Op.move (Operand.tmp 0), type := 29, pos := "name.go:73", after := #[], guard := none }) (v := ?_) rfl (by kernel_rfl) (by kernel_rfl) (by kernel_rfl) (fun _ _ _ h => h) (Or.inl ⟨by rfl, ?_⟩) (by assumption) ?_
  rotate_left 1
  · intro w hSw; (try dsimp only at hSw); go_simp <;> with_reducible rfl
  try simp only [Act.put, List.setIfInBounds_toArray, List.set_cons_zero, List.set_cons_succ]
  refine wpAnyH_take (i := 1) (oi := { dst := some 36, op := Op.move (Operand.tmp 0), type := 29, pos := "name.go:73", after := #[], guard := none }) (v := ?_) rfl (by kernel_rfl) (by kernel_rfl) (by kernel_rfl) (fun _ _ _ h => h) (Or.inl ⟨by rfl, ?_⟩) (by assumption) ?_
  rotate_left 1
  · intro w hSw; (try dsimp only at hSw); go_simp <;> with_reducible rfl
  try simp only [Act.put, List.setIfInBounds_toArray, List.set_cons_zero, List.set_cons_succ]
  refine wpAnyH_take (i := 2) (oi := { dst := some 37, op := Op.nilCheck (Operand.tmp 36), type := 0, pos := "name.go:73", after := #[{ on := 1, ground := Ground.data }], guard := none }) (v := ?_) rfl (by kernel_rfl) (by kernel_rfl) (by kernel_rfl) (fun _ _ _ h => h) (Or.inl ⟨by rfl, ?_⟩) (by assumption) ?_
  rotate_left 1
  · intro w hSw; (try dsimp only at hSw); go_simp <;> with_reducible rfl
  try simp only [Act.put, List.setIfInBounds_toArray, List.set_cons_zero, List.set_cons_succ]
  refine wpAnyH_take (i := 3) (oi := { dst := some 38, op := Op.fieldAddr 43 (Operand.tmp 37) 0, type := 0, pos := "name.go:73", after := #[{ on := 2, ground := Ground.data }], guard := none }) (v := ?_) rfl (by kernel_rfl) (by kernel_rfl) (by kernel_rfl) (fun _ _ _ h => h) (Or.inl ⟨by rfl, ?_⟩) (by assumption) ?_
  rotate_left 1
  · intro w hSw; (try dsimp only at hSw); go_simp <;> with_reducible rfl
  try simp only [Act.put, List.setIfInBounds_toArray, List.set_cons_zero, List.set_cons_succ]
  refine wpAnyH_take (i := 4) (oi := { dst := some 39, op := Op.load 41 (Operand.tmp 38), type := 41, pos := "name.go:73", after := #[{ on := 3, ground := Ground.data }], guard := none }) (v := ?_) rfl (by kernel_rfl) (by kernel_rfl) (by kernel_rfl) (fun _ _ _ h => h) (Or.inl ⟨by rfl, ?_⟩) (by assumption) ?_
  rotate_left 1
  · intro w hSw; (try dsimp only at hSw); go_simp <;> with_reducible rfl
  try simp only [Act.put, List.setIfInBounds_toArray, List.set_cons_zero, List.set_cons_succ]
  refine wpAnyH_take (i := 5) (oi := { dst := some 40, op := Op.load 33 (Operand.tmp 6), type := 33, pos := "name.go:73", after := #[], guard := none }) (v := .agg #[.int .u8 (kn b 0), .int .u8 (kn b 1), .int .u8 (kn b 2), .int .u8 (kn b 3), .int .u8 (kn b 4), .int .u8 (kn b 5), .int .u8 (kn b 6), .int .u8 (kn b 7), .int .u8 (kn b 8), .int .u8 (kn b 9), .int .u8 (kn b 10), .int .u8 (kn b 11), .int .u8 (kn b 12), .int .u8 (kn b 13), .int .u8 (kn b 14), .int .u8 (kn b 15)]) rfl (by kernel_rfl) (by kernel_rfl) (by kernel_rfl) (fun _ _ _ h => h) (yieldsIf_load_mid (by rfl) _ _ rfl g 0 rfl [.int .u8 (kn b 0), .int .u8 (kn b 1), .int .u8 (kn b 2), .int .u8 (kn b 3), .int .u8 (kn b 4), .int .u8 (kn b 5), .int .u8 (kn b 6), .int .u8 (kn b 7), .int .u8 (kn b 8), .int .u8 (kn b 9), .int .u8 (kn b 10), .int .u8 (kn b 11), .int .u8 (kn b 12), .int .u8 (kn b 13), .int .u8 (kn b 14), .int .u8 (kn b 15)] d (fun w hw => range_of hw.2 rfl) hd1.out hd2.out (by rw [infoKey]; rfl)) (by assumption) ?_
  try simp only [Act.put, List.setIfInBounds_toArray, List.set_cons_zero, List.set_cons_succ]
  refine wpAnyH_ready (rs := [6]) (by kernel_rfl) (by simp) ?_
  refine AllReadyH.cons (o := { dst := some 41, op := Op.buildSlice 41 1 #[(0, Operand.tmp 40)], type := 41, pos := "name.go:73", after := #[{ on := 5, ground := Ground.data }], guard := none }) rfl (fun K9 hK => ?_) ?_
  · go_simp
    have hS1 := hA.out.keepS ((Below.refl wA.heap.size wA).drew.alloc (Nat.le_refl _) (.cells #[.int .u8 (kn b 0), .int .u8 (kn b 1), .int .u8 (kn b 2), .int .u8 (kn b 3), .int .u8 (kn b 4), .int .u8 (kn b 5), .int .u8 (kn b 6), .int .u8 (kn b 7), .int .u8 (kn b 8), .int .u8 (kn b 9), .int .u8 (kn b 10), .int .u8 (kn b 11), .int .u8 (kn b 12), .int .u8 (kn b 13), .int .u8 (kn b 14), .int .u8 (kn b 15)] 33))
    refine hK.out _ _ ?_ ?_
    · (try dsimp only); exact hS1
    clear hK K9 hHeld; intro hHeld
    try simp only [Act.put, List.setIfInBounds_toArray, List.set_cons_zero, List.set_cons_succ]
    refine wpAnyH_ready (rs := [7]) (by kernel_rfl) (by simp) ?_
    refine AllReadyH.cons (o := { dst := some 42, op := Op.call { callee := Callee.builtin Builtin.append, args := #[Operand.tmp 39, Operand.tmp 41], argTypes := #[41, 41] }, type := 41, pos := "name.go:73", after := #[{ on := 4, ground := Ground.data }, { on := 6, ground := Ground.data }], guard := none }) rfl (fun K9 hK => ?_) ?_
    · refine step_append_lies _ rfl (.tmp 39) (.tmp 41) 41 rfl 0 33 i0 (.agg zcs) 16 16 Try.underlying41 hi0 hz0 hz1 hz2 rfl (by decide) (.slice ad n cp) n _ rfl (by have := (hA.out.np.own.drew).alloc (.cells (kcs b) 33); rw [hA.out.hn] at this; exact this) ⟨wA.heap.size, 0, none⟩ 1 1 (kcl [b]) rfl (by simp [kcl_len]) (rd_key wA.drew b _ rfl) (kcl_one _) (by omega) (by omega) (by omega) (by omega) _ rfl ?_
      intro g1 cap1 wh hown1 hgrow1 hat1 hlt1
      have hN := Lib.hid (hA.out.add hown1 hgrow1 hat1)
      have hS2 := hN.out.keepS
      have hz8 := hN.out.z 0
      clear hown1 hgrow1 hat1 hlt1 hS1
      refine hK.out _ _ ?_ ?_
      · (try dsimp only); exact hS2
      clear hK K9 hHeld; intro hHeld
      try simp only [Act.put, List.setIfInBounds_toArray, List.set_cons_zero, List.set_cons_succ]
      refine wpAnyH_take (i := 8) (oi := { dst := some 43, op := Op.nilCheck (Operand.tmp 35), type := 0, pos := "name.go:73", after := #[{ on := 0, ground := Ground.data }, { on := 0, ground := Ground.phase }, { on := 1, ground := Ground.phase }, { on := 2, ground := Ground.phase }, { on := 3, ground := Ground.phase }, { on := 4, ground := Ground.phase }, { on := 5, ground := Ground.phase }, { on := 6, ground := Ground.phase }, { on := 7, ground := Ground.phase }], guard := none }) (v := ?_) rfl (by kernel_rfl) (by kernel_rfl) (by kernel_rfl) (fun _ _ _ h => h) (Or.inl ⟨by rfl, ?_⟩) (by assumption) ?_
      rotate_left 1
      · intro w hSw; (try dsimp only at hSw); go_simp <;> with_reducible rfl
      try simp only [Act.put, List.setIfInBounds_toArray, List.set_cons_zero, List.set_cons_succ]
      refine wpAnyH_take (i := 9) (oi := { dst := some 44, op := Op.fieldAddr 43 (Operand.tmp 43) 0, type := 0, pos := "name.go:73", after := #[{ on := 8, ground := Ground.data }, { on := 0, ground := Ground.phase }, { on := 1, ground := Ground.phase }, { on := 2, ground := Ground.phase }, { on := 3, ground := Ground.phase }, { on := 4, ground := Ground.phase }, { on := 5, ground := Ground.phase }, { on := 6, ground := Ground.phase }, { on := 7, ground := Ground.phase }], guard := none }) (v := ?_) rfl (by kernel_rfl) (by kernel_rfl) (by kernel_rfl) (fun _ _ _ h => h) (Or.inl ⟨by rfl, ?_⟩) (by assumption) ?_
      rotate_left 1
      · intro w hSw; (try dsimp only at hSw); go_simp <;> with_reducible rfl
      try simp only [Act.put, List.setIfInBounds_toArray, List.set_cons_zero, List.set_cons_succ]
      refine last_step (o := { dst := none, op := Op.store 41 (Operand.tmp 44) (Operand.tmp 42), type := 0, pos := "name.go:73", after := #[{ on := 9, ground := Ground.data }, { on := 7, ground := Ground.data }, { on := 7, ground := Ground.chain }, { on := 0, ground := Ground.phase }, { on := 1, ground := Ground.phase }, { on := 2, ground := Ground.phase }, { on := 3, ground := Ground.phase }, { on := 4, ground := Ground.phase }, { on := 5, ground := Ground.phase }, { on := 6, ground := Ground.phase }, { on := 7, ground := Ground.phase }], guard := none }) rfl (by kernel_rfl) (fun K hK => ?_)
      go_simp
      refine hK.out _ _ ?_
      clear hK K
      try simp only [Act.put, List.setIfInBounds_toArray, List.set_cons_zero, List.set_cons_succ]
      have hN2 := Lib.hid (hN.out.set (.slice (some ⟨g1, 0, none⟩) (n + 1) cap1))
      clear hS0 hS2 hz8 hA hHeld hN hlt
      generalize wh.setCell ⟨p, 0, none⟩ (.slice (some ⟨g1, 0, none⟩) (n + 1) cap1) = wB at *
      have hM : (numM l b.data.toList).isSome = false := by rw [numM_of, hfix.out.1]; rfl
      obtain ⟨w4, hrun, hm4, hg4, hz4⟩ := hN2.out.drew.mp.put (by omega) (kk_right hfix.out.2.1) (v := ((n : Nat) : Int)) (WalkArith.wf_i64 ⟨by omega, by omega⟩)
      rw [hM, if_neg Bool.false_ne_true] at hm4
      rw [← kcs_key, kcs_lit] at hrun
      have hF := Lib.hid (hN2.out.drew.last hfix.out.2.2.2.2 hfix.out.1 hfix.out.2.1 hfix.out.2.2.1 hfix.out.2.2.2.1 (by omega) hm4 hg4)
      have c1 := hN2.out.c1
      obtain ⟨a0, a1, a2, a3, a4, a5, a6, a7, a8, a9, a10, a11, a12, a13, a14, a15⟩ := kcs_cells hN2.out.key
      clear hm4 hg4 hz4 hM hN2 hfix hd1 hd2 hi0 hz0 hz1 hz2
      go_wp2_with fail
      go_region
      go_wp2
      go_ret
      first | exact ⟨_, _, rfl, hF.out⟩ | exact ⟨⟨_, _, rfl⟩, hF.out⟩
    exact AllReadyH.nil
  exact AllReadyH.nil
end Wd
end Go.Proofs.Ytbefmkkmkjogcaa
