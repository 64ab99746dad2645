/- Texts joined: WQ, WR, UTC, UTM. -/
import Derived.Test.YteiejjmhmmkdhaaJ3
import Derived.Test.YteiejjmhmmkdhaaJ8
import Derived.Test.YteiejjmhmmkdhaaJ14
/- The walk: identities are told one by one, what is put stays. -/
namespace Go.Proofs.Yteiejjmhmmkdhaa
open Go.RowKit
set_option linter.unusedVariables false
set_option maxRecDepth 20000
namespace Wd
/-- the store, and a row of words beside it -/
structure KpS (w0 wr : World) (p : Nat) (L : List Ob8) (v : Value) (n : Nat) (W : List Value) : Prop where
  ex : ∃ F, IA p wr L F ∧ Below w0.heap.size w0 wr ∧ (∀ k, F k → w0.heap.size ≤ k) ∧ wr.ownsRow 0 43 1 v n W ∧ ∀ k, v.ownBlock = some k → ¬ F k ∧ w0.heap.size ≤ k
section
variable {w0 w w' w2 : World} {p n : Nat} {L : List Ob8} {v v' : Value} {W : List Value}
theorem KpS.is (h : KpS w0 w p L v n W) : IS w0 w p L := by
  obtain ⟨F, h1, h2, h3, _⟩ := h.ex
  exact ⟨F, h1, h2, h3⟩
theorem KpS.row (h : KpS w0 w p L v n W) : w.ownsRow 0 43 1 v n W := by
  obtain ⟨F, h1, h2, h3, h4, h5⟩ := h.ex
  exact h4
theorem KpS.begin (h : IS w0 w p L) : KpS w0 w p L (.slice none 0 0) 0 [] := by
  obtain ⟨F, h1, h2, h3⟩ := h
  exact ⟨F, h1, h2, h3, ⟨by simp, Or.inl ⟨rfl, rfl⟩⟩, fun k e => by simp [Value.ownBlock] at e⟩
theorem KpS.up (h : KpS w0 w p L v n W) (b : Below w.heap.size w w') : KpS w0 w' p L v n W := by
  obtain ⟨F, h1, h2, h3, h4, h5⟩ := h.ex
  exact ⟨F, h1.same b.size (fun k hk => b.block k (h1.lt k hk)), h2.trans (b.mono h2.size), h3, own_same h4 (fun k hk => b.block k (own_lt h4 k hk)) b.size, h5⟩
theorem kp_alloc (h : KpS w0 w p L v n W) (c m : Int) (hl : L.length ≤ 10000) (hc : b64 c) (hn : b64 m) : Calls Try.prog 13 #[pV p, .int .i64 c, .int .i64 m] w fun e w' => e = .returned (.int .i64 (alI L c m)) ∧ KpS w0 w' p (alL L c m) v n W := by
  obtain ⟨F, h1, h2, h3, h4, h5⟩ := h.ex
  refine (ia_alloc c m h1 hl hc hn).mono ?_
  rintro e w' ⟨rfl, F', g1, g2, g3⟩
  refine ⟨rfl, F', g1, h2.trans (g2.toB h2.size h3), fun k hk => (g3 k hk).elim (h3 k) (fun e => Nat.le_trans h2.size e), own_same h4 (fun k hk => g2.block k (own_lt h4 k hk) (h5 k hk).1) g2.size, fun k hk => ⟨fun hF => ?_, (h5 k hk).2⟩⟩
  rcases g3 k hF with e | e
  · exact (h5 k hk).1 e
  · have := own_lt h4 k hk; omega
theorem kp_put (h : KpS w0 w p L v n W) (id i x : Int) (hl : L.length ≤ 10000) (hi : b64 id) (hj : b64 i) (hx : b32 x) : Calls Try.prog 14 #[pV p, .int .i64 id, .int .i64 i, .int .u32 x] w fun e w' => e = .returned (.bool (puB L id i x)) ∧ KpS w0 w' p (puL L id i x) v n W := by
  obtain ⟨F, h1, h2, h3, h4, h5⟩ := h.ex
  refine (ia_put id i x h1 hl hi hj hx).mono ?_
  rintro e w' ⟨rfl, g1, g2⟩
  exact ⟨rfl, F, g1, h2.trans (g2.toB h2.size h3), h3, own_same h4 (fun k hk => g2.block k (own_lt h4 k hk) (h5 k hk).1) g2.size, h5⟩
theorem KpS.app (h : KpS w0 w p L v n W) {u : Value} (ho : w2.ownsRow 0 43 1 v' (n + 1) (W ++ [u])) {o : Obj} (hg : (w.alloc o).grownBy w2 v.ownBlock) (hv : v'.ownBlock = v.ownBlock ∨ v'.ownBlock = some (w.alloc o).heap.size) : KpS w0 w2 p L v' (n + 1) (W ++ [u]) := by
  obtain ⟨F, h1, h2, h3, h4, h5⟩ := h.ex
  have hs : (w.alloc o).heap.size = w.heap.size + 1 := by simp
  have hz := hg.size
  have hb := h2.size
  have e1 : ∀ k, k < w.heap.size → v.ownBlock ≠ some k → w2.heap[k]? = w.heap[k]? := fun k hk hne => (hg.block k (by omega) (fun e => hne e.symm)).trans (Below.heap_alloc _ _ _ hk)
  refine ⟨F, h1.same (by omega) (fun k hk => e1 k (h1.lt k hk) (fun e => (h5 k e).1 hk)), ⟨hg.os.trans h2.os, hg.tape.trans h2.tape, hg.output.trans h2.output, by omega, fun k hk => (e1 k (by omega) (fun e => by have := (h5 k e).2; omega)).trans (h2.block k hk)⟩, h3, ho, fun k hk => ?_⟩
  rcases hv with e | e
  · exact h5 k (by rw [← e]; exact hk)
  · rw [e] at hk
    have := Option.some.inj hk
    exact ⟨fun hF => by have := h1.lt k hF; omega, by omega⟩
end
theorem if_y {c : Prop} [Decidable c] {A B : Prop} (hc : c) (ha : A) : if c then A else B := by rw [if_pos hc]; exact ha
def WK (f : Nat → Int × Int × Int × Int) (i : Nat) : List Value := (List.range i).map (fun k => Value.int .u32 (kv (f k).2.2.2))
theorem WK_succ (f) (i : Nat) : WK f (i + 1) = WK f i ++ [.int .u32 (kv (f i).2.2.2)] := by simp [WK, List.range_succ]
theorem WK_at (f) {i k : Nat} (h : k < i) : (WK f i)[k]? = some (.int .u32 (kv (f k).2.2.2)) := by simp [WK, h]
set_option maxHeartbeats 64000000 in
theorem keeps_s {w : World} {ad : Option Addr} {n cap : Nat} (HA : AskV8 w ad n) (hn : n * 32 ≤ 140737488351232) :
    Calls Try.prog 4 #[.slice ad n cap] w fun e w' => e = .returned (.bool true) ∧ Below w.heap.size w w' := by
  obtain ⟨f, hf0⟩ := HA.fn
  have hf := Lib.hid hf0
  obtain ⟨i0, hi0, hz0, hz1, hz2⟩ := infoP8 infoW8
  clear HA hf0
  go_enter Try.func4, Try.ntmps4
  go_upto_region 5 with (go_at_call 6; refine (is_new (Below.refl _ _)).mono ?_; rintro e w1 ⟨p, rfl, h1, _⟩; have hS := Lib.hid (KpS.begin h1); clear h1)
  go_wp2
  go_loopw [4, 5] (fun x4 x5 wr => ∃ (i : Nat) (v : Value), i ≤ n ∧ i ≤ 60 ∧ x5 = .int .i64 i ∧ x4 = v ∧ Hid (KpS w wr p (LK f i) v i (WK f i))) (fun _ x5 _ => 60 - (intOf x5).toNat)
  case atStart => exact ⟨0, _, by omega, by omega, rfl, rfl, hS⟩
  case round =>
    clear hS
    obtain ⟨i, v, hi, hi6, rfl, rfl, hS⟩ := hrel
    obtain ⟨va, vc, e, _⟩ := own_form hS.out.row
    subst e
    by_cases hlt : i < n
    · have d1 : decide ((i : Int) < (n : Int)) = true := by simp; omega
      by_cases hl6 : i < 60
      · as_aux_lemma =>
        have d2 : decide ((i : Int) < 60) = true := by simp; omega
        obtain ⟨⟨_, b1, b2, b3⟩, g, off, rfl, a0, a1, a2, a3⟩ := hf.out i hlt
        replace a1 := cell_up hS.out.is.bel a1
        replace a2 := cell_up hS.out.is.bel a2
        replace a3 := cell_up hS.out.is.bel a3
        have p0 : (0 : Int) ≤ (i : Int) := by omega
        have p1 : (i : Int) < (n : Int) := by omega
        have k1 := kc_bd (f i).2.1
        have k2 := kj_bd (f i).2.2.1
        have k3 := kv_bd (f i).2.2.2
        have q1 : bits .and .i64 (f i).2.1 15 = kc (f i).2.1 := rfl
        have q2 : bits .and .i64 (f i).2.2.1 7 = kj (f i).2.2.1 := rfl
        have q3 : bits .or .u32 ((f i).2.2.2 % 4294967296) 1 = kv (f i).2.2.2 := rfl
        have PA := Lib.hid (fun (W : World) (b : Below wr.heap.size wr W) => kp_alloc (hS.out.up b) (kc (f i).2.1) (1 + kj (f i).2.2.1) (by rw [LK_len]; omega) ⟨by omega, by omega⟩ ⟨by omega, by omega⟩)
        rw [(LK_al f i).1, (LK_al f i).2] at PA
        have PP := Lib.hid (fun (W : World) (h : KpS w W p (LK f i ++ [newO (kc (f i).2.1) (1 + kj (f i).2.2.1)]) (.slice va i vc) i (WK f i)) => kp_put h (4 + (i : Int)) (kj (f i).2.2.1) (kv (f i).2.2.2) (by rw [List.length_append, LK_len, List.length_singleton]; omega) ⟨by omega, by omega⟩ ⟨by omega, by omega⟩ ⟨by omega, by omega⟩)
        rw [(LK_pu f i).1, (LK_pu f i).2] at PP
        have hws := Lib.hid (WK_succ f i)
        have w1 : IntKind.i64.wrap (1 + kj (f i).2.2.1) = 1 + kj (f i).2.2.1 := by rw [IntKind.wrap_i64]; omega
        have w2 : IntKind.i64.wrap (4 + (i : Int)) = 4 + (i : Int) := by rw [IntKind.wrap_i64]; omega
        have w3 : IntKind.i64.wrap ((i : Int) + 1) = ((i + 1 : Nat) : Int) := by rw [IntKind.wrap_i64]; omega
        have hmx : Hid (i + 1 ≤ maxLen) := Lib.hid (by simp only [maxLen]; omega)
        have hbx : Hid ((i + 1) * 4 ≤ 140737488355328) := Lib.hid (by omega)
        have hrd := Lib.hid (fun (W : World) (b : Below wr.heap.size wr W) => (⟨cell_up b a1, cell_up b a2⟩ : _ ∧ _))
        have hcl := Lib.hid (fun (W : World) (h : KpS w W p (LK f i ++ [newO (kc (f i).2.1) (1 + kj (f i).2.2.1)]) (.slice va i vc) i (WK f i)) => (by
          obtain ⟨_, g', off', e, c0, c1, c2, c3⟩ := hf.out i hlt
          cases e
          exact ⟨cell_up h.is.bel c1, cell_up h.is.bel c2, cell_up h.is.bel c3⟩ : W.cell? ⟨g, off + i * 4 + 1, none⟩ = some (.int .i64 (f i).2.1) ∧ W.cell? ⟨g, off + i * 4 + 2, none⟩ = some (.int .i64 (f i).2.2.1) ∧ W.cell? ⟨g, off + i * 4 + 3, none⟩ = some (.int .i64 (f i).2.2.2)))
        have hi1 : i + 1 ≤ n := by omega
        have hi61 : i + 1 ≤ 60 := by omega
        clear k1 k2 k3 b1 b2 b3 a0 hlt hl6 hf hn
        generalize kc (f i).2.1 = c at *
        generalize kj (f i).2.2.1 = j at *
        generalize kv (f i).2.2.2 = y at *
        generalize (f i).2.1 = yI at *
        generalize (f i).2.2.1 = zI at *
        generalize (f i).2.2.2 = uI at *
        go_upto_region 8 with fail
        refine wp_region_held_drew (S := (fun wr' => wr'.cell? ⟨g, off + i * 4 + 1, none⟩ = some (.int .i64 yI) ∧ wr'.cell? ⟨g, off + i * 4 + 2, none⟩ = some (.int .i64 zI))) (by kernel_rfl) ?_ (fun hHeld => ?_)
        · (try dsimp only); exact ⟨a1, a2⟩
        try simp only [Act.put, nA]
        refine tk (i := 0) (oi := ⟨some 24, .move (.tmp 3), 33, "law.go:181", #[], none⟩) (hy := by intro w hSw; (try dsimp only at hSw); obtain ⟨q0, q1⟩ := hSw; go_simp <;> with_reducible rfl) ?_
        try simp only [Act.put, nA]
        refine tk (i := 1) (oi := ⟨some 25, .move (.tmp 0), 50, "law.go:181", #[], none⟩) (hy := by intro w hSw; (try dsimp only at hSw); obtain ⟨q0, q1⟩ := hSw; go_simp <;> with_reducible rfl) ?_
        try simp only [Act.put, nA]
        refine tk (i := 2) (oi := ⟨some 26, .move (.tmp 5), 3, "law.go:181", #[], none⟩) (hy := by intro w hSw; (try dsimp only at hSw); obtain ⟨q0, q1⟩ := hSw; go_simp <;> with_reducible rfl) ?_
        try simp only [Act.put, nA]
        refine tk (i := 3) (oi := ⟨some 27, .indexAddr 50 (.tmp 25) (.tmp 26), 0, "law.go:181", #[⟨1, .data⟩, ⟨2, .data⟩], none⟩) (hy := by intro w hSw; (try dsimp only at hSw); obtain ⟨q0, q1⟩ := hSw; go_simp <;> with_reducible rfl) ?_
        try simp only [Act.put, nA]
        refine tk (i := 4) (oi := ⟨some 28, .fieldAddr 54 (.tmp 27) 1, 0, "law.go:181", #[⟨3, .data⟩], none⟩) (hy := by intro w hSw; (try dsimp only at hSw); obtain ⟨q0, q1⟩ := hSw; go_simp <;> with_reducible rfl) ?_
        try simp only [Act.put, nA]
        refine tk (i := 5) (oi := ⟨some 29, .load 3 (.tmp 28), 3, "law.go:181", #[⟨4, .data⟩], none⟩) (hy := by intro w hSw; (try dsimp only at hSw); obtain ⟨q0, q1⟩ := hSw; go_simp <;> with_reducible rfl) ?_
        try simp only [Act.put, nA]
        refine tk (i := 6) (oi := ⟨some 30, .binOp .and 3 (.tmp 29) (.const (.int .i64 15)) 3, 3, "law.go:181", #[⟨5, .data⟩], none⟩) (hy := by intro w hSw; (try dsimp only at hSw); obtain ⟨q0, q1⟩ := hSw; go_simp <;> with_reducible rfl) ?_
        try simp only [Act.put, nA]
        refine tk (i := 7) (oi := ⟨some 31, .move (.tmp 0), 50, "law.go:181", #[], none⟩) (hy := by intro w hSw; (try dsimp only at hSw); obtain ⟨q0, q1⟩ := hSw; go_simp <;> with_reducible rfl) ?_
        try simp only [Act.put, nA]
        refine tk (i := 8) (oi := ⟨some 32, .move (.tmp 5), 3, "law.go:181", #[], none⟩) (hy := by intro w hSw; (try dsimp only at hSw); obtain ⟨q0, q1⟩ := hSw; go_simp <;> with_reducible rfl) ?_
        try simp only [Act.put, nA]
        refine tk (i := 9) (oi := ⟨some 33, .indexAddr 50 (.tmp 31) (.tmp 32), 0, "law.go:181", #[⟨7, .data⟩, ⟨8, .data⟩], none⟩) (hy := by intro w hSw; (try dsimp only at hSw); obtain ⟨q0, q1⟩ := hSw; go_simp <;> with_reducible rfl) ?_
        try simp only [Act.put, nA]
        refine tk (i := 10) (oi := ⟨some 34, .fieldAddr 54 (.tmp 33) 2, 0, "law.go:181", #[⟨9, .data⟩], none⟩) (hy := by intro w hSw; (try dsimp only at hSw); obtain ⟨q0, q1⟩ := hSw; go_simp <;> with_reducible rfl) ?_
        try simp only [Act.put, nA]
        refine tk (i := 11) (oi := ⟨some 35, .load 3 (.tmp 34), 3, "law.go:181", #[⟨10, .data⟩], none⟩) (hy := by intro w hSw; (try dsimp only at hSw); obtain ⟨q0, q1⟩ := hSw; go_simp <;> with_reducible rfl) ?_
        try simp only [Act.put, nA]
        refine tk (i := 12) (oi := ⟨some 36, .binOp .and 3 (.tmp 35) (.const (.int .i64 7)) 3, 3, "law.go:181", #[⟨11, .data⟩], none⟩) (hy := by intro w hSw; (try dsimp only at hSw); obtain ⟨q0, q1⟩ := hSw; go_simp <;> with_reducible rfl) ?_
        try simp only [Act.put, nA]
        refine tk (i := 13) (oi := ⟨some 37, .binOp .add 3 (.const (.int .i64 1)) (.tmp 36) 3, 3, "law.go:181", #[⟨12, .data⟩], none⟩) (hy := by intro w hSw; (try dsimp only at hSw); obtain ⟨q0, q1⟩ := hSw; go_simp <;> with_reducible rfl) ?_
        try simp only [Act.put, nA]
        refine wpAnyH_ready (rs := [14]) (by kernel_rfl) (by simp) ?_
        refine AllReadyH.cons (o := ⟨some 38, .call { callee := .value (.func 13), args := #[.tmp 24, .tmp 30, .tmp 37], argTypes := #[33, 3, 3] }, 3, "law.go:181", #[⟨0, .data⟩, ⟨6, .data⟩, ⟨13, .data⟩], none⟩) rfl (fun K9 hK => ?_) AllReadyH.nil
        go_simp
        refine (PA.out _ (Below.refl _ _).drew).mono ?_
        rintro e w5 ⟨rfl, h5⟩
        obtain ⟨e1, e2, e3⟩ := hcl.out _ h5
        replace h5 := Lib.hid h5
        clear a1 a2 a3
        go_wp2_with fail
        refine hK.out _ _ ?_ ?_
        · (try dsimp only); exact ⟨e1, e2⟩
        clear hK K9 hHeld; intro hHeld
        try simp only [Act.put, nA]
        refine tk (i := 15) (oi := ⟨some 6, .assign (.tmp 38), 3, "law.go:181", #[⟨14, .data⟩, ⟨14, .chain⟩, ⟨0, .phase⟩, ⟨1, .phase⟩, ⟨2, .phase⟩, ⟨3, .phase⟩, ⟨4, .phase⟩, ⟨5, .phase⟩, ⟨6, .phase⟩, ⟨7, .phase⟩, ⟨8, .phase⟩, ⟨9, .phase⟩, ⟨10, .phase⟩, ⟨11, .phase⟩, ⟨12, .phase⟩, ⟨13, .phase⟩, ⟨14, .phase⟩], none⟩) (hy := by intro w hSw; (try dsimp only at hSw); obtain ⟨q0, q1⟩ := hSw; go_simp <;> with_reducible rfl) ?_
        try simp only [Act.put, nA]
        refine wpAnyH_done (by kernel_rfl) ?_ _
        go_wp2_with (first | (go_at_call 14; with_reducible refine (PP.out _ h5.out).mono ?_; rintro e w6 ⟨rfl, h6⟩; have ho6 := Lib.hid (own_same h6.row (w' := w6.alloc (.cells #[.int .u32 y] 43)) (fun k hk => Below.heap_alloc _ _ _ (own_lt h6.row k hk)) (by simp)); replace h6 := Lib.hid h6) | (at_builtin; refine wpList_app_any rfl (.tmp 61) (.tmp 63) 51 rfl 0 43 i0 (.int .u32 0) 1 4 Try.underlying51 hi0 hz0 hz1 hz2 rfl (by decide) (.slice va i vc) (.slice (some ⟨w6.heap.size, 0, none⟩) 1 1) i 1 (WK f i) [.int .u32 y] (by simp [Act.eval]) (by simp [Act.eval]) ho6.out (rd_one _ _ _) rfl (by simp [Value.oneCell']) hmx.out hbx.out (Nat.zero_le _) ?_; intro v9 w9 hown9 hg9 hat9; have h9 := Lib.hid (h6.out.app hown9 hg9 hat9); clear hown9 hg9 hat9))
        go_roundw
        case rel => exact ⟨i + 1, _, hi1, hi61, by go_num, rfl, by rw [hws.out]; exact h9⟩
        case measure => simp [intOf]; omega
      · as_aux_lemma =>
        have d2 : decide ((i : Int) < 60) = false := by simp; omega
        go_upto_region 15 with fail
        clear hi0 hz0 hz1 hz2
        go_wp2
        go_loopw [67] (fun x wr => ∃ k : Nat, k ≤ i ∧ x = .int .i64 k ∧ Hid (KpS w wr p (LK f i) (.slice va i vc) i (WK f i))) (fun x _ => i - (intOf x).toNat)
        case atStart => exact ⟨0, by omega, rfl, hS⟩
        case round =>
          clear hS
          obtain ⟨k, hk, rfl, hS⟩ := hrel
          by_cases hki : k < i
          · as_aux_lemma =>
            have d3 : decide ((k : Int) < (i : Int)) = true := by simp; omega
            have hlt : k < n := by omega
            obtain ⟨⟨_, b1, b2, b3⟩, g, off, rfl, a0, a1, a2, a3⟩ := hf.out k hlt
            replace a1 := cell_up hS.out.is.bel a1
            replace a2 := cell_up hS.out.is.bel a2
            have p1 : (k : Int) < (n : Int) := by omega
            have p2 : (k : Int) < (i : Int) := by omega
            have k2 := kj_bd (f k).2.2.1
            have q1 : bits .and .i64 (f k).2.1 15 = kc (f k).2.1 := rfl
            have q2 : bits .and .i64 (f k).2.2.1 7 = kj (f k).2.2.1 := rfl
            obtain ⟨hgv, hin, hcl⟩ := LK_fin f hki
            have PG := Lib.hid (is_get hS.out.is (4 + (k : Int)) (kj (f k).2.2.1) (by rw [LK_len]; omega) ⟨by omega, by omega⟩ ⟨by omega, by omega⟩)
            rw [hgv, hin] at PG
            have PC := Lib.hid (fun (W : World) (b : Below wr.heap.size wr W) => is_cls (hS.out.is.up b) (4 + (k : Int)) (by rw [LK_len]; omega) ⟨by omega, by omega⟩)
            rw [hcl] at PC
            have hup := Lib.hid (fun (W : World) (b : Below wr.heap.size wr W) => hS.out.up b)
            have w2 : IntKind.i64.wrap (4 + (k : Int)) = 4 + (k : Int) := by rw [IntKind.wrap_i64]; omega
            have w3 : IntKind.i64.wrap ((k : Int) + 1) = ((k + 1 : Nat) : Int) := by rw [IntKind.wrap_i64]; omega
            obtain ⟨gw, rfl, cw⟩ : ∃ gw, va = some ⟨gw, 0, none⟩ ∧ wr.cell? ⟨gw, k, none⟩ = some (.int .u32 (kv (f k).2.2.2)) := by
              have ho := hS.out.row
              rcases ho.2 with ⟨_, e2⟩ | ⟨gw, cap', cur, e, _⟩
              · omega
              · cases e
                exact ⟨gw, rfl, own_cell ho (WK_at f hki)⟩
            have dz : (kv (f k).2.2.2 != kv (f k).2.2.2) = false := by simp
            have dc : (kc (f k).2.1 != kc (f k).2.1) = false := by simp
            have hbel := Lib.hid (fun (W : World) (b : Below wr.heap.size wr W) => (⟨cell_up b a1, cell_up b a2, cell_up b cw⟩ : _ ∧ _ ∧ _))
            clear k2 b1 b2 b3 a0 a3 hlt hf hn hgv hin hcl
            generalize kc (f k).2.1 = c at *
            generalize kj (f k).2.2.1 = j at *
            generalize kv (f k).2.2.2 = y at *
            generalize (f k).2.1 = yI at *
            generalize (f k).2.2.1 = zI at *
            go_upto_region 19 with (go_at_call 9; refine (PG.out).mono ?_; rintro e w5 ⟨rfl, _, hb5⟩; obtain ⟨e1, e2, e3⟩ := hbel.out _ hb5; replace hb5 := Lib.hid hb5; clear a1 a2 cw)
            refine wp_region_held_drew (S := (fun wr' => wr'.cell? ⟨g, off + k * 4 + 1, none⟩ = some (.int .i64 yI) ∧ wr'.cell? ⟨gw, k, none⟩ = some (.int .u32 y))) (by kernel_rfl) ?_ (fun hHeld => ?_)
            · (try dsimp only); exact ⟨e1, e3⟩
            try simp only [Act.put, nA]
            refine tk (i := 0) (oi := ⟨some 83, .move (.tmp 10), 4, "law.go:193", #[], none⟩) (hy := by intro w hSw; (try dsimp only at hSw); obtain ⟨q0, q1⟩ := hSw; go_simp <;> with_reducible rfl) ?_
            try simp only [Act.put, nA]
            refine tk (i := 1) (oi := ⟨some 84, .unOp .not 4 (.tmp 83), 4, "law.go:193", #[⟨0, .data⟩], none⟩) (hy := by intro w hSw; (try dsimp only at hSw); obtain ⟨q0, q1⟩ := hSw; go_simp <;> with_reducible rfl) ?_
            try simp only [Act.put, nA]
            refine tk (i := 2) (oi := ⟨some 85, .move (.tmp 84), 4, "law.go:193", #[⟨1, .data⟩], none⟩) (hy := by intro w hSw; (try dsimp only at hSw); obtain ⟨q0, q1⟩ := hSw; go_simp <;> with_reducible rfl) ?_
            try simp only [Act.put, nA]
            refine tk (i := 3) (oi := ⟨some 86, .move (.tmp 9), 43, "law.go:193", #[⟨2, .guard⟩], some (2, false)⟩) (hy := by intro w hSw; (try dsimp only at hSw); obtain ⟨q0, q1⟩ := hSw; go_simp <;> with_reducible rfl) ?_
            try simp only [Act.put, nA]
            refine tk (i := 4) (oi := ⟨some 87, .move (.tmp 4), 51, "law.go:193", #[⟨2, .guard⟩], some (2, false)⟩) (hy := by intro w hSw; (try dsimp only at hSw); obtain ⟨q0, q1⟩ := hSw; go_simp <;> with_reducible rfl) ?_
            try simp only [Act.put, nA]
            refine tk (i := 5) (oi := ⟨some 88, .move (.tmp 8), 3, "law.go:193", #[⟨2, .guard⟩], some (2, false)⟩) (hy := by intro w hSw; (try dsimp only at hSw); obtain ⟨q0, q1⟩ := hSw; go_simp <;> with_reducible rfl) ?_
            try simp only [Act.put, nA]
            refine tk (i := 6) (oi := ⟨some 89, .indexAddr 51 (.tmp 87) (.tmp 88), 0, "law.go:193", #[⟨4, .data⟩, ⟨5, .data⟩, ⟨2, .guard⟩], some (2, false)⟩) (hy := by intro w hSw; (try dsimp only at hSw); obtain ⟨q0, q1⟩ := hSw; go_simp <;> with_reducible rfl) ?_
            try simp only [Act.put, nA]
            refine tk (i := 7) (oi := ⟨some 90, .load 43 (.tmp 89), 43, "law.go:193", #[⟨6, .data⟩, ⟨2, .guard⟩], some (2, false)⟩) (hy := by intro w hSw; (try dsimp only at hSw); obtain ⟨q0, q1⟩ := hSw; go_simp <;> with_reducible rfl) ?_
            try simp only [Act.put, nA]
            refine tk (i := 8) (oi := ⟨some 91, .binOp .neq 43 (.tmp 86) (.tmp 90) 43, 4, "law.go:193", #[⟨3, .data⟩, ⟨7, .data⟩, ⟨2, .guard⟩], some (2, false)⟩) (hy := by intro w hSw; (try dsimp only at hSw); obtain ⟨q0, q1⟩ := hSw; go_simp <;> with_reducible rfl) ?_
            try simp only [Act.put, nA]
            refine tk (i := 9) (oi := ⟨some 92, .pick (.tmp 85) (.const (.bool true)) (.tmp 91), 4, "law.go:193", #[⟨2, .data⟩, ⟨8, .data⟩], none⟩) (hy := by intro w hSw; (try dsimp only at hSw); obtain ⟨q0, q1⟩ := hSw; go_simp <;> with_reducible rfl) ?_
            try simp only [Act.put, nA]
            refine tk (i := 10) (oi := ⟨some 93, .move (.tmp 92), 4, "law.go:193", #[⟨9, .data⟩, ⟨2, .chain⟩], none⟩) (hy := by intro w hSw; (try dsimp only at hSw); obtain ⟨q0, q1⟩ := hSw; go_simp <;> with_reducible rfl) ?_
            try simp only [Act.put, nA]
            refine tk (i := 11) (oi := ⟨some 94, .move (.tmp 3), 33, "law.go:193", #[⟨10, .guard⟩], some (10, false)⟩) (hy := by intro w hSw; (try dsimp only at hSw); obtain ⟨q0, q1⟩ := hSw; go_simp <;> with_reducible rfl) ?_
            try simp only [Act.put, nA]
            refine tk (i := 12) (oi := ⟨some 95, .move (.tmp 8), 3, "law.go:193", #[⟨10, .guard⟩], some (10, false)⟩) (hy := by intro w hSw; (try dsimp only at hSw); obtain ⟨q0, q1⟩ := hSw; go_simp <;> with_reducible rfl) ?_
            try simp only [Act.put, nA]
            refine tk (i := 13) (oi := ⟨some 96, .binOp .add 3 (.const (.int .i64 4)) (.tmp 95) 3, 3, "law.go:193", #[⟨12, .data⟩, ⟨10, .guard⟩], some (10, false)⟩) (hy := by intro w hSw; (try dsimp only at hSw); obtain ⟨q0, q1⟩ := hSw; go_simp <;> with_reducible rfl) ?_
            try simp only [Act.put, nA]
            refine tk (i := 15) (oi := ⟨some 98, .move (.tmp 0), 50, "law.go:193", #[⟨10, .guard⟩], some (10, false)⟩) (hy := by intro w hSw; (try dsimp only at hSw); obtain ⟨q0, q1⟩ := hSw; go_simp <;> with_reducible rfl) ?_
            try simp only [Act.put, nA]
            refine tk (i := 16) (oi := ⟨some 99, .move (.tmp 8), 3, "law.go:193", #[⟨10, .guard⟩], some (10, false)⟩) (hy := by intro w hSw; (try dsimp only at hSw); obtain ⟨q0, q1⟩ := hSw; go_simp <;> with_reducible rfl) ?_
            try simp only [Act.put, nA]
            refine tk (i := 17) (oi := ⟨some 100, .indexAddr 50 (.tmp 98) (.tmp 99), 0, "law.go:193", #[⟨15, .data⟩, ⟨16, .data⟩, ⟨10, .guard⟩], some (10, false)⟩) (hy := by intro w hSw; (try dsimp only at hSw); obtain ⟨q0, q1⟩ := hSw; go_simp <;> with_reducible rfl) ?_
            try simp only [Act.put, nA]
            refine tk (i := 18) (oi := ⟨some 101, .fieldAddr 54 (.tmp 100) 1, 0, "law.go:193", #[⟨17, .data⟩, ⟨10, .guard⟩], some (10, false)⟩) (hy := by intro w hSw; (try dsimp only at hSw); obtain ⟨q0, q1⟩ := hSw; go_simp <;> with_reducible rfl) ?_
            try simp only [Act.put, nA]
            refine tk (i := 19) (oi := ⟨some 102, .load 3 (.tmp 101), 3, "law.go:193", #[⟨18, .data⟩, ⟨10, .guard⟩], some (10, false)⟩) (hy := by intro w hSw; (try dsimp only at hSw); obtain ⟨q0, q1⟩ := hSw; go_simp <;> with_reducible rfl) ?_
            try simp only [Act.put, nA]
            refine tk (i := 20) (oi := ⟨some 103, .binOp .and 3 (.tmp 102) (.const (.int .i64 15)) 3, 3, "law.go:193", #[⟨19, .data⟩, ⟨10, .guard⟩], some (10, false)⟩) (hy := by intro w hSw; (try dsimp only at hSw); obtain ⟨q0, q1⟩ := hSw; go_simp <;> with_reducible rfl) ?_
            try simp only [Act.put, nA]
            refine wpAnyH_ready (rs := [14]) (by kernel_rfl) (by simp) ?_
            refine AllReadyH.cons (o := ⟨some 97, .call { callee := .value (.func 15), args := #[.tmp 94, .tmp 96], argTypes := #[33, 3] }, 3, "law.go:193", #[⟨11, .data⟩, ⟨13, .data⟩, ⟨10, .chain⟩, ⟨10, .guard⟩], some (10, false)⟩) rfl (fun K9 hK => ?_) AllReadyH.nil
            refine if_y (by rfl) ?_
            go_simp
            refine (PC.out _ hb5.out.drew).mono ?_
            rintro e w7 ⟨rfl, _, hb6⟩
            have hb7 := Lib.hid (hb5.out.drew.trans (hb6.mono hb5.out.drew.size))
            have e4 := cell_up hb6 e1
            have e5 := cell_up hb6 e3
            clear e1 e2 e3
            go_wp2_with fail
            refine hK.out _ _ ?_ ?_
            · (try dsimp only); exact ⟨e4, e5⟩
            clear hK K9 hHeld; intro hHeld
            try simp only [Act.put, nA]
            refine tk (i := 21) (oi := ⟨some 104, .binOp .neq 3 (.tmp 97) (.tmp 103) 3, 4, "law.go:193", #[⟨14, .data⟩, ⟨20, .data⟩, ⟨10, .guard⟩], some (10, false)⟩) (hy := by intro w hSw; (try dsimp only at hSw); obtain ⟨q0, q1⟩ := hSw; go_simp <;> with_reducible rfl) ?_
            try simp only [Act.put, nA]
            refine tk (i := 22) (oi := ⟨some 105, .pick (.tmp 93) (.const (.bool true)) (.tmp 104), 4, "law.go:193", #[⟨10, .data⟩, ⟨21, .data⟩], none⟩) (hy := by intro w hSw; (try dsimp only at hSw); obtain ⟨q0, q1⟩ := hSw; go_simp <;> with_reducible rfl) ?_
            try simp only [Act.put, nA]
            refine wpAnyH_done (by kernel_rfl) ?_ _
            go_wp2
            go_roundw
            case rel => exact ⟨k + 1, by omega, by go_num, Lib.hid (hup.out _ hb7.out)⟩
            case measure => simp [intOf]; omega
          · as_aux_lemma =>
            have e : k = i := by omega
            subst e
            have d3 : decide ((k : Int) < (k : Int)) = false := by simp
            have PL := Lib.hid (is_len hS.out.is)
            rw [LK_len] at PL
            have dq : ((k : Int) == (k : Int)) = true := by simp
            have hbl := Lib.hid hS.out.is.bel
            go_wp2_with (first | (go_at_call 8; (refine (PL.out).mono ?_); rintro e w2 ⟨rfl, hw2⟩; subst w2) | (go_at_call 12; (refine (known8_c _).mono ?_); rintro e w3 ⟨rfl, hb3⟩; replace hb3 := Lib.hid hb3))
            go_ret
            exact ⟨rfl, hbl.out.trans (hb3.out.mono hbl.out.size)⟩
    · as_aux_lemma =>
      have d1 : decide ((i : Int) < (n : Int)) = false := by simp; omega
      go_upto_region 15 with fail
      clear hi0 hz0 hz1 hz2
      go_wp2
      go_loopw [67] (fun x wr => ∃ k : Nat, k ≤ i ∧ x = .int .i64 k ∧ Hid (KpS w wr p (LK f i) (.slice va i vc) i (WK f i))) (fun x _ => i - (intOf x).toNat)
      case atStart => exact ⟨0, by omega, rfl, hS⟩
      case round =>
        clear hS
        obtain ⟨k, hk, rfl, hS⟩ := hrel
        by_cases hki : k < i
        · as_aux_lemma =>
          have d3 : decide ((k : Int) < (i : Int)) = true := by simp; omega
          have hlt : k < n := by omega
          obtain ⟨⟨_, b1, b2, b3⟩, g, off, rfl, a0, a1, a2, a3⟩ := hf.out k hlt
          replace a1 := cell_up hS.out.is.bel a1
          replace a2 := cell_up hS.out.is.bel a2
          have p1 : (k : Int) < (n : Int) := by omega
          have p2 : (k : Int) < (i : Int) := by omega
          have k2 := kj_bd (f k).2.2.1
          have q1 : bits .and .i64 (f k).2.1 15 = kc (f k).2.1 := rfl
          have q2 : bits .and .i64 (f k).2.2.1 7 = kj (f k).2.2.1 := rfl
          obtain ⟨hgv, hin, hcl⟩ := LK_fin f hki
          have PG := Lib.hid (is_get hS.out.is (4 + (k : Int)) (kj (f k).2.2.1) (by rw [LK_len]; omega) ⟨by omega, by omega⟩ ⟨by omega, by omega⟩)
          rw [hgv, hin] at PG
          have PC := Lib.hid (fun (W : World) (b : Below wr.heap.size wr W) => is_cls (hS.out.is.up b) (4 + (k : Int)) (by rw [LK_len]; omega) ⟨by omega, by omega⟩)
          rw [hcl] at PC
          have hup := Lib.hid (fun (W : World) (b : Below wr.heap.size wr W) => hS.out.up b)
          have w2 : IntKind.i64.wrap (4 + (k : Int)) = 4 + (k : Int) := by rw [IntKind.wrap_i64]; omega
          have w3 : IntKind.i64.wrap ((k : Int) + 1) = ((k + 1 : Nat) : Int) := by rw [IntKind.wrap_i64]; omega
          obtain ⟨gw, rfl, cw⟩ : ∃ gw, va = some ⟨gw, 0, none⟩ ∧ wr.cell? ⟨gw, k, none⟩ = some (.int .u32 (kv (f k).2.2.2)) := by
            have ho := hS.out.row
            rcases ho.2 with ⟨_, e2⟩ | ⟨gw, cap', cur, e, _⟩
            · omega
            · cases e
              exact ⟨gw, rfl, own_cell ho (WK_at f hki)⟩
          have dz : (kv (f k).2.2.2 != kv (f k).2.2.2) = false := by simp
          have dc : (kc (f k).2.1 != kc (f k).2.1) = false := by simp
          have hbel := Lib.hid (fun (W : World) (b : Below wr.heap.size wr W) => (⟨cell_up b a1, cell_up b a2, cell_up b cw⟩ : _ ∧ _ ∧ _))
          clear k2 b1 b2 b3 a0 a3 hlt hf hn hgv hin hcl
          generalize kc (f k).2.1 = c at *
          generalize kj (f k).2.2.1 = j at *
          generalize kv (f k).2.2.2 = y at *
          generalize (f k).2.1 = yI at *
          generalize (f k).2.2.1 = zI at *
          go_upto_region 19 with (go_at_call 9; refine (PG.out).mono ?_; rintro e w5 ⟨rfl, _, hb5⟩; obtain ⟨e1, e2, e3⟩ := hbel.out _ hb5; replace hb5 := Lib.hid hb5; clear a1 a2 cw)
          refine wp_region_held_drew (S := (fun wr' => wr'.cell? ⟨g, off + k * 4 + 1, none⟩ = some (.int .i64 yI) ∧ wr'.cell? ⟨gw, k, none⟩ = some (.int .u32 y))) (by kernel_rfl) ?_ (fun hHeld => ?_)
          · (try dsimp only); exact ⟨e1, e3⟩
          try simp only [Act.put, nA]
          refine tk (i := 0) (oi := ⟨some 83, .move (.tmp 10), 4, "law.go:193", #[], none⟩) (hy := by intro w hSw; (try dsimp only at hSw); obtain ⟨q0, q1⟩ := hSw; go_simp <;> with_reducible rfl) ?_
          try simp only [Act.put, nA]
          refine tk (i := 1) (oi := ⟨some 84, .unOp .not 4 (.tmp 83), 4, "law.go:193", #[⟨0, .data⟩], none⟩) (hy := by intro w hSw; (try dsimp only at hSw); obtain ⟨q0, q1⟩ := hSw; go_simp <;> with_reducible rfl) ?_
          try simp only [Act.put, nA]
          refine tk (i := 2) (oi := ⟨some 85, .move (.tmp 84), 4, "law.go:193", #[⟨1, .data⟩], none⟩) (hy := by intro w hSw; (try dsimp only at hSw); obtain ⟨q0, q1⟩ := hSw; go_simp <;> with_reducible rfl) ?_
          try simp only [Act.put, nA]
          refine tk (i := 3) (oi := ⟨some 86, .move (.tmp 9), 43, "law.go:193", #[⟨2, .guard⟩], some (2, false)⟩) (hy := by intro w hSw; (try dsimp only at hSw); obtain ⟨q0, q1⟩ := hSw; go_simp <;> with_reducible rfl) ?_
          try simp only [Act.put, nA]
          refine tk (i := 4) (oi := ⟨some 87, .move (.tmp 4), 51, "law.go:193", #[⟨2, .guard⟩], some (2, false)⟩) (hy := by intro w hSw; (try dsimp only at hSw); obtain ⟨q0, q1⟩ := hSw; go_simp <;> with_reducible rfl) ?_
          try simp only [Act.put, nA]
          refine tk (i := 5) (oi := ⟨some 88, .move (.tmp 8), 3, "law.go:193", #[⟨2, .guard⟩], some (2, false)⟩) (hy := by intro w hSw; (try dsimp only at hSw); obtain ⟨q0, q1⟩ := hSw; go_simp <;> with_reducible rfl) ?_
          try simp only [Act.put, nA]
          refine tk (i := 6) (oi := ⟨some 89, .indexAddr 51 (.tmp 87) (.tmp 88), 0, "law.go:193", #[⟨4, .data⟩, ⟨5, .data⟩, ⟨2, .guard⟩], some (2, false)⟩) (hy := by intro w hSw; (try dsimp only at hSw); obtain ⟨q0, q1⟩ := hSw; go_simp <;> with_reducible rfl) ?_
          try simp only [Act.put, nA]
          refine tk (i := 7) (oi := ⟨some 90, .load 43 (.tmp 89), 43, "law.go:193", #[⟨6, .data⟩, ⟨2, .guard⟩], some (2, false)⟩) (hy := by intro w hSw; (try dsimp only at hSw); obtain ⟨q0, q1⟩ := hSw; go_simp <;> with_reducible rfl) ?_
          try simp only [Act.put, nA]
          refine tk (i := 8) (oi := ⟨some 91, .binOp .neq 43 (.tmp 86) (.tmp 90) 43, 4, "law.go:193", #[⟨3, .data⟩, ⟨7, .data⟩, ⟨2, .guard⟩], some (2, false)⟩) (hy := by intro w hSw; (try dsimp only at hSw); obtain ⟨q0, q1⟩ := hSw; go_simp <;> with_reducible rfl) ?_
          try simp only [Act.put, nA]
          refine tk (i := 9) (oi := ⟨some 92, .pick (.tmp 85) (.const (.bool true)) (.tmp 91), 4, "law.go:193", #[⟨2, .data⟩, ⟨8, .data⟩], none⟩) (hy := by intro w hSw; (try dsimp only at hSw); obtain ⟨q0, q1⟩ := hSw; go_simp <;> with_reducible rfl) ?_
          try simp only [Act.put, nA]
          refine tk (i := 10) (oi := ⟨some 93, .move (.tmp 92), 4, "law.go:193", #[⟨9, .data⟩, ⟨2, .chain⟩], none⟩) (hy := by intro w hSw; (try dsimp only at hSw); obtain ⟨q0, q1⟩ := hSw; go_simp <;> with_reducible rfl) ?_
          try simp only [Act.put, nA]
          refine tk (i := 11) (oi := ⟨some 94, .move (.tmp 3), 33, "law.go:193", #[⟨10, .guard⟩], some (10, false)⟩) (hy := by intro w hSw; (try dsimp only at hSw); obtain ⟨q0, q1⟩ := hSw; go_simp <;> with_reducible rfl) ?_
          try simp only [Act.put, nA]
          refine tk (i := 12) (oi := ⟨some 95, .move (.tmp 8), 3, "law.go:193", #[⟨10, .guard⟩], some (10, false)⟩) (hy := by intro w hSw; (try dsimp only at hSw); obtain ⟨q0, q1⟩ := hSw; go_simp <;> with_reducible rfl) ?_
          try simp only [Act.put, nA]
          refine tk (i := 13) (oi := ⟨some 96, .binOp .add 3 (.const (.int .i64 4)) (.tmp 95) 3, 3, "law.go:193", #[⟨12, .data⟩, ⟨10, .guard⟩], some (10, false)⟩) (hy := by intro w hSw; (try dsimp only at hSw); obtain ⟨q0, q1⟩ := hSw; go_simp <;> with_reducible rfl) ?_
          try simp only [Act.put, nA]
          refine tk (i := 15) (oi := ⟨some 98, .move (.tmp 0), 50, "law.go:193", #[⟨10, .guard⟩], some (10, false)⟩) (hy := by intro w hSw; (try dsimp only at hSw); obtain ⟨q0, q1⟩ := hSw; go_simp <;> with_reducible rfl) ?_
          try simp only [Act.put, nA]
          refine tk (i := 16) (oi := ⟨some 99, .move (.tmp 8), 3, "law.go:193", #[⟨10, .guard⟩], some (10, false)⟩) (hy := by intro w hSw; (try dsimp only at hSw); obtain ⟨q0, q1⟩ := hSw; go_simp <;> with_reducible rfl) ?_
          try simp only [Act.put, nA]
          refine tk (i := 17) (oi := ⟨some 100, .indexAddr 50 (.tmp 98) (.tmp 99), 0, "law.go:193", #[⟨15, .data⟩, ⟨16, .data⟩, ⟨10, .guard⟩], some (10, false)⟩) (hy := by intro w hSw; (try dsimp only at hSw); obtain ⟨q0, q1⟩ := hSw; go_simp <;> with_reducible rfl) ?_
          try simp only [Act.put, nA]
          refine tk (i := 18) (oi := ⟨some 101, .fieldAddr 54 (.tmp 100) 1, 0, "law.go:193", #[⟨17, .data⟩, ⟨10, .guard⟩], some (10, false)⟩) (hy := by intro w hSw; (try dsimp only at hSw); obtain ⟨q0, q1⟩ := hSw; go_simp <;> with_reducible rfl) ?_
          try simp only [Act.put, nA]
          refine tk (i := 19) (oi := ⟨some 102, .load 3 (.tmp 101), 3, "law.go:193", #[⟨18, .data⟩, ⟨10, .guard⟩], some (10, false)⟩) (hy := by intro w hSw; (try dsimp only at hSw); obtain ⟨q0, q1⟩ := hSw; go_simp <;> with_reducible rfl) ?_
          try simp only [Act.put, nA]
          refine tk (i := 20) (oi := ⟨some 103, .binOp .and 3 (.tmp 102) (.const (.int .i64 15)) 3, 3, "law.go:193", #[⟨19, .data⟩, ⟨10, .guard⟩], some (10, false)⟩) (hy := by intro w hSw; (try dsimp only at hSw); obtain ⟨q0, q1⟩ := hSw; go_simp <;> with_reducible rfl) ?_
          try simp only [Act.put, nA]
          refine wpAnyH_ready (rs := [14]) (by kernel_rfl) (by simp) ?_
          refine AllReadyH.cons (o := ⟨some 97, .call { callee := .value (.func 15), args := #[.tmp 94, .tmp 96], argTypes := #[33, 3] }, 3, "law.go:193", #[⟨11, .data⟩, ⟨13, .data⟩, ⟨10, .chain⟩, ⟨10, .guard⟩], some (10, false)⟩) rfl (fun K9 hK => ?_) AllReadyH.nil
          refine if_y (by rfl) ?_
          go_simp
          refine (PC.out _ hb5.out.drew).mono ?_
          rintro e w7 ⟨rfl, _, hb6⟩
          have hb7 := Lib.hid (hb5.out.drew.trans (hb6.mono hb5.out.drew.size))
          have e4 := cell_up hb6 e1
          have e5 := cell_up hb6 e3
          clear e1 e2 e3
          go_wp2_with fail
          refine hK.out _ _ ?_ ?_
          · (try dsimp only); exact ⟨e4, e5⟩
          clear hK K9 hHeld; intro hHeld
          try simp only [Act.put, nA]
          refine tk (i := 21) (oi := ⟨some 104, .binOp .neq 3 (.tmp 97) (.tmp 103) 3, 4, "law.go:193", #[⟨14, .data⟩, ⟨20, .data⟩, ⟨10, .guard⟩], some (10, false)⟩) (hy := by intro w hSw; (try dsimp only at hSw); obtain ⟨q0, q1⟩ := hSw; go_simp <;> with_reducible rfl) ?_
          try simp only [Act.put, nA]
          refine tk (i := 22) (oi := ⟨some 105, .pick (.tmp 93) (.const (.bool true)) (.tmp 104), 4, "law.go:193", #[⟨10, .data⟩, ⟨21, .data⟩], none⟩) (hy := by intro w hSw; (try dsimp only at hSw); obtain ⟨q0, q1⟩ := hSw; go_simp <;> with_reducible rfl) ?_
          try simp only [Act.put, nA]
          refine wpAnyH_done (by kernel_rfl) ?_ _
          go_wp2
          go_roundw
          case rel => exact ⟨k + 1, by omega, by go_num, Lib.hid (hup.out _ hb7.out)⟩
          case measure => simp [intOf]; omega
        · as_aux_lemma =>
          have e : k = i := by omega
          subst e
          have d3 : decide ((k : Int) < (k : Int)) = false := by simp
          have PL := Lib.hid (is_len hS.out.is)
          rw [LK_len] at PL
          have dq : ((k : Int) == (k : Int)) = true := by simp
          have hbl := Lib.hid hS.out.is.bel
          go_wp2_with (first | (go_at_call 8; (refine (PL.out).mono ?_); rintro e w2 ⟨rfl, hw2⟩; subst w2) | (go_at_call 12; (refine (known8_c _).mono ?_); rintro e w3 ⟨rfl, hb3⟩; replace hb3 := Lib.hid hb3))
          go_ret
          exact ⟨rfl, hbl.out.trans (hb3.out.mono hbl.out.size)⟩
end Wd
end Go.Proofs.Yteiejjmhmmkdhaa

/- What a tape's objects become in an Ideal, plainly. -/
namespace Go.Proofs.Yteiejjmhmmkdhaa
open Go.RowKit
set_option linter.unusedVariables false
set_option maxRecDepth 20000
namespace Wd
theorem tape_obs {U : UnitA} (h : TapeU U) : ObsOk U.objects ∧ ∀ o ∈ U.objects, ∀ v ∈ o.flds, valOk U.objects.length v := by
  have h1 := h.ob1
  have hc1 := h.cl1
  refine ⟨⟨by omega, fun o ho => ?_, fun o ho f hf e => ?_⟩, fun o ho v hv => ?_⟩
  · obtain ⟨k, hk⟩ := List.getElem?_of_mem ho
    have hb := h.obs k o hk
    have key : 0 ≤ o.cls ∧ o.cls ≤ 4095 ∧ o.flds.length ≤ 62 := by
      rcases hb.cls with ⟨g, d, hd, e⟩ | ⟨_, g, e⟩
      · have hl := (List.getElem?_eq_some_iff.1 hd).1
        have := (h.cls _ d hd).1.fld (by omega)
        omega
      · omega
    unfold okA
    rw [Bool.and_eq_true, decide_eq_true_eq, decide_eq_true_eq]
    omega
  · obtain ⟨k, hk⟩ := List.getElem?_of_mem ho
    have hv := (h.obs k o hk).flds f hf
    rcases hv with rfl | rfl | rfl | ⟨g, _⟩ | ⟨_, g1, g2⟩
    · simp at e
    · simp at e
    · simp at e
    · omega
    · exact ⟨g1, g2⟩
  · obtain ⟨k, hk⟩ := List.getElem?_of_mem ho
    exact (h.obs k o hk).flds v hv
def idsN (n : Nat) : List Int := (List.range n).map (fun i : Nat => 4 + (i : Int))
theorem take_nxt8 {α : Type} {O : List α} {k : Nat} {x : α} (hx : O[k]? = some x) : O.take (k + 1) = O.take k ++ [x] := by rw [List.take_add_one, hx]; rfl
theorem idsN_at {n k : Nat} (h : k < n) : (idsN n)[k]? = some (4 + (k : Int)) := by simp [idsN, h]
theorem idsN_getD {n k : Nat} (h : k < n) : (idsN n).getD k 0 = 4 + (k : Int) := by rw [List.getD_eq_getElem?_getD, idsN_at h]; rfl
def newA (o : ObjA) : Ob8 := newO o.cls (o.flds.length : Int)
def fulA (ids : List Int) (o : ObjA) : Ob8 := (o.cls, o.flds.map (fun v => valW v ids))
theorem valW_nz {n : Nat} (hn : n ≤ 1000) {v : Int × Int} (h : valOk n v) : valW v (idsN n) ≠ 0 := by
  rcases h with rfl | rfl | rfl | ⟨g, g1, g2⟩ | ⟨g, g1, g2⟩
  · simp [valW]
  · simp [valW]
  · simp [valW]
  · have : valW v (idsN n) = Ww.iv v.2 := by unfold valW; rw [g]; rfl
    rw [this, Ww.iv_yes (Ww.fits_yes (by omega) (by omega))]
    unfold Ww.wd; omega
  · have : valW v (idsN n) = Ww.ov ((idsN n).getD v.2.toNat 0) := by unfold valW; rw [g]; rfl
    rw [this, idsN_getD (by omega), (Ww.ov_yes (by omega) (by omega)).1]
    omega
theorem stA_ideal {O : List ObjA} (h : ObsOk O) : ∀ k, k ≤ O.length → stA idealM [] O k = ((O.take k).map newA, idsN k)
  | 0, _ => by simp [stA, idsN]
  | k + 1, hk => by
    have hx : O[k]? = some O[k] := by simp
    have hok := h.ok O[k] (by simp)
    rw [stA_succ idealM hx, stA_ideal h k (by omega)]
    have hl : ((O.take k).map newA).length = k := by simp; omega
    show (alL _ _ _, _ ++ [alI _ _ _]) = _
    unfold alL alI
    rw [hok, if_pos rfl, if_pos rfl, hl]
    refine Prod.ext ?_ ?_
    · show (O.take k).map newA ++ [newA O[k]] = _
      rw [take_nxt8 hx, List.map_append]; rfl
    · show idsN k ++ [4 + (k : Int)] = _
      simp [idsN, List.range_succ]
theorem rep_set {A : List Int} {m : Nat} {y : Int} : (A ++ List.replicate (m + 1) 2).set A.length y = A ++ y :: List.replicate m 2 := by
  rw [List.set_append_right _ _ (Nat.le_refl _), Nat.sub_self, List.replicate_succ]
  rfl
theorem stF_ideal {L : List Ob8} {ids : List Int} {k n : Nat} {c : Int} {V : List (Int × Int)} (hk : L[k]? = some (c, List.replicate V.length 2)) (hv : ∀ v ∈ V, valW v ids ≠ 0) :
    ∀ j, j ≤ V.length → stF idealM L ids (4 + (k : Int)) V j = L.set k (c, (V.take j).map (fun v => valW v ids) ++ List.replicate (V.length - j) 2)
  | 0, _ => by
    have hkl := (List.getElem?_eq_some_iff.1 hk)
    show L = _
    obtain ⟨h1, h2⟩ := hkl
    simp only [List.take_zero, List.map_nil, List.nil_append, Nat.sub_zero]
    rw [← h2]; simp
  | j + 1, hj => by
    have hkl := (List.getElem?_eq_some_iff.1 hk).1
    have hx : V[j]? = some V[j] := by simp
    rw [stF_succ idealM hx, stF_ideal (n := n) hk hv j (by omega)]
    show puL _ _ _ _ = _
    have hat : (L.set k (c, (V.take j).map (fun v => valW v ids) ++ List.replicate (V.length - j) 2))[k]? = some (c, (V.take j).map (fun v => valW v ids) ++ List.replicate (V.length - j) 2) := by
      rw [List.getElem?_set_self hkl]
    obtain ⟨e1, e2⟩ := hasL_at hat
    have hlen : ((V.take j).map (fun v => valW v ids)).length = j := by simp; omega
    have hb : puB (L.set k (c, (V.take j).map (fun v => valW v ids) ++ List.replicate (V.length - j) 2)) (4 + (k : Int)) (j : Int) (valW V[j] ids) = true := by
      unfold puB inO
      rw [e1, e2, Bool.true_and, Bool.and_eq_true, decide_eq_true_eq, decide_eq_true_eq]
      refine ⟨?_, hv _ (by simp)⟩
      simp only [List.length_append, hlen, List.length_replicate]
      omega
    unfold puL
    rw [hb, if_pos rfl, e2, show (4 + (k : Int) - 4).toNat = k by omega, List.set_set]
    congr 1
    unfold puO
    refine Prod.ext rfl ?_
    simp only [Int.toNat_natCast]
    obtain ⟨m, hm⟩ : ∃ m, V.length - j = m + 1 := ⟨V.length - j - 1, by omega⟩
    have hs := rep_set (A := (V.take j).map (fun v => valW v ids)) (m := m) (y := valW V[j] ids)
    rw [hlen] at hs
    rw [hm, hs, show V.length - (j + 1) = m by omega, take_nxt8 hx, List.map_append, List.append_assoc]
    rfl
/-- all fields of one object -/
theorem stF_all {L : List Ob8} {ids : List Int} {k : Nat} {c : Int} {V : List (Int × Int)} (hk : L[k]? = some (c, List.replicate V.length 2)) (hv : ∀ v ∈ V, valW v ids ≠ 0) :
    stF idealM L ids (4 + (k : Int)) V V.length = L.set k (c, V.map (fun v => valW v ids)) := by
  rw [stF_ideal (n := 0) hk hv V.length (Nat.le_refl _)]
  simp
theorem stO_ideal {O : List ObjA} (h : ObsOk O) (hv : ∀ o ∈ O, ∀ v ∈ o.flds, valOk O.length v) : ∀ k, k ≤ O.length → stO idealM (O.map newA) (idsN O.length) O k = (O.take k).map (fulA (idsN O.length)) ++ (O.drop k).map newA
  | 0, _ => by simp [stO]
  | k + 1, hk => by
    have hx : O[k]? = some O[k] := by simp
    have hl := h.len
    rw [stO_succ idealM hx (idsN_at (by omega)), stO_ideal h hv k (by omega)]
    have hlen : ((O.take k).map (fulA (idsN O.length))).length = k := by simp; omega
    have hd : (O.drop k).map newA = newA O[k] :: (O.drop (k + 1)).map newA := by
      rw [List.drop_eq_getElem_cons (by omega)]; rfl
    have hat : ((O.take k).map (fulA (idsN O.length)) ++ (O.drop k).map newA)[k]? = some (O[k].cls, List.replicate O[k].flds.length 2) := by
      rw [List.getElem?_append_right (by omega), hlen, Nat.sub_self, hd]
      simp [newA, newO]
    rw [stF_all hat (fun v hv2 => valW_nz hl (hv O[k] (by simp) v hv2))]
    rw [List.set_append_right _ _ (by omega), hlen, Nat.sub_self, hd, take_nxt8 hx, List.map_append, List.append_assoc]
    rfl
theorem ldI_ideal {O : List ObjA} (h : ObsOk O) : ldI idealM [] O = idsN O.length := by
  unfold ldI; rw [stA_ideal h O.length (Nat.le_refl _)]
theorem ldS_ideal {O : List ObjA} (h : ObsOk O) (hv : ∀ o ∈ O, ∀ v ∈ o.flds, valOk O.length v) : ldS idealM [] O = O.map (fulA (idsN O.length)) := by
  unfold ldS
  rw [ldI_ideal h, stA_ideal h O.length (Nat.le_refl _)]
  simp only [List.take_length]
  rw [stO_ideal h hv O.length (Nat.le_refl _)]
  simp
theorem ai_ok {O : List ObjA} (h : ObsOk O) : ∀ k o, O[k]? = some o → idealM.ai (stA idealM [] O k).1 o.cls (o.flds.length : Int) ≠ -1 := fun k o hk => by
  have hok := h.ok o (List.mem_of_getElem? hk)
  show alI _ _ _ ≠ -1
  unfold alI
  rw [hok, if_pos rfl]
  omega
/-- what a field of a tape's object holds -/
theorem ful_get {O : List ObjA} {ids : List Int} {k j : Nat} {o : ObjA} {v : Int × Int} (hk : O[k]? = some o) (hj : o.flds[j]? = some v) : gvL (O.map (fulA ids)) (4 + (k : Int)) (j : Int) = valW v ids ∧ inO (O.map (fulA ids)) (4 + (k : Int)) (j : Int) = true := by
  have hat : (O.map (fulA ids))[k]? = some (fulA ids o) := by simp [hk]
  obtain ⟨e1, e2⟩ := hasL_at hat
  have hjl := (List.getElem?_eq_some_iff.1 hj).1
  have hin : inO (O.map (fulA ids)) (4 + (k : Int)) (j : Int) = true := by
    unfold inO
    rw [e1, e2, Bool.true_and, decide_eq_true_eq]
    simp only [fulA, List.length_map]
    omega
  refine ⟨?_, hin⟩
  unfold gvL
  rw [hin, if_pos rfl, e2]
  simp only [fulA, Int.toNat_natCast]
  rw [List.getD_eq_getElem?_getD, List.getElem?_map, hj]
  rfl
/-- the word of a value, read again -/
theorem word_read {n : Nat} (hn : n ≤ 1000) {v : Int × Int} (h : valOk n v) :
    Ww.isN (valW v (idsN n)) = decide (v.1 = 3) ∧ (v.1 = 3 → Ww.nv (valW v (idsN n)) = v.2) ∧ (v.1 = 4 → Ww.isD (valW v (idsN n)) = true ∧ Ww.dv (valW v (idsN n)) = 4 + v.2 ∧ 0 ≤ v.2 ∧ v.2 < n) ∧ (v.1 < 3 → Ww.isD (valW v (idsN n)) = true ∧ Ww.dv (valW v (idsN n)) ≤ 3) := by
  rcases h with rfl | rfl | rfl | ⟨g, g1, g2⟩ | ⟨g, g1, g2⟩
  · rw [show valW (0, 0) (idsN n) = 2 from rfl]
    exact ⟨by decide, by decide, fun h => absurd h (by decide), by decide⟩
  · rw [show valW (1, 0) (idsN n) = 6 from rfl]
    exact ⟨by decide, by decide, fun h => absurd h (by decide), by decide⟩
  · rw [show valW (2, 0) (idsN n) = 4 from rfl]
    exact ⟨by decide, by decide, fun h => absurd h (by decide), by decide⟩
  · have e : valW v (idsN n) = Ww.iv v.2 := by unfold valW; rw [g]; rfl
    have hf := Ww.fits_yes (n := v.2) (by omega) (by omega)
    rw [e, g]
    refine ⟨by rw [Ww.isN_iv hf]; rfl, fun _ => Ww.nv_iv hf, fun h => by omega, fun h => by omega⟩
  · have e : valW v (idsN n) = Ww.ov (4 + v.2) := by
      have : valW v (idsN n) = Ww.ov ((idsN n).getD v.2.toNat 0) := by unfold valW; rw [g]; rfl
      rw [this, idsN_getD (by omega), show ((v.2.toNat : Nat) : Int) = v.2 by omega]
    obtain ⟨h1, h2, h3⟩ := Ww.ov_yes (n := 4 + v.2) (by omega) (by omega)
    rw [e, g]
    refine ⟨?_, fun h => by omega, fun _ => ⟨h2, h3, g1, g2⟩, fun h => by omega⟩
    rw [h1]
    unfold Ww.isN
    have : 2 * (4 + v.2) % 2 = 0 := by omega
    rw [this]; rfl
end Wd
end Go.Proofs.Yteiejjmhmmkdhaa

/- A tape's classes are right. -/
namespace Go.Proofs.Yteiejjmhmmkdhaa
open Go.RowKit
set_option linter.unusedVariables false
set_option maxRecDepth 20000
namespace Wd
/-- classes of a tape, the first so many -/
structure TapeL (L : List ClassA) : Prop where
  le : L.length ≤ 5
  ok : ∀ (k : Nat) c, L[k]? = some c → clsOk L k c ∧ bndSub 6 c.binds
theorem TapeU.tl {U : UnitA} (h : TapeU U) : TapeL U.classes := ⟨h.cl1, fun k c hc => ⟨(h.cls k c hc).1, (h.cls k c hc).2.2⟩⟩
theorem TapeL.take {L : List ClassA} (h : TapeL L) (n : Nat) : TapeL (L.take n) := by
  refine ⟨by rw [List.length_take]; have := h.le; omega, fun k c hc => ?_⟩
  have hk : k < n ∧ L[k]? = some c := by
    rw [List.getElem?_take] at hc
    split at hc
    · exact ⟨by assumption, hc⟩
    · cases hc
  obtain ⟨a, b⟩ := h.ok k c hk.2
  refine ⟨⟨a.z, a.o, a.nm, fun h2 => ?_, a.fld⟩, b⟩
  rcases a.sup h2 with e | ⟨e1, e2, d, e3, e4⟩
  · exact Or.inl e
  · exact Or.inr ⟨e1, e2, d, by rw [List.getElem?_take, if_pos (by omega)]; exact e3, e4⟩
/-- the name of each -/
def nmOf (k : Nat) : ByteArray := if k = 0 then ⟨#[66, 108, 111, 99, 107]⟩ else if k = 1 then ⟨#[65, 114, 114, 97, 121]⟩ else cName (k - 2)
theorem nm_at {L : List ClassA} {k : Nat} {c : ClassA} (h : clsOk L k c) : c.nm = nmOf k := by
  unfold nmOf
  split
  · exact (h.z ‹_›).1
  · split
    · exact (h.o ‹_›).1
    · exact h.nm (by omega)
theorem nm_apart : ∀ i, i < 5 → ∀ j, j < i → nmOf j ≠ nmOf i := by decide +kernel
theorem nm_text : ∀ i, i < 5 → textOk (nmOf i) = true := by decide +kernel
theorem bnd_right {b : List (Int × Int)} (h : bndSub 6 b) : bindsOk b 6 9 = true := by
  have hl := h.len
  obtain ⟨S, h1, h2, rfl⟩ := h
  unfold bindsOk
  have a : (S.map (fun (s : Nat) => ((s : Int), (s : Int)))).all (bindOk 6 9) = true := by
    rw [List.all_eq_true]
    intro x hx
    obtain ⟨s, hs, rfl⟩ := List.mem_map.1 hx
    have := h2 s hs
    exact bindOk_of (by simp only; omega) (by simp only; omega) (by simp only; omega) (by simp only; omega)
  have d : ((S.map (fun (s : Nat) => ((s : Int), (s : Int)))).map (·.1)).Nodup := by
    rw [List.map_map, List.Nodup, List.pairwise_map]
    exact h1.imp (fun hlt e => by simp only [Function.comp] at e; omega)
  rw [a, decide_eq_true d, decide_eq_true (by omega)]
  rfl
theorem tape_cls {L : List ClassA} (h : TapeL L) {k : Nat} {c : ClassA} (hc : L[k]? = some c) : classOk L k c = true := by
  obtain ⟨a, _⟩ := h.ok k c hc
  have hk := (List.getElem?_eq_some_iff.1 hc).1
  have hk5 := h.le
  have hd := deep_le L (k + 1) c.super
  have key : -1 ≤ c.super ∧ c.super < k ∧ 0 ≤ c.fields ∧ c.fields ≤ 62 ∧ (c.super < 0 ∨ superF L c.super ≤ c.fields) := by
    rcases (show k = 0 ∨ k = 1 ∨ 2 ≤ k by omega) with e | e | e
    · obtain ⟨_, s, f⟩ := a.z e
      rw [s, f]; omega
    · obtain ⟨_, s, f⟩ := a.o e
      rw [s, f]; omega
    · obtain ⟨f0, f1⟩ := a.fld e
      rcases a.sup e with e1 | ⟨e1, e2, d, e3, e4⟩
      · omega
      · refine ⟨by omega, e2, f0, by omega, Or.inr ?_⟩
        unfold superF
        rw [e3]; exact e4
  obtain ⟨k1, k2, k3, k4, k5⟩ := key
  rw [classOk_eq k1 k2 k3 k4, decide_eq_true (by omega)]
  rcases k5 with k5 | k5
  · rw [decide_eq_true k5]; rfl
  · rw [decide_eq_true k5]; simp
theorem tape_from {L : List ClassA} (h : TapeL L) : ∀ (R : List ClassA) (i : Nat), L.drop i = R → shapeFrom L 6 9 i R = 0
  | [], _, _ => rfl
  | c :: R, i, e => by
    have hc : L[i]? = some c := by
      have := congrArg (fun l => l[0]?) e
      simpa [List.getElem?_drop] using this
    have hi := (List.getElem?_eq_some_iff.1 hc).1
    have h5 := h.le
    obtain ⟨a, b⟩ := h.ok i c hc
    have hn : ∀ x ∈ L.take i, x.nm ≠ c.nm := fun x hx => by
      obtain ⟨j, hj⟩ := List.getElem?_of_mem hx
      have hji : j < i ∧ L[j]? = some x := by
        rw [List.getElem?_take] at hj
        split at hj
        · exact ⟨by assumption, hj⟩
        · cases hj
      rw [nm_at (h.ok j x hji.2).1, nm_at a]
      exact nm_apart i (by omega) j hji.1
    rw [shapeFrom, if_neg (by rw [nm_at a, nm_text i (by omega)]; decide), if_neg (by rw [anyNot hn]; decide), if_neg (by rw [tape_cls h hc]; decide), if_neg (by rw [bnd_right b]; decide)]
    refine tape_from h R (i + 1) ?_
    have := drop_next hc
    rw [e] at this
    exact (List.cons.inj this).2.symm
theorem tape_right {L : List ClassA} (h : TapeL L) (h2 : 2 ≤ L.length) : shapeR L 6 9 = 0 := by
  have h5 := h.le
  have hh : headOk L = true := by
    obtain ⟨a, ha⟩ : ∃ x, L[0]? = some x := ⟨L[0]'(by omega), by simp⟩
    obtain ⟨b, hb⟩ : ∃ x, L[1]? = some x := ⟨L[1]'(by omega), by simp⟩
    rw [head_at ha hb]
    obtain ⟨_, s0, f0⟩ := (h.ok 0 a ha).1.z rfl
    obtain ⟨_, s1, f1⟩ := (h.ok 1 b hb).1.o rfl
    rw [s0, f0, s1, f1]; rfl
  unfold shapeR
  rw [if_neg (by omega), if_neg (by rw [hh]; decide)]
  exact tape_from h L 0 rfl
end Wd
end Go.Proofs.Yteiejjmhmmkdhaa

/- A tape's methods are right. -/
namespace Go.Proofs.Yteiejjmhmmkdhaa
open Go.RowKit
set_option linter.unusedVariables false
set_option maxRecDepth 20000
namespace Wd
theorem wr8_id {x : Int} (h0 : 0 ≤ x) (h1 : x ≤ 255) : wr8 x = x := by
  have e : wr8 x = x % 256 := by
    unfold wr8 IntKind.wrap
    rfl
  rw [e]; omega
/-- the instruction y, number j of n that go together, whose literals are a tape's: may it be done? -/
def insW (j n : Nat) (y : Int × Int) : Prop :=
  ((y.1 = 0 ∨ y.1 = 10) ∧ y.2 < 2) ∨ ((y.1 = 1 ∨ y.1 = 11) ∧ y.2 < 62) ∨ (y.1 = 2 ∧ 0 ≤ y.2 ∧ y.2 < 4) ∨ ((y.1 = 12 ∨ y.1 = 13) ∧ 4 ≤ y.2 ∧ y.2 < 10) ∨ (y.1 = 20 ∧ 10 ≤ y.2 ∧ y.2 < 12) ∨ (y.1 = 18 ∧ 12 ≤ y.2 ∧ y.2 < 14) ∨ (y.1 = 17 ∧ (j : Int) + 1 + y.2 ≤ n) ∨ (y.1 = 21 ∧ y.2 ≤ 23) ∨ ((3 ≤ y.1 ∧ y.1 ≤ 9) ∨ y.1 = 14 ∨ y.1 = 19)
theorem w_mk {j n : Nat} {a b : Int} (h : ((a = 0 ∨ a = 10) ∧ b < 2) ∨ ((a = 1 ∨ a = 11) ∧ b < 62) ∨ (a = 2 ∧ 0 ≤ b ∧ b < 4) ∨ ((a = 12 ∨ a = 13) ∧ 4 ≤ b ∧ b < 10) ∨ (a = 20 ∧ 10 ≤ b ∧ b < 12) ∨ (a = 18 ∧ 12 ≤ b ∧ b < 14) ∨ (a = 17 ∧ (j : Int) + 1 + b ≤ n) ∨ (a = 21 ∧ b ≤ 23) ∨ ((3 ≤ a ∧ a ≤ 9) ∨ a = 14 ∨ a = 19)) : insW j n (a, b) := h
theorem w_A {l : List (Int × Int)} (h : pkA l) {j : Nat} {z9 : Int × Int} (hj : l[j]? = some z9) : insW j l.length z9 := by
  obtain ⟨a, ha, rfl⟩ := h
  rcases (show j = 0 ∨ j = 1 ∨ j = 2 by have := (List.getElem?_eq_some_iff.1 hj).1; simp at this; omega) with rfl | rfl | rfl
  · obtain rfl : (wr8 7, wr8 a) = z9 := by simpa using hj
    have b9 := wr8_bd a
    rw [wr8_id (x := 7) (by omega) (by omega)]
    refine w_mk (n := 3) ?_
    omega
  · obtain rfl : (wr8 21, wr8 10) = z9 := by simpa using hj
    have b9 := wr8_bd 10
    rw [wr8_id (x := 21) (by omega) (by omega)]
    rw [wr8_id (x := 10) (by omega) (by omega)]
    refine w_mk (n := 3) ?_
    omega
  · obtain rfl : (wr8 8, wr8 0) = z9 := by simpa using hj
    have b9 := wr8_bd 0
    rw [wr8_id (x := 8) (by omega) (by omega)]
    refine w_mk (n := 3) ?_
    omega
theorem w_B {l : List (Int × Int)} (h : pkB l) {j : Nat} {z9 : Int × Int} (hj : l[j]? = some z9) : insW j l.length z9 := by
  obtain ⟨s, hs, rfl⟩ := h
  rcases (show j = 0 ∨ j = 1 ∨ j = 2 by have := (List.getElem?_eq_some_iff.1 hj).1; simp at this; omega) with rfl | rfl | rfl
  · obtain rfl : (wr8 3, wr8 0) = z9 := by simpa using hj
    have b9 := wr8_bd 0
    rw [wr8_id (x := 3) (by omega) (by omega)]
    refine w_mk (n := 3) ?_
    omega
  · obtain rfl : (wr8 12, wr8 s) = z9 := by simpa using hj
    have b9 := wr8_bd s
    rw [wr8_id (x := 12) (by omega) (by omega)]
    rw [wr8_id (x := s) (by omega) (by omega)]
    refine w_mk (n := 3) ?_
    omega
  · obtain rfl : (wr8 8, wr8 0) = z9 := by simpa using hj
    have b9 := wr8_bd 0
    rw [wr8_id (x := 8) (by omega) (by omega)]
    refine w_mk (n := 3) ?_
    omega
theorem w_C {l : List (Int × Int)} (h : pkC l) {j : Nat} {z9 : Int × Int} (hj : l[j]? = some z9) : insW j l.length z9 := by
  obtain ⟨a, x, ha, hx, rfl⟩ := h
  rcases (show j = 0 ∨ j = 1 ∨ j = 2 ∨ j = 3 ∨ j = 4 by have := (List.getElem?_eq_some_iff.1 hj).1; simp at this; omega) with rfl | rfl | rfl | rfl | rfl
  · obtain rfl : (wr8 3, wr8 0) = z9 := by simpa using hj
    have b9 := wr8_bd 0
    rw [wr8_id (x := 3) (by omega) (by omega)]
    refine w_mk (n := 5) ?_
    omega
  · obtain rfl : (wr8 7, wr8 a) = z9 := by simpa using hj
    have b9 := wr8_bd a
    rw [wr8_id (x := 7) (by omega) (by omega)]
    refine w_mk (n := 5) ?_
    omega
  · obtain rfl : (wr8 12, wr8 (5 + x)) = z9 := by simpa using hj
    have b9 := wr8_bd (5 + x)
    rw [wr8_id (x := 12) (by omega) (by omega)]
    rw [wr8_id (x := (5 + x)) (by omega) (by omega)]
    refine w_mk (n := 5) ?_
    omega
  · obtain rfl : (wr8 21, wr8 10) = z9 := by simpa using hj
    have b9 := wr8_bd 10
    rw [wr8_id (x := 21) (by omega) (by omega)]
    rw [wr8_id (x := 10) (by omega) (by omega)]
    refine w_mk (n := 5) ?_
    omega
  · obtain rfl : (wr8 8, wr8 0) = z9 := by simpa using hj
    have b9 := wr8_bd 0
    rw [wr8_id (x := 8) (by omega) (by omega)]
    refine w_mk (n := 5) ?_
    omega
theorem w_D {l : List (Int × Int)} (h : pkD l) {j : Nat} {z9 : Int × Int} (hj : l[j]? = some z9) : insW j l.length z9 := by
  obtain ⟨i, a, q, hi, ha, hq, rfl⟩ := h
  rcases (show j = 0 ∨ j = 1 ∨ j = 2 ∨ j = 3 ∨ j = 4 by have := (List.getElem?_eq_some_iff.1 hj).1; simp at this; omega) with rfl | rfl | rfl | rfl | rfl
  · obtain rfl : (wr8 2, wr8 i) = z9 := by simpa using hj
    have b9 := wr8_bd i
    rw [wr8_id (x := 2) (by omega) (by omega)]
    rw [wr8_id (x := i) (by omega) (by omega)]
    refine w_mk (n := 5) ?_
    omega
  · obtain rfl : (wr8 7, wr8 (a - 9)) = z9 := by simpa using hj
    have b9 := wr8_bd (a - 9)
    rw [wr8_id (x := 7) (by omega) (by omega)]
    refine w_mk (n := 5) ?_
    omega
  · obtain rfl : (wr8 21, wr8 q) = z9 := by simpa using hj
    have b9 := wr8_bd q
    rw [wr8_id (x := 21) (by omega) (by omega)]
    rw [wr8_id (x := q) (by omega) (by omega)]
    refine w_mk (n := 5) ?_
    omega
  · obtain rfl : (wr8 21, wr8 10) = z9 := by simpa using hj
    have b9 := wr8_bd 10
    rw [wr8_id (x := 21) (by omega) (by omega)]
    rw [wr8_id (x := 10) (by omega) (by omega)]
    refine w_mk (n := 5) ?_
    omega
  · obtain rfl : (wr8 8, wr8 0) = z9 := by simpa using hj
    have b9 := wr8_bd 0
    rw [wr8_id (x := 8) (by omega) (by omega)]
    refine w_mk (n := 5) ?_
    omega
theorem w_E {l : List (Int × Int)} (h : pkE l) {j : Nat} {z9 : Int × Int} (hj : l[j]? = some z9) : insW j l.length z9 := by
  obtain ⟨x, y, hx, hy, rfl⟩ := h
  rcases (show j = 0 ∨ j = 1 ∨ j = 2 by have := (List.getElem?_eq_some_iff.1 hj).1; simp at this; omega) with rfl | rfl | rfl
  · obtain rfl : (wr8 20, wr8 (10 + x)) = z9 := by simpa using hj
    have b9 := wr8_bd (10 + x)
    rw [wr8_id (x := 20) (by omega) (by omega)]
    rw [wr8_id (x := (10 + x)) (by omega) (by omega)]
    refine w_mk (n := 3) ?_
    omega
  · obtain rfl : (wr8 10, wr8 y) = z9 := by simpa using hj
    have b9 := wr8_bd y
    rw [wr8_id (x := 10) (by omega) (by omega)]
    rw [wr8_id (x := y) (by omega) (by omega)]
    refine w_mk (n := 3) ?_
    omega
  · obtain rfl : (wr8 8, wr8 0) = z9 := by simpa using hj
    have b9 := wr8_bd 0
    rw [wr8_id (x := 8) (by omega) (by omega)]
    refine w_mk (n := 3) ?_
    omega
theorem w_F {l : List (Int × Int)} (h : pkF l) {j : Nat} {z9 : Int × Int} (hj : l[j]? = some z9) : insW j l.length z9 := by
  obtain ⟨a, y, ha, hy, rfl⟩ := h
  rcases (show j = 0 ∨ j = 1 ∨ j = 2 ∨ j = 3 by have := (List.getElem?_eq_some_iff.1 hj).1; simp at this; omega) with rfl | rfl | rfl | rfl
  · obtain rfl : (wr8 7, wr8 a) = z9 := by simpa using hj
    have b9 := wr8_bd a
    rw [wr8_id (x := 7) (by omega) (by omega)]
    refine w_mk (n := 4) ?_
    omega
  · obtain rfl : (wr8 21, wr8 18) = z9 := by simpa using hj
    have b9 := wr8_bd 18
    rw [wr8_id (x := 21) (by omega) (by omega)]
    rw [wr8_id (x := 18) (by omega) (by omega)]
    refine w_mk (n := 4) ?_
    omega
  · obtain rfl : (wr8 10, wr8 y) = z9 := by simpa using hj
    have b9 := wr8_bd y
    rw [wr8_id (x := 10) (by omega) (by omega)]
    rw [wr8_id (x := y) (by omega) (by omega)]
    refine w_mk (n := 4) ?_
    omega
  · obtain rfl : (wr8 8, wr8 0) = z9 := by simpa using hj
    have b9 := wr8_bd 0
    rw [wr8_id (x := 8) (by omega) (by omega)]
    refine w_mk (n := 4) ?_
    omega
theorem w_G {l : List (Int × Int)} (h : pkG l) {j : Nat} {z9 : Int × Int} (hj : l[j]? = some z9) : insW j l.length z9 := by
  obtain ⟨x, k, s, z, hx, hk, hs, hz, rfl⟩ := h
  rcases (show j = 0 ∨ j = 1 ∨ j = 2 ∨ j = 3 ∨ j = 4 by have := (List.getElem?_eq_some_iff.1 hj).1; simp at this; omega) with rfl | rfl | rfl | rfl | rfl
  · obtain rfl : (wr8 0, wr8 x) = z9 := by simpa using hj
    have b9 := wr8_bd x
    rw [wr8_id (x := 0) (by omega) (by omega)]
    rw [wr8_id (x := x) (by omega) (by omega)]
    refine w_mk (n := 5) ?_
    omega
  · obtain rfl : (wr8 7, wr8 k) = z9 := by simpa using hj
    have b9 := wr8_bd k
    rw [wr8_id (x := 7) (by omega) (by omega)]
    refine w_mk (n := 5) ?_
    omega
  · obtain rfl : (wr8 s, wr8 z) = z9 := by simpa using hj
    have b9 := wr8_bd z
    rw [wr8_id (x := s) (by omega) (by omega)]
    rw [wr8_id (x := z) (by omega) (by omega)]
    refine w_mk (n := 5) ?_
    omega
  · obtain rfl : (wr8 21, wr8 9) = z9 := by simpa using hj
    have b9 := wr8_bd 9
    rw [wr8_id (x := 21) (by omega) (by omega)]
    rw [wr8_id (x := 9) (by omega) (by omega)]
    refine w_mk (n := 5) ?_
    omega
  · obtain rfl : (wr8 8, wr8 0) = z9 := by simpa using hj
    have b9 := wr8_bd 0
    rw [wr8_id (x := 8) (by omega) (by omega)]
    refine w_mk (n := 5) ?_
    omega
theorem w_H {l : List (Int × Int)} (h : pkH l) {j : Nat} {z9 : Int × Int} (hj : l[j]? = some z9) : insW j l.length z9 := by
  obtain ⟨x, k, hx, hk, rfl⟩ := h
  rcases (show j = 0 ∨ j = 1 ∨ j = 2 ∨ j = 3 by have := (List.getElem?_eq_some_iff.1 hj).1; simp at this; omega) with rfl | rfl | rfl | rfl
  · obtain rfl : (wr8 0, wr8 x) = z9 := by simpa using hj
    have b9 := wr8_bd x
    rw [wr8_id (x := 0) (by omega) (by omega)]
    rw [wr8_id (x := x) (by omega) (by omega)]
    refine w_mk (n := 4) ?_
    omega
  · obtain rfl : (wr8 7, wr8 k) = z9 := by simpa using hj
    have b9 := wr8_bd k
    rw [wr8_id (x := 7) (by omega) (by omega)]
    refine w_mk (n := 4) ?_
    omega
  · obtain rfl : (wr8 21, wr8 8) = z9 := by simpa using hj
    have b9 := wr8_bd 8
    rw [wr8_id (x := 21) (by omega) (by omega)]
    rw [wr8_id (x := 8) (by omega) (by omega)]
    refine w_mk (n := 4) ?_
    omega
  · obtain rfl : (wr8 21, wr8 10) = z9 := by simpa using hj
    have b9 := wr8_bd 10
    rw [wr8_id (x := 21) (by omega) (by omega)]
    rw [wr8_id (x := 10) (by omega) (by omega)]
    refine w_mk (n := 4) ?_
    omega
theorem w_I {l : List (Int × Int)} (h : pkI l) {j : Nat} {z9 : Int × Int} (hj : l[j]? = some z9) : insW j l.length z9 := by
  unfold pkI at h
  subst h
  rcases (show j = 0 ∨ j = 1 ∨ j = 2 by have := (List.getElem?_eq_some_iff.1 hj).1; simp at this; omega) with rfl | rfl | rfl
  · obtain rfl : (wr8 18, wr8 12) = z9 := by simpa using hj
    have b9 := wr8_bd 12
    rw [wr8_id (x := 18) (by omega) (by omega)]
    rw [wr8_id (x := 12) (by omega) (by omega)]
    refine w_mk (n := 3) ?_
    omega
  · obtain rfl : (wr8 21, wr8 11) = z9 := by simpa using hj
    have b9 := wr8_bd 11
    rw [wr8_id (x := 21) (by omega) (by omega)]
    rw [wr8_id (x := 11) (by omega) (by omega)]
    refine w_mk (n := 3) ?_
    omega
  · obtain rfl : (wr8 8, wr8 0) = z9 := by simpa using hj
    have b9 := wr8_bd 0
    rw [wr8_id (x := 8) (by omega) (by omega)]
    refine w_mk (n := 3) ?_
    omega
theorem w_J {l : List (Int × Int)} (h : pkJ l) {j : Nat} {z9 : Int × Int} (hj : l[j]? = some z9) : insW j l.length z9 := by
  obtain ⟨a, ha, rfl⟩ := h
  rcases (show j = 0 ∨ j = 1 ∨ j = 2 ∨ j = 3 by have := (List.getElem?_eq_some_iff.1 hj).1; simp at this; omega) with rfl | rfl | rfl | rfl
  · obtain rfl : (wr8 18, wr8 13) = z9 := by simpa using hj
    have b9 := wr8_bd 13
    rw [wr8_id (x := 18) (by omega) (by omega)]
    rw [wr8_id (x := 13) (by omega) (by omega)]
    refine w_mk (n := 4) ?_
    omega
  · obtain rfl : (wr8 7, wr8 a) = z9 := by simpa using hj
    have b9 := wr8_bd a
    rw [wr8_id (x := 7) (by omega) (by omega)]
    refine w_mk (n := 4) ?_
    omega
  · obtain rfl : (wr8 21, wr8 12) = z9 := by simpa using hj
    have b9 := wr8_bd 12
    rw [wr8_id (x := 21) (by omega) (by omega)]
    rw [wr8_id (x := 12) (by omega) (by omega)]
    refine w_mk (n := 4) ?_
    omega
  · obtain rfl : (wr8 8, wr8 0) = z9 := by simpa using hj
    have b9 := wr8_bd 0
    rw [wr8_id (x := 8) (by omega) (by omega)]
    refine w_mk (n := 4) ?_
    omega
theorem w_K {l : List (Int × Int)} (h : pkK l) {j : Nat} {z9 : Int × Int} (hj : l[j]? = some z9) : insW j l.length z9 := by
  obtain ⟨k, hk, rfl⟩ := h
  rcases (show j = 0 ∨ j = 1 ∨ j = 2 ∨ j = 3 by have := (List.getElem?_eq_some_iff.1 hj).1; simp at this; omega) with rfl | rfl | rfl | rfl
  · obtain rfl : (wr8 18, wr8 12) = z9 := by simpa using hj
    have b9 := wr8_bd 12
    rw [wr8_id (x := 18) (by omega) (by omega)]
    rw [wr8_id (x := 12) (by omega) (by omega)]
    refine w_mk (n := 4) ?_
    omega
  · obtain rfl : (wr8 7, wr8 k) = z9 := by simpa using hj
    have b9 := wr8_bd k
    rw [wr8_id (x := 7) (by omega) (by omega)]
    refine w_mk (n := 4) ?_
    omega
  · obtain rfl : (wr8 21, wr8 13) = z9 := by simpa using hj
    have b9 := wr8_bd 13
    rw [wr8_id (x := 21) (by omega) (by omega)]
    rw [wr8_id (x := 13) (by omega) (by omega)]
    refine w_mk (n := 4) ?_
    omega
  · obtain rfl : (wr8 8, wr8 0) = z9 := by simpa using hj
    have b9 := wr8_bd 0
    rw [wr8_id (x := 8) (by omega) (by omega)]
    refine w_mk (n := 4) ?_
    omega
theorem w_L {l : List (Int × Int)} (h : pkL l) {j : Nat} {z9 : Int × Int} (hj : l[j]? = some z9) : insW j l.length z9 := by
  obtain ⟨k, x, hk, hx, rfl⟩ := h
  rcases (show j = 0 ∨ j = 1 ∨ j = 2 by have := (List.getElem?_eq_some_iff.1 hj).1; simp at this; omega) with rfl | rfl | rfl
  · obtain rfl : (wr8 7, wr8 k) = z9 := by simpa using hj
    have b9 := wr8_bd k
    rw [wr8_id (x := 7) (by omega) (by omega)]
    refine w_mk (n := 3) ?_
    omega
  · obtain rfl : (wr8 21, wr8 (15 + x)) = z9 := by simpa using hj
    have b9 := wr8_bd (15 + x)
    rw [wr8_id (x := 21) (by omega) (by omega)]
    rw [wr8_id (x := (15 + x)) (by omega) (by omega)]
    refine w_mk (n := 3) ?_
    omega
  · obtain rfl : (wr8 8, wr8 0) = z9 := by simpa using hj
    have b9 := wr8_bd 0
    rw [wr8_id (x := 8) (by omega) (by omega)]
    refine w_mk (n := 3) ?_
    omega
theorem w_M {l : List (Int × Int)} (h : pkM l) {j : Nat} {z9 : Int × Int} (hj : l[j]? = some z9) : insW j l.length z9 := by
  obtain ⟨s, hs, rfl⟩ := h
  rcases (show j = 0 ∨ j = 1 by have := (List.getElem?_eq_some_iff.1 hj).1; simp at this; omega) with rfl | rfl
  · obtain rfl : (wr8 21, wr8 s) = z9 := by simpa using hj
    have b9 := wr8_bd s
    rw [wr8_id (x := 21) (by omega) (by omega)]
    rw [wr8_id (x := s) (by omega) (by omega)]
    refine w_mk (n := 2) ?_
    omega
  · obtain rfl : (wr8 8, wr8 0) = z9 := by simpa using hj
    have b9 := wr8_bd 0
    rw [wr8_id (x := 8) (by omega) (by omega)]
    refine w_mk (n := 2) ?_
    omega
theorem w_N {l : List (Int × Int)} (h : pkN l) {j : Nat} {z9 : Int × Int} (hj : l[j]? = some z9) : insW j l.length z9 := by
  obtain ⟨x, a, hx, ha, rfl⟩ := h
  rcases (show j = 0 ∨ j = 1 ∨ j = 2 ∨ j = 3 by have := (List.getElem?_eq_some_iff.1 hj).1; simp at this; omega) with rfl | rfl | rfl | rfl
  · obtain rfl : (wr8 (5 + x), wr8 0) = z9 := by simpa using hj
    have b9 := wr8_bd 0
    rw [wr8_id (x := (5 + x)) (by omega) (by omega)]
    refine w_mk (n := 4) ?_
    omega
  · obtain rfl : (wr8 17, wr8 1) = z9 := by simpa using hj
    have b9 := wr8_bd 1
    rw [wr8_id (x := 17) (by omega) (by omega)]
    rw [wr8_id (x := 1) (by omega) (by omega)]
    refine w_mk (n := 4) ?_
    omega
  · obtain rfl : (wr8 7, wr8 a) = z9 := by simpa using hj
    have b9 := wr8_bd a
    rw [wr8_id (x := 7) (by omega) (by omega)]
    refine w_mk (n := 4) ?_
    omega
  · obtain rfl : (wr8 8, wr8 0) = z9 := by simpa using hj
    have b9 := wr8_bd 0
    rw [wr8_id (x := 8) (by omega) (by omega)]
    refine w_mk (n := 4) ?_
    omega
theorem w_O {l : List (Int × Int)} (h : pkO l) {j : Nat} {z9 : Int × Int} (hj : l[j]? = some z9) : insW j l.length z9 := by
  obtain ⟨k, hk, rfl⟩ := h
  rcases (show j = 0 ∨ j = 1 ∨ j = 2 ∨ j = 3 ∨ j = 4 by have := (List.getElem?_eq_some_iff.1 hj).1; simp at this; omega) with rfl | rfl | rfl | rfl | rfl
  · obtain rfl : (wr8 0, wr8 0) = z9 := by simpa using hj
    have b9 := wr8_bd 0
    rw [wr8_id (x := 0) (by omega) (by omega)]
    refine w_mk (n := 5) ?_
    omega
  · obtain rfl : (wr8 0, wr8 1) = z9 := by simpa using hj
    have b9 := wr8_bd 1
    rw [wr8_id (x := 0) (by omega) (by omega)]
    rw [wr8_id (x := 1) (by omega) (by omega)]
    refine w_mk (n := 5) ?_
    omega
  · obtain rfl : (wr8 7, wr8 k) = z9 := by simpa using hj
    have b9 := wr8_bd k
    rw [wr8_id (x := 7) (by omega) (by omega)]
    refine w_mk (n := 5) ?_
    omega
  · obtain rfl : (wr8 21, wr8 19) = z9 := by simpa using hj
    have b9 := wr8_bd 19
    rw [wr8_id (x := 21) (by omega) (by omega)]
    rw [wr8_id (x := 19) (by omega) (by omega)]
    refine w_mk (n := 5) ?_
    omega
  · obtain rfl : (wr8 8, wr8 0) = z9 := by simpa using hj
    have b9 := wr8_bd 0
    rw [wr8_id (x := 8) (by omega) (by omega)]
    refine w_mk (n := 5) ?_
    omega
theorem w_P {l : List (Int × Int)} (h : pkP l) {j : Nat} {z9 : Int × Int} (hj : l[j]? = some z9) : insW j l.length z9 := by
  obtain ⟨s, hs, rfl⟩ := h
  rcases (show j = 0 ∨ j = 1 ∨ j = 2 ∨ j = 3 by have := (List.getElem?_eq_some_iff.1 hj).1; simp at this; omega) with rfl | rfl | rfl | rfl
  · obtain rfl : (wr8 0, wr8 0) = z9 := by simpa using hj
    have b9 := wr8_bd 0
    rw [wr8_id (x := 0) (by omega) (by omega)]
    refine w_mk (n := 4) ?_
    omega
  · obtain rfl : (wr8 0, wr8 1) = z9 := by simpa using hj
    have b9 := wr8_bd 1
    rw [wr8_id (x := 0) (by omega) (by omega)]
    rw [wr8_id (x := 1) (by omega) (by omega)]
    refine w_mk (n := 4) ?_
    omega
  · obtain rfl : (wr8 21, wr8 s) = z9 := by simpa using hj
    have b9 := wr8_bd s
    rw [wr8_id (x := 21) (by omega) (by omega)]
    rw [wr8_id (x := s) (by omega) (by omega)]
    refine w_mk (n := 4) ?_
    omega
  · obtain rfl : (wr8 8, wr8 0) = z9 := by simpa using hj
    have b9 := wr8_bd 0
    rw [wr8_id (x := 8) (by omega) (by omega)]
    refine w_mk (n := 4) ?_
    omega
theorem w_Q {l : List (Int × Int)} (h : pkQ l) {j : Nat} {z9 : Int × Int} (hj : l[j]? = some z9) : insW j l.length z9 := by
  obtain ⟨x, y, hx, hy, rfl⟩ := h
  rcases (show j = 0 ∨ j = 1 ∨ j = 2 by have := (List.getElem?_eq_some_iff.1 hj).1; simp at this; omega) with rfl | rfl | rfl
  · obtain rfl : (wr8 1, wr8 x) = z9 := by simpa using hj
    have b9 := wr8_bd x
    rw [wr8_id (x := 1) (by omega) (by omega)]
    rw [wr8_id (x := x) (by omega) (by omega)]
    refine w_mk (n := 3) ?_
    omega
  · obtain rfl : (wr8 11, wr8 y) = z9 := by simpa using hj
    have b9 := wr8_bd y
    rw [wr8_id (x := 11) (by omega) (by omega)]
    rw [wr8_id (x := y) (by omega) (by omega)]
    refine w_mk (n := 3) ?_
    omega
  · obtain rfl : (wr8 8, wr8 0) = z9 := by simpa using hj
    have b9 := wr8_bd 0
    rw [wr8_id (x := 8) (by omega) (by omega)]
    refine w_mk (n := 3) ?_
    omega
theorem w_R {l : List (Int × Int)} (h : pkR l) {j : Nat} {z9 : Int × Int} (hj : l[j]? = some z9) : insW j l.length z9 := by
  obtain ⟨x, y, hx, hy, rfl⟩ := h
  rcases (show j = 0 ∨ j = 1 by have := (List.getElem?_eq_some_iff.1 hj).1; simp at this; omega) with rfl | rfl
  · obtain rfl : (wr8 0, wr8 x) = z9 := by simpa using hj
    have b9 := wr8_bd x
    rw [wr8_id (x := 0) (by omega) (by omega)]
    rw [wr8_id (x := x) (by omega) (by omega)]
    refine w_mk (n := 2) ?_
    omega
  · obtain rfl : (wr8 11, wr8 y) = z9 := by simpa using hj
    have b9 := wr8_bd y
    rw [wr8_id (x := 11) (by omega) (by omega)]
    rw [wr8_id (x := y) (by omega) (by omega)]
    refine w_mk (n := 2) ?_
    omega
theorem piece_w {l : List (Int × Int)} (h : pieceOk l) {j : Nat} {y : Int × Int} (hj : l[j]? = some y) : insW j l.length y := by
  rcases h with h | h | h | h | h | h | h | h | h | h | h | h | h | h | h | h | h | h
  · exact w_A h hj
  · exact w_B h hj
  · exact w_C h hj
  · exact w_D h hj
  · exact w_E h hj
  · exact w_F h hj
  · exact w_G h hj
  · exact w_H h hj
  · exact w_I h hj
  · exact w_J h hj
  · exact w_K h hj
  · exact w_L h hj
  · exact w_M h hj
  · exact w_N h hj
  · exact w_O h hj
  · exact w_P h hj
  · exact w_Q h hj
  · exact w_R h hj
/-- what is right in a row is right in a longer one, that many instructions in, as long as one follows -/
theorem insW.in {j n o N : Nat} {y : Int × Int} (h : insW j n y) (hN : o + n < N) : insW (o + j) N y ∧ (y.1 = 17 → ((o + j : Nat) : Int) + 1 + y.2 < N) := by
  rcases h with h | h | h | h | h | h | ⟨h, h2⟩ | h | h
  · exact ⟨Or.inl h, fun e => by clear hN; omega⟩
  · exact ⟨Or.inr (Or.inl h), fun e => by clear hN; omega⟩
  · exact ⟨Or.inr (Or.inr (Or.inl h)), fun e => by clear hN; omega⟩
  · exact ⟨Or.inr (Or.inr (Or.inr (Or.inl h))), fun e => by clear hN; omega⟩
  · exact ⟨Or.inr (Or.inr (Or.inr (Or.inr (Or.inl h)))), fun e => by clear hN; omega⟩
  · exact ⟨Or.inr (Or.inr (Or.inr (Or.inr (Or.inr (Or.inl h))))), fun e => by clear hN; omega⟩
  · exact ⟨Or.inr (Or.inr (Or.inr (Or.inr (Or.inr (Or.inr (Or.inl ⟨h, by omega⟩)))))), fun e => by omega⟩
  · exact ⟨Or.inr (Or.inr (Or.inr (Or.inr (Or.inr (Or.inr (Or.inr (Or.inl h))))))), fun e => by clear hN; omega⟩
  · exact ⟨Or.inr (Or.inr (Or.inr (Or.inr (Or.inr (Or.inr (Or.inr (Or.inr h))))))), fun e => by clear hN; omega⟩
theorem w_n {j n : Nat} {a b : Int} (h : (3 ≤ a ∧ a ≤ 9) ∨ a = 14 ∨ a = 19) : insW j n (a, b) := Or.inr (Or.inr (Or.inr (Or.inr (Or.inr (Or.inr (Or.inr (Or.inr h)))))))
theorem w_t {j n : Nat} {a b : Int} (h : a = 0 ∨ a = 10) (h2 : b < 2) : insW j n (a, b) := Or.inl ⟨h, h2⟩
theorem w_s {j n : Nat} {a b : Int} (h : a = 12 ∨ a = 13) (h2 : 4 ≤ b) (h3 : b < 10) : insW j n (a, b) := Or.inr (Or.inr (Or.inr (Or.inl ⟨h, h2, h3⟩)))
/-- .. wherever in the code it stands -/
def insG (N k : Nat) (y : Int × Int) : Prop := insW k N y ∧ (y.1 = 17 → (k : Int) + 1 + y.2 < N)
theorem flatten_g : ∀ (P : List (List (Int × Int))) (o N : Nat), (∀ x ∈ P, pieceOk x) → o + P.flatten.length < N → ∀ k y, P.flatten[k]? = some y → insG N (o + k) y
  | [], _, _, _, _, k, y, hy => by simp at hy
  | l :: P, o, N, hP, hN, k, y, hy => by
    rw [List.flatten_cons] at hy hN
    rw [List.length_append] at hN
    by_cases hk : k < l.length
    · rw [List.getElem?_append_left hk] at hy
      exact (piece_w (hP l (by simp)) hy).in (by omega)
    · rw [List.getElem?_append_right (by omega)] at hy
      have := flatten_g P (o + l.length) N (fun x hx => hP x (by simp [hx])) (by omega) (k - l.length) y hy
      rw [show o + k = o + l.length + (k - l.length) by omega]
      exact this
theorem code_g {b : Bool} {I : List (Int × Int)} (h : codeOk b I) : ∀ k y, I[k]? = some y → insG I.length k y := by
  obtain ⟨P, S, q, r, l, hI, h1, h5, hP, hS, hq, hr, hl⟩ := h
  intro k y hy
  have hlen : I.length = P.flatten.length + S.length + 2 := by rw [hI]; simp; omega
  generalize I.length = N at *
  rw [hI, List.append_assoc] at hy
  clear hI
  by_cases hk : k < P.flatten.length
  · rw [List.getElem?_append_left hk] at hy
    have := flatten_g P 0 N hP (by omega) k y hy
    rwa [Nat.zero_add] at this
  rw [List.getElem?_append_right (by omega)] at hy
  generalize k - P.flatten.length = k2 at *
  clear hP h1 h5 hk
  by_cases hk2 : k2 < S.length
  · rw [List.getElem?_append_left hk2] at hy
    rcases hS with rfl | rfl
    · simp at hk2
    · simp only [List.length_cons, List.length_nil] at hk2
      rcases (show k2 = 0 ∨ k2 = 1 by omega) with e | e
      · rw [e] at hy
        obtain rfl : (wr8 3, wr8 0) = y := by simpa using hy
        rw [wr8_id (x := 3) (by omega) (by omega)]
        exact ⟨w_n (by omega), fun e => by simp only at e; omega⟩
      · rw [e] at hy
        obtain rfl : (wr8 13, wr8 4) = y := by simpa using hy
        rw [wr8_id (x := 13) (by omega) (by omega), wr8_id (x := 4) (by omega) (by omega)]
        exact ⟨w_s (by omega) (by omega) (by omega), fun e => by simp only at e; omega⟩
  rw [List.getElem?_append_right (by omega)] at hy
  have hk3 := (List.getElem?_eq_some_iff.1 hy).1
  simp only [List.length_cons, List.length_nil] at hk3
  generalize k2 - S.length = k3 at *
  clear hS hk2 hlen
  rcases (show k3 = 0 ∨ k3 = 1 by omega) with e | e
  · rw [e] at hy
    obtain rfl : (wr8 q, wr8 r) = y := by simpa using hy
    rw [wr8_id (x := q) (by omega) (by omega), wr8_id (x := r) (by omega) (by omega)]
    by_cases q0 : q = 0
    · exact ⟨w_t (by omega) (by omega), fun e => by simp only at e; omega⟩
    · exact ⟨w_n (by omega), fun e => by simp only at e; omega⟩
  · rw [e] at hy
    obtain rfl : (wr8 l, wr8 0) = y := by simpa using hy
    rw [wr8_id (x := l) (by omega) (by omega), wr8_id (x := 0) (by omega) (by omega)]
    exact ⟨w_n (by omega), fun e => by simp only at e; omega⟩
theorem flat_at : ∀ (I : List (Int × Int)) (k : Nat) (y : Int × Int), I[k]? = some y → byAt (flat I) (2 * k) = y.1 ∧ byAt (flat I) (2 * k + 1) = y.2
  | [], k, y, h => by simp at h
  | x :: I, 0, y, h => by
    obtain rfl : x = y := by simpa using h
    exact ⟨rfl, rfl⟩
  | x :: I, k + 1, y, h => by
    have := flat_at I k y (by simpa using h)
    rw [show 2 * (k + 1) = 2 * k + 1 + 1 by omega, show 2 * k + 1 + 1 + 1 = (2 * k + 1) + 2 by omega]
    exact this
/-- the literals of a tape's method, by number -/
theorem lits_k {c : Int} {X : List (Int × Int)} (h : litsOk c X) : X.length = 14 ∧ (∀ i : Nat, i < 4 → (litAt X i).1 = 3) ∧ (∀ i : Nat, 4 ≤ i → i < 10 → (litAt X i).1 = 5) ∧ (∀ i : Nat, 10 ≤ i → i < 12 → (litAt X i).1 = 6 ∧ 1 < (litAt X i).2) ∧ (∀ i : Nat, 12 ≤ i → i < 14 → (litAt X i).1 = 7) := by
  obtain ⟨A, B, rfl, hA, hB, h1, h2⟩ := h
  have hS : (sels 6).length = 6 := by decide
  match A, hA, B, hB with
  | [a, b, c, d], _, [e, f], _ =>
    refine ⟨by simp [hS], fun i hi => ?_, fun i hi hj => ?_, fun i hi hj => ?_, fun i hi hj => ?_⟩
    · rcases (show i = 0 ∨ i = 1 ∨ i = 2 ∨ i = 3 by omega) with rfl | rfl | rfl | rfl
      · exact (h1 a (by simp)).1
      · exact (h1 b (by simp)).1
      · exact (h1 c (by simp)).1
      · exact (h1 d (by simp)).1
    · rcases (show i = 4 ∨ i = 5 ∨ i = 6 ∨ i = 7 ∨ i = 8 ∨ i = 9 by omega) with rfl | rfl | rfl | rfl | rfl | rfl <;> rfl
    · rcases (show i = 10 ∨ i = 11 by omega) with rfl | rfl
      · obtain ⟨p, q, _⟩ := h2 e (by simp)
        exact ⟨p, by have : (litAt ([a, b, c, d] ++ sels 6 ++ [e, f] ++ [(7, 7), (7, 8)]) ((10 : Nat) : Int)) = e := rfl; rw [this]; omega⟩
      · obtain ⟨p, q, _⟩ := h2 f (by simp)
        exact ⟨p, by have : (litAt ([a, b, c, d] ++ sels 6 ++ [e, f] ++ [(7, 7), (7, 8)]) ((11 : Nat) : Int)) = f := rfl; rw [this]; omega⟩
    · rcases (show i = 12 ∨ i = 13 by omega) with rfl | rfl <;> rfl
theorem has_at {X : List (Int × Int)} {i kind : Int} (h0 : 0 ≤ i) (h1 : i < (X.length : Int)) (h : (litAt X i).1 = kind) : hasLit X i kind = true := by
  unfold hasLit
  rw [decide_eq_true h1, decide_eq_true h]; rfl
theorem ins_ok {c : Int} {m : MethA} (hl : litsOk c m.lits) (ht : m.temps = 2) (ha : 0 ≤ m.args) {k N : Nat} (hN : m.code.length = 2 * N) {y : Int × Int} (hy : 0 ≤ y.2) (h : insG N k y) : insR m ((2 * k : Nat) : Int) y.1 y.2 = true := by
  obtain ⟨n14, l3, l5, l6, l7⟩ := lits_k hl
  obtain ⟨h, hj⟩ := h
  obtain ⟨op, arg⟩ := y
  unfold insW at h
  simp only at h hj hy ⊢
  obtain ⟨i, rfl⟩ : ∃ i : Nat, arg = i := ⟨arg.toNat, by omega⟩
  have hh3 : i < 4 → hasLit m.lits (i : Int) 3 = true := fun g => has_at (by omega) (by omega) (l3 i g)
  have hh5 : 4 ≤ i → i < 10 → hasLit m.lits (i : Int) 5 = true := fun g g2 => has_at (by omega) (by omega) (l5 i g g2)
  have hh6 : 10 ≤ i → i < 12 → hasLit m.lits (i : Int) 6 = true ∧ 1 < (litAt m.lits (i : Int)).2 := fun g g2 => ⟨has_at (by omega) (by omega) (l6 i g g2).1, (l6 i g g2).2⟩
  have hh7 : 12 ≤ i → i < 14 → hasLit m.lits (i : Int) 7 = true := fun g g2 => has_at (by omega) (by omega) (l7 i g g2)
  unfold insR
  by_cases e0 : op = 0 ∨ op = 10
  · rw [if_pos e0]; exact decide_eq_true (by omega)
  rw [if_neg e0]
  by_cases e1 : op = 1 ∨ op = 11
  · rw [if_pos e1]; exact decide_eq_true (by omega)
  rw [if_neg e1]
  by_cases e2 : op = 2
  · rw [if_pos e2]; exact hh3 (by omega)
  rw [if_neg e2]
  by_cases e3 : op = 12 ∨ op = 13
  · rw [if_pos e3]; exact hh5 (by omega) (by omega)
  rw [if_neg e3]
  by_cases e4 : op = 20
  · rw [if_pos e4, (hh6 (by omega) (by omega)).1]; exact decide_eq_true (hh6 (by omega) (by omega)).2
  rw [if_neg e4]
  by_cases e5 : op = 18
  · rw [if_pos e5]; exact hh7 (by omega) (by omega)
  rw [if_neg e5]
  by_cases e6 : op = 15 ∨ op = 17
  · rw [if_pos e6, hN]; exact decide_eq_true (by have := hj (by omega); omega)
  rw [if_neg e6]
  by_cases e7 : op = 16
  · omega
  rw [if_neg e7]
  by_cases e8 : op = 21
  · rw [if_pos e8]; exact decide_eq_true (by omega)
  rw [if_neg e8]
  exact decide_eq_true (by omega)
theorem insF_ok {m : MethA} {N : Nat} : ∀ (f k : Nat), f + k = N → (∀ j, k ≤ j → j < N → insR m ((2 * j : Nat) : Int) (byAt m.code (2 * j)) (byAt m.code (2 * j + 1)) = true) → insF m f (2 * k) = true
  | 0, k, _, _ => rfl
  | f + 1, k, e, h => by
    rw [insF, h k (Nat.le_refl _) (by omega), Bool.true_and, show 2 * k + 2 = 2 * (k + 1) by omega]
    exact insF_ok f (k + 1) (by omega) (fun j hj hj2 => h j (by omega) hj2)
/-- a tape's method is right, within a program that has its names, its classes, nine methods -/
theorem meth_ok {c : Int} {j : Nat} {m : MethA} (h : methOk c j m) (hj : j < 9) {nn nc nm : Nat} (hn : nn = 6) (hc : c = (nc : Int)) (hm : nm = 9) : metR m nn nc nm = 0 := by
  obtain ⟨I, hI, eI⟩ := h.code
  have hfl : m.code.length = 2 * I.length := by rw [eI, flat_len]
  obtain ⟨n14, l3, l5, l6, l7⟩ := lits_k h.lits
  have ht := h.temps
  have ha : 0 ≤ m.args ∧ m.args ≤ 2 := by
    rw [h.args]
    split
    · exact argOf_le j
    · split <;> omega
  have hex := hI
  obtain ⟨P, S, q, r, l, eP, h1, h5, hP, hS, hq, hr, hl⟩ := hex
  have hPl := flatten_len P hP
  have hSl : S.length ≤ 2 := by rcases hS with rfl | rfl <;> simp
  have hIl : I.length = P.flatten.length + S.length + 2 := by rw [eP]; simp; omega
  have hlast : I[I.length - 1]? = some (wr8 l, wr8 0) := by
    rw [show I.length - 1 = P.flatten.length + S.length + 1 by omega, eP, List.getElem?_append_right (by rw [List.length_append]; omega), List.length_append, show P.flatten.length + S.length + 1 - (P.flatten.length + S.length) = 1 by omega]
    rfl
  have hby := flat_at I _ _ hlast
  rw [← eI, show 2 * (I.length - 1) = m.code.length - 2 by omega, show wr8 l = l from wr8_id (by omega) (by omega)] at hby
  unfold metR
  rw [if_neg (by omega), if_neg (by omega), if_neg (by rw [hby.1]; omega)]
  have hall : m.lits.all (fun x => litR x nn nc nm) = true := by
    rw [List.all_eq_true]
    intro x hx
    obtain ⟨A, B, e, hA, hB, g1, g2⟩ := h.lits
    rw [e] at hx
    simp only [List.mem_append] at hx
    rcases hx with ((hx | hx) | hx) | hx
    · obtain ⟨p, p2⟩ := g1 x hx
      obtain ⟨a, b⟩ := x
      simp only at p p2
      subst p
      show num30 b = true
      unfold num30
      rcases p2 with rfl | rfl | rfl | rfl | rfl <;> decide
    · unfold sels at hx
      obtain ⟨i, hi, rfl⟩ := List.mem_map.1 hx
      have := List.mem_range.1 hi
      refine (lit_sel _ _ _ _).trans ?_
      unfold inN
      rw [decide_eq_true (by omega), decide_eq_true (by omega)]; rfl
    · obtain ⟨p, p2, p3⟩ := g2 x hx
      obtain ⟨a, b⟩ := x
      simp only at p p2 p3
      subst p
      refine (lit_cls _ _ _ _).trans ?_
      unfold inN
      rw [decide_eq_true (by omega), decide_eq_true (by omega)]; rfl
    · simp only [List.mem_cons, List.not_mem_nil, or_false] at hx
      subst hm
      rcases hx with rfl | rfl <;> rfl
  rw [hall, if_neg (by decide)]
  have hins : insF m (m.code.length / 2) 0 = true := by
    rw [show m.code.length / 2 = I.length by omega]
    refine insF_ok (N := I.length) I.length 0 (by omega) (fun k _ hk => ?_)
    obtain ⟨y, hy⟩ : ∃ y, I[k]? = some y := ⟨I[k], by simp⟩
    obtain ⟨e1, e2⟩ := flat_at I k y hy
    rw [← eI] at e1 e2
    rw [e1, e2]
    exact ins_ok h.lits ht ha.1 hfl ((codeOk_by hI y (List.mem_of_getElem? hy)).2.1) (code_g hI k y hy)
  rw [hins, if_neg (by decide)]
end Wd
end Go.Proofs.Yteiejjmhmmkdhaa
