/- An append onto a row of the call's own, at a step of a region that draws: something or nothing is appended. -/
import Derived.Test.YtdfmbeilmbnpiaaRRef
import Derived.Maps.AppendAt
import Derived.Deep.AppendLies
import Derived.Deep.RegionHeldLaw
namespace Go.Proofs.Ytdfmbeilmbnpiaa
open Go.RowKit
namespace Wd
theorem step_append_at {P : Program} {w : World} {ops : Array Oper} {o : Oper} {a : Act} {K : Act → World → Prop} {Q : Exit → Act → World → Prop} {E : Prop} (hgd : o.guard = none) (s x : Operand) (t : TypeId)
    (ho : o.op = .call { callee := .builtin .append, args := #[s, x], argTypes := #[t, t] })
    (base : Nat) (e : TypeId) (i : TypeInfo) (z : Value) (size bytes : Nat) (ht : P.underlying t = some (.slice e)) (hi : P.info? e = some i) (hz : i.zero = some z)
    (hsize : i.size = size) (hby : i.bytes = bytes) (hzs : z.cells.size = size) (hsz : 0 < size)
    (v : Value) (n : Nat) (xs : List Value) (hs : a.eval s = v) (hown : w.ownsRow base e size v n xs)
    (ad : Addr) (m c : Nat) (news : List Value) (hx : a.eval x = .slice (some ad) m c) (hl : news.length = m * size) (hnews : ∀ j u, news[j]? = some u → w.cell? (ad.add j) = some u) (h1 : ∀ u ∈ news, u.oneCell' = true)
    (h63 : n + m ≤ maxLen) (hbytes : (n + m) * bytes ≤ 140737488355328) (hbase : base ≤ w.heap.size)
    (h : ∀ v' w', w'.ownsRow base e size v' (n + m) (xs ++ news) → w.grownBy w' v.ownBlock → (v'.ownBlock = v.ownBlock ∨ v'.ownBlock = some w.heap.size) → (v' = .slice none 0 0 ↔ v = .slice none 0 0 ∧ m = 0) → K (a.put o.dst v') w') :
    if Region.wanted o (yielded ops a.tmps) = true then Oper.wp P o a w K Q else E := by
  have hw : Region.wanted o (yielded ops a.tmps) = true := by simp [Region.wanted, hgd]
  rw [if_pos hw]
  obtain ⟨v', w', hr, h2, h3, h4, h5⟩ := run_append_own_at (P := P) w base t o.type e i z size bytes ht hi hz hsize hby hzs hsz v n xs hown ad m c news hl hnews h1 h63 hbytes hbase
  unfold Oper.wp execOp
  simp only [ho, resolve, invoke, builtin, Sem.run_bind, Sem.run_pure, Result.andThen_ok, List.map_toArray, List.map_cons, List.map_nil, hs, hx, hr]
  exact h v' w' h2 h3 h5 h4
theorem info3 : (Try.prog.info? 3).map (fun i => (i.zero, i.size, i.bytes)) = some (some (.int .i64 0), 1, 8) := by kernel_rfl
theorem ints_one (L : List Int) : ∀ u ∈ ints L, u.oneCell' = true := by
  intro u hu
  obtain ⟨x, _, rfl⟩ := List.mem_map.1 hu
  rfl
theorem ints_len (L : List Int) : (ints L).length = L.length * 1 := by simp [ints]
/-- the cells of L from k on, as an append reads them -/
theorem news_at {w : World} {e : TypeId} {g n cap k : Nat} {L M : List Int} (h : w.ownsRow 0 e 1 (.slice (some ⟨g, 0, none⟩) n cap) n (ints L)) (hM : ∀ j x, M[j]? = some x → L[k + j]? = some x) :
    ∀ j u, (ints M)[j]? = some u → w.cell? ((⟨g, k, none⟩ : Addr).add j) = some u := by
  intro j u hu
  simp only [ints, List.getElem?_map, Option.map_eq_some_iff] at hu
  obtain ⟨x, hx, rfl⟩ := hu
  rw [Addr.add_lit]
  exact row_cell h (hM j x hx)
theorem drop_at (L : List Int) (k : Nat) : ∀ j x, (L.drop k)[j]? = some x → L[k + j]? = some x := by
  intro j x h; rw [List.getElem?_drop] at h; exact h
theorem take_at (L : List Int) (k : Nat) : ∀ j x, (L.take k)[j]? = some x → L[0 + j]? = some x := by
  intro j x h
  rw [List.getElem?_take] at h
  split at h
  · rw [Nat.zero_add]; exact h
  · cases h
/-- 'b' is none of the rows that an append may have written -/
theorem far_of {b S : Nat} {v : Value} (hb : b < S) (h : v.ownBlock = some S ∨ v.ownBlock = some (S + 1)) : some b ≠ v.ownBlock := by
  rcases h with h | h <;> rw [h] <;> simp <;> omega
theorem app_end {w w1 w2 : World} {e : TypeId} {A B : List Int} {c : Array Value} {a m : Nat} {v1 v2 : Value} {row : Option Nat}
    (ha : a + m = (A ++ B).length) (hown : w2.ownsRow 0 e 1 v2 (a + m) (([] ++ ints A) ++ ints B)) (g1 : (w.alloc (.cells c e)).drew.grownBy w1 row) (hrow : row = some w.heap.size)
    (h1 : v1.ownBlock = some w.heap.size ∨ v1.ownBlock = some (w.heap.size + 1)) (g2 : w1.grownBy w2 v1.ownBlock) : SL w2 e v2 (A ++ B) ∧ Below w.heap.size w w2 := by
  constructor
  · unfold SL
    rw [← ha]
    simpa [ints] using hown
  · have b0 : Below w.heap.size w (w.alloc (.cells c e)).drew := ((Below.refl _ _).alloc (Nat.le_refl _) _).drew
    have s0 : w.heap.size ≤ (w.alloc (.cells c e)).drew.heap.size := b0.size
    have b1 := b0.grown g1 s0 (fun k hk => by rw [hrow] at hk; cases hk; exact Nat.le_refl _)
    refine b1.grown g2 b1.size (fun k hk => ?_)
    rcases h1 with h1 | h1 <;> rw [h1] at hk <;> cases hk <;> omega
set_option maxHeartbeats 16000000 in
theorem from_c (i : Int) (b : Nat) (N : Int) (L : List Int) (v : Value) (w : World) (h : RefAt w b N L v) (hl : L.length ≤ 8192) :
    Calls Try.prog 27 #[.pointer (some ⟨b, 0, none⟩), .int .i64 i] w fun e w' => ∃ u, e = .returned u ∧ SL w' 3 u (frm L i) ∧ Below w.heap.size w w' := by
  by_cases hi : i ∈ L
  · obtain ⟨k, hk, hlt, hx⟩ := idx_in L i hi
    rcases h.own.cases with ⟨rfl, rfl⟩ | ⟨g, cap, rfl, hle, hm, hg, hown⟩
    · cases hi
    have e1 : frm L i = L.drop k ++ L.take k := by unfold frm; rw [if_pos hi, hx]
    have hL := h.l
    have hb := World.block_lt_of_cell? w _ hL
    have O1 : Hid ((w.alloc (.cells #[] 3)).drew.ownsRow 0 3 1 (.slice (some ⟨w.heap.size, 0, none⟩) 0 0) 0 []) := Lib.hid (World.ownsRow_made w #[] 0 (by omega) (by decide) rfl)
    have V1 : Hid ((w.alloc (.cells #[] 3)).drew.ownsRow 0 3 1 (.slice (some ⟨g, 0, none⟩) L.length cap) L.length (ints L)) := Lib.hid (hown.alloc _)
    have H := Lib.hid h
    clear h hi hown hx
    rw [e1]; clear e1
    obtain ⟨n, hn⟩ : ∃ n, n = L.length := ⟨_, rfl⟩
    rw [← hn] at hL hlt hle hl
    have HN := Lib.hid hn
    have D1 : Hid ((ints (L.drop k)).length = (n - k) * 1) := Lib.hid (by rw [ints_len, List.length_drop, hn])
    have T1 : Hid ((ints (L.take k)).length = k * 1) := Lib.hid (by rw [ints_len, List.length_take]; omega)
    clear hn
    have hck : ¬ cap = k := by omega
    have hmx : Hid (n ≤ maxLen) := Lib.hid (by omega)
    obtain ⟨i0, hi0, hz0, hz1, hz2⟩ := info_parts info3
    go_enter Try.func27, Try.ntmps27
    go_wp2_with (first | (go_at_call 24; ((with_reducible refine (at_c i b N L _ w H.out (by rw [← HN.out]; exact hl)).mono ?_); rintro e w' ⟨rfl, rfl⟩)))
    go_region_held_law (fun w' => w'.cell? ⟨b, 1, none⟩ = some (.slice (some ⟨g, 0, none⟩) n cap)) (first | assumption | exact hgrow2.cell (by assumption) (far_of hb (by simpa [Value.ownBlock] using hat1)) | exact hgrow1.cell (by assumption) (by simp [Value.ownBlock]; omega) | (go_keep; done)) (first
      | (refine step_append_at rfl (.tmp 11) (.tmp 17) 28 rfl 0 3 i0 (.int .i64 0) 1 8 Try.underlying28 hi0 hz0 hz1 hz2 rfl (by decide) _ 0 [] (by simp [Act.eval]) O1.out ⟨g, k, none⟩ (n - k) (cap - k) (ints (L.drop k)) (by simp [Act.eval]) D1.out (news_at V1.out (drop_at L k)) (ints_one _) (by have := hmx.out; omega) (by omega) (by omega) ?_; intro v1 w1 hown1 hgrow1 hat1 _)
      | (refine step_append_at rfl (.tmp 18) (.tmp 24) 28 rfl 0 3 i0 (.int .i64 0) 1 8 Try.underlying28 hi0 hz0 hz1 hz2 rfl (by decide) v1 _ _ (by simp [Act.eval, Act.put]) hown1 ⟨g, 0, none⟩ k cap (ints (L.take k)) (by simp [Act.eval, Act.put]) T1.out (news_at (V1.out.kept hgrow1 (by simp [Value.ownBlock]; omega)) (take_at L k)) (ints_one _) (by have := hmx.out; omega) (by omega) (by omega) ?_; intro v2 w2 hown2 hgrow2 hat2 _))
    all_goals simp only [List.getElem_toArray, List.getElem_cons_zero, List.getElem_cons_succ, List.setIfInBounds_toArray, List.set_cons_zero, List.set_cons_succ]
    all_goals go_wp2
    all_goals go_ret
    all_goals exact ⟨_, rfl, app_end (by rw [List.length_append, List.length_drop, List.length_take, ← HN.out]; omega) hown2 hgrow1 rfl (by simpa [Value.ownBlock] using hat1) hgrow2⟩
  · have e1 : frm L i = [] := by simp [frm, hi]
    have e2 : idx L i = -1 := by simp [idx, hi]
    rw [e1]
    go_enter Try.func27, Try.ntmps27
    go_wp2_with (first | (go_at_call 24; ((with_reducible refine (at_c i b N L v w h hl).mono ?_); rintro e w' ⟨rfl, rfl⟩)))
    go_ret
    exact ⟨_, rfl, World.ownsRow_nil _ _ _ _, Below.refl _ _⟩
end Wd
end Go.Proofs.Ytdfmbeilmbnpiaa
