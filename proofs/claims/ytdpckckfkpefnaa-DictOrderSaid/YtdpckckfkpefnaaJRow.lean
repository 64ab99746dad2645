/- Rows of pairs and of asks that a call makes itself. -/
import Derived.Test.YtdpckckfkpefnaaJOf
import Derived.Test.YtdpckckfkpefnaaJKnown
import Derived.Deep.AppendLies
import Derived.Deep.RegionLaw
namespace Go.Proofs.Ytdpckckfkpefnaa
open Go.RowKit
set_option linter.unusedVariables false
set_option maxRecDepth 20000
namespace Wd
theorem grown_refl (w : World) (b : Option Nat) : w.grownBy w b := ⟨rfl, rfl, rfl, Nat.le_refl _, fun _ _ _ => rfl⟩
theorem tmod_split (n D : Int) (hD : 1 ≤ D) : ∃ r, n.tmod D = r ∧ -D < r ∧ r < D ∧ ((0 ≤ r ∧ n % D = r) ∨ (r < 0 ∧ n % D = r + D)) := by
  have h1 := Int.tmod_lt_of_pos n (show 0 < D by omega)
  have h2 : -D < n.tmod D := by have := Int.tmod_lt_of_pos (-n) (show 0 < D by omega); rw [Int.neg_tmod] at this; omega
  refine ⟨_, rfl, h2, h1, ?_⟩
  have key := Int.tmod_add_mul_tdiv n D
  generalize n.tmod D = r at *
  generalize n.tdiv D = q at *
  by_cases h : 0 ≤ r
  · left
    refine ⟨h, ?_⟩
    rw [← key, Int.add_mul_emod_self_left]
    exact Int.emod_eq_of_lt h h1
  · right
    refine ⟨by omega, ?_⟩
    have e : n = (r + D) + D * (q - 1) := by rw [Int.mul_sub, Int.mul_one]; omega
    rw [e, Int.add_mul_emod_self_left]
    exact Int.emod_eq_of_lt (by omega) (by omega)
/-- a number brought into lo .. hi -/
def within (n lo hi : Int) : Int := if lo ≤ n ∧ n ≤ hi then n else lo + n % (hi - lo + 1)
set_option maxHeartbeats 16000000 in
theorem within_c (n lo hi : Int) (h1 : -9223372036854775808 ≤ n) (h2 : n ≤ 9223372036854775807) (h3 : -1000000 ≤ lo) (h4 : lo ≤ hi) (h5 : hi ≤ 1000000) (w : World) :
    Calls Try.prog 10 #[.int .i64 n, .int .i64 lo, .int .i64 hi] w fun e w' => e = .returned (.int .i64 (within n lo hi)) ∧ w' = w := by
  by_cases c1 : lo ≤ n
  · by_cases c2 : n ≤ hi
    · have e : within n lo hi = n := if_pos ⟨c1, c2⟩
      rw [e]
      go_enter Try.func10, Try.ntmps10
      go_wp2
      go_ret
      exact ⟨rfl, rfl⟩
    · have e : within n lo hi = lo + n % (hi - lo + 1) := if_neg (fun h => c2 h.2)
      obtain ⟨r, hr, r1, r2, ⟨r3, r4⟩ | ⟨r3, r4⟩⟩ := tmod_split n (hi - lo + 1) (by omega)
      all_goals
        rw [r4] at e
        rw [e]; clear e r4
        go_enter Try.func10, Try.ntmps10
        go_wp2
        go_ret
        exact ⟨by first | rfl | (refine congrArg Ending.returned (congrArg (Value.int .i64) ?_); omega), rfl⟩
  · have e : within n lo hi = lo + n % (hi - lo + 1) := if_neg (fun h => c1 h.1)
    obtain ⟨r, hr, r1, r2, ⟨r3, r4⟩ | ⟨r3, r4⟩⟩ := tmod_split n (hi - lo + 1) (by omega)
    all_goals
      rw [r4] at e
      rw [e]; clear e r4
      go_enter Try.func10, Try.ntmps10
      go_wp2
      go_ret
      exact ⟨by first | rfl | (refine congrArg Ending.returned (congrArg (Value.int .i64) ?_); omega), rfl⟩
theorem within_bd (n lo hi : Int) (h : lo ≤ hi) : lo ≤ within n lo hi ∧ within n lo hi ≤ hi := by
  unfold within
  split
  · rename_i h'; exact h'
  · have h1 := Int.emod_nonneg n (show hi - lo + 1 ≠ 0 by omega)
    have h2 := Int.emod_lt_of_pos n (show 0 < hi - lo + 1 by omega)
    omega
def pr2 : List (Int × Int) → List Value
  | [] => []
  | x :: X => .int .i64 x.1 :: .int .i64 x.2 :: pr2 X
theorem pr2_app : ∀ A B, pr2 (A ++ B) = pr2 A ++ pr2 B
  | [], _ => rfl
  | t :: A, B => by simp [pr2, pr2_app A B]
theorem pr2_len : ∀ A, (pr2 A).length = A.length * 2
  | [] => rfl
  | t :: A => by simp only [pr2, List.length_cons, pr2_len A]; omega
theorem pr2_get : ∀ (T : List (Int × Int)) (k : Nat) t, T[k]? = some t → (pr2 T)[k * 2]? = some (.int .i64 t.1) ∧ (pr2 T)[k * 2 + 1]? = some (.int .i64 t.2)
  | [], k, t, h => by simp at h
  | s :: T, 0, t, h => by simp at h; subst h; simp [pr2]
  | s :: T, k + 1, t, h => by
    have := pr2_get T k t (by simpa using h)
    rw [show (k + 1) * 2 = k * 2 + 2 by omega]
    simpa [pr2] using this
theorem pr2_one : ∀ (T : List (Int × Int)), ∀ u ∈ pr2 T, u.oneCell' = true
  | [], u, h => by cases h
  | t :: T, u, h => by
    simp only [pr2, List.mem_cons] at h
    rcases h with rfl | rfl | h
    · rfl
    · rfl
    · exact pr2_one T u h
/-- a row of pairs of the call's own is read as such -/
theorem PrV.own {w : World} {base : Nat} {e : TypeId} {v : Value} {T : List (Int × Int)} (h : w.ownsRow base e 2 v T.length (pr2 T)) (hb : ∀ x ∈ T, I64 x.1 ∧ I64 x.2) : PrV w v T := by
  rcases h.2 with ⟨rfl, h0⟩ | ⟨g, cap, cur, rfl, h1, h2, h3, h4, _⟩
  · have : T = [] := List.length_eq_zero_iff.1 h0
    subst this
    exact ⟨none, 0, rfl, by simp, by decide, fun k x hx => by simp at hx⟩
  · refine ⟨_, cap, rfl, h3, h4, fun k x hx => ?_⟩
    have hk := (List.getElem?_eq_some_iff.1 hx).1
    obtain ⟨c0, c1⟩ := pr2_get T k x hx
    obtain ⟨b0, b1⟩ := hb x (List.mem_of_getElem? hx)
    refine ⟨b0, b1, g, 0, rfl, ?_, ?_⟩
    · rw [Nat.zero_add]; exact (h.cellAt (k * 2) (by omega)).trans c0
    · rw [Nat.zero_add]; exact (h.cellAt (k * 2 + 1) (by omega)).trans c1
/-- what an append reads: cells of m elements -/
def Rd (w : World) (u : Value) (m : Nat) (news : List Value) : Prop := (∃ c, u = .slice none 0 c ∧ m = 0 ∧ news = []) ∨ ∃ ad c, u = .slice (some ad) m c ∧ ∀ j x, news[j]? = some x → w.cell? (ad.add j) = some x
theorem Rd.up {w w1 : World} {u : Value} {m : Nat} {news : List Value} (h : Rd w u m news) (b : Below w.heap.size w w1) : Rd w1 u m news := by
  rcases h with h | ⟨ad, c, e, hc⟩
  · exact Or.inl h
  · exact Or.inr ⟨ad, c, e, fun j x hx => cell_up b (hc j x hx)⟩
theorem run_app_none {P : Program} (w : World) (base : Nat) (t ty e : TypeId) (i : TypeInfo) (size n c : Nat) (ht : P.underlying t = some (.slice e)) (hi : P.info? e = some i) (v : Value) (xs : List Value) (hown : w.ownsRow base e size v n xs) :
    (Builtin.append_ #[t, t] ty #[v, .slice none 0 c]).run P w = .ok v w := by
  rcases hown.2 with ⟨rfl, rfl⟩ | ⟨g, cap, cur, rfl, _, _, hle, _⟩
  · simp [Builtin.append_, run_underlying ht, sizeOf, typeInfo, hi, Builtin.lenOf, Builtin.firstCells]
  · simp [Builtin.append_, run_underlying ht, sizeOf, typeInfo, hi, Builtin.lenOf, Builtin.firstCells, hle, storeCells]
theorem run_app_any {P : Program} (w : World) (base : Nat) (t ty e : TypeId) (i : TypeInfo) (z : Value) (size bytes : Nat) (ht : P.underlying t = some (.slice e)) (hi : P.info? e = some i) (hz : i.zero = some z)
    (hsize : i.size = size) (hby : i.bytes = bytes) (hzs : z.cells.size = size) (hsz : 0 < size)
    (v u : Value) (n m : Nat) (xs news : List Value) (hown : w.ownsRow base e size v n xs) (hu : Rd w u m news) (hl : news.length = m * size) (h1 : ∀ u ∈ news, u.oneCell' = true)
    (h63 : n + m ≤ maxLen) (hbytes : (n + m) * bytes ≤ 140737488355328) (hbase : base ≤ w.heap.size) :
    ∃ v' w', (Builtin.append_ #[t, t] ty #[v, u]).run P w = .ok v' w' ∧ w'.ownsRow base e size v' (n + m) (xs ++ news) ∧ w.grownBy w' v.ownBlock ∧ (v'.ownBlock = v.ownBlock ∨ v'.ownBlock = some w.heap.size) := by
  rcases hu with ⟨c, rfl, rfl, rfl⟩ | ⟨ad, c, rfl, hc⟩
  · exact ⟨v, w, run_app_none w base t ty e i size n c ht hi v xs hown, by simpa using hown, grown_refl _ _, Or.inl rfl⟩
  · obtain ⟨v', w', hr, h2, h3, _, h5⟩ := run_append_own_at (P := P) w base t ty e i z size bytes ht hi hz hsize hby hzs hsz v n xs hown ad m c news hl hc h1 h63 hbytes hbase
    exact ⟨v', w', hr, h2, h3, h5⟩
theorem wpList_app_any {P : Program} {w : World} {ops : Array Oper} {rest : List Oper} {o : Oper} {a : Act} {Q : Exit → Act → World → Prop} (hgd : o.guard = none) (s x : Operand) (t : TypeId)
    (ho : o.op = .call { callee := .builtin .append, args := #[s, x], argTypes := #[t, t] })
    (base : Nat) (e : TypeId) (i : TypeInfo) (z : Value) (size bytes : Nat) (ht : P.underlying t = some (.slice e)) (hi : P.info? e = some i) (hz : i.zero = some z)
    (hsize : i.size = size) (hby : i.bytes = bytes) (hzs : z.cells.size = size) (hsz : 0 < size)
    (v u : Value) (n m : Nat) (xs news : List Value) (hs : a.eval s = v) (hx : a.eval x = u) (hown : w.ownsRow base e size v n xs) (hu : Rd w u m news) (hl : news.length = m * size) (h1 : ∀ u ∈ news, u.oneCell' = true)
    (h63 : n + m ≤ maxLen) (hbytes : (n + m) * bytes ≤ 140737488355328) (hbase : base ≤ w.heap.size)
    (h : ∀ v' w', w'.ownsRow base e size v' (n + m) (xs ++ news) → w.grownBy w' v.ownBlock → (v'.ownBlock = v.ownBlock ∨ v'.ownBlock = some w.heap.size) → wpList P ops Q rest (a.put o.dst v') w') : wpList P ops Q (o :: rest) a w := by
  refine wpList_plain hgd fun K hK => ?_
  obtain ⟨v', w', hr, h2, h3, h5⟩ := run_app_any (P := P) w base t o.type e i z size bytes ht hi hz hsize hby hzs hsz v u n m xs news hown hu hl h1 h63 hbytes hbase
  unfold Oper.wp execOp
  simp only [ho, resolve, invoke, builtin, Sem.run_bind, Sem.run_pure, Result.andThen_ok, List.map_toArray, List.map_cons, List.map_nil, hs, hx, hr]
  exact hK _ _ (h v' w' h2 h3 h5)
/-- an append's new value lies in the old row, or in a new one -/
theorem ob_at {v v' : Value} {H : Nat} (h : v'.ownBlock = v.ownBlock ∨ v'.ownBlock = some H) : ∀ k, v'.ownBlock = some k → v.ownBlock = some k ∨ k = H := by
  intro k hk
  rcases h with e | e
  · exact Or.inl (by rw [← e]; exact hk)
  · rw [e] at hk; exact Or.inr (Option.some.inj hk).symm
theorem PrV.cells {w : World} {ad : Option Addr} {n cap : Nat} {L : List (Int × Int)} (h : PrV w (.slice ad n cap) L) : ∀ k u, (pr2 L)[k]? = some u → ∃ g off, ad = some ⟨g, off, none⟩ ∧ w.cell? ⟨g, off + k, none⟩ = some u := by
  intro k u hk
  obtain ⟨q, r, hr, rfl⟩ : ∃ q r, r < 2 ∧ k = q * 2 + r := ⟨k / 2, k % 2, by omega, by omega⟩
  have hq : q < L.length := by have := (List.getElem?_eq_some_iff.1 hk).1; rw [pr2_len] at this; omega
  obtain ⟨x, hx⟩ : ∃ x, L[q]? = some x := ⟨L[q], by simp⟩
  obtain ⟨_, _, g, off, e, c0, c1⟩ := h.at hx
  obtain ⟨p0, p1⟩ := pr2_get L q x hx
  refine ⟨g, off, e, ?_⟩
  rcases (show r = 0 ∨ r = 1 by omega) with rfl | rfl
  · rw [Nat.add_zero] at hk ⊢
    rw [p0] at hk; cases hk
    exact c0
  · rw [p1] at hk; cases hk
    exact c1
theorem PrV.rd {w : World} {v : Value} {L : List (Int × Int)} (h : PrV w v L) : Rd w v L.length (pr2 L) := by
  obtain ⟨ad, cap, rfl, hc, hm⟩ := h.form
  have hcell := h.cells
  cases ad with
  | none =>
    left
    have hz : L.length = 0 := by
      cases L with
      | nil => rfl
      | cons x X =>
        obtain ⟨g, off, e, _⟩ := hcell 0 (.int .i64 x.1) (by simp [pr2])
        cases e
    exact ⟨cap, by rw [hz], hz, by rw [List.length_eq_zero_iff.1 hz]; rfl⟩
  | some ad =>
    right
    refine ⟨ad, cap, rfl, fun j x hx => ?_⟩
    obtain ⟨g, off, e, hc⟩ := hcell j x hx
    cases e
    rw [Addr.add_lit]
    exact hc
/-- an empty row -/
theorem made_none (w : World) (T : TypeId) (sz base : Nat) (hb : base ≤ w.heap.size) : (w.alloc (.cells #[] T)).ownsRow base T sz (.slice (some ⟨w.heap.size, 0, none⟩) 0 0) 0 [] := World.ownsRow_made w #[] 0 hb (by decide) (by simp)
theorem step_app_any {P : Program} {w : World} {ops : Array Oper} {o : Oper} {a : Act} {K : Act → World → Prop} {Q : Exit → Act → World → Prop} {E : Prop} (hgd : o.guard = none) (s x : Operand) (t : TypeId)
    (ho : o.op = .call { callee := .builtin .append, args := #[s, x], argTypes := #[t, t] })
    (base : Nat) (e : TypeId) (i : TypeInfo) (z : Value) (size bytes : Nat) (ht : P.underlying t = some (.slice e)) (hi : P.info? e = some i) (hz : i.zero = some z)
    (hsize : i.size = size) (hby : i.bytes = bytes) (hzs : z.cells.size = size) (hsz : 0 < size)
    (v u : Value) (n m : Nat) (xs news : List Value) (hs : a.eval s = v) (hx : a.eval x = u) (hown : w.ownsRow base e size v n xs) (hu : Rd w u m news) (hl : news.length = m * size) (h1 : ∀ u ∈ news, u.oneCell' = true)
    (h63 : n + m ≤ maxLen) (hbytes : (n + m) * bytes ≤ 140737488355328) (hbase : base ≤ w.heap.size)
    (h : ∀ v' w', w'.ownsRow base e size v' (n + m) (xs ++ news) → w.grownBy w' v.ownBlock → (v'.ownBlock = v.ownBlock ∨ v'.ownBlock = some w.heap.size) → K (a.put o.dst v') w') :
    if Region.wanted o (yielded ops a.tmps) = true then Oper.wp P o a w K Q else E := by
  have hw : Region.wanted o (yielded ops a.tmps) = true := by simp [Region.wanted, hgd]
  rw [if_pos hw]
  obtain ⟨v', w', hr, h2, h3, h5⟩ := run_app_any (P := P) w base t o.type e i z size bytes ht hi hz hsize hby hzs hsz v u n m xs news hown hu hl h1 h63 hbytes hbase
  unfold Oper.wp execOp
  simp only [ho, resolve, invoke, builtin, Sem.run_bind, Sem.run_pure, Result.andThen_ok, List.map_toArray, List.map_cons, List.map_nil, hs, hx, hr]
  exact h v' w' h2 h3 h5
theorem infoBind : (Try.prog.info? 27).map (fun i => (i.zero, i.size, i.bytes)) = some (some (.agg #[.int .i64 0, .int .i64 0]), 2, 16) := by kernel_rfl
theorem infoAsk : (Try.prog.info? 25).map (fun i => (i.zero, i.size, i.bytes)) = some (some (.agg #[.int .i64 0, .int .i64 0, .int .i64 0]), 3, 24) := by kernel_rfl
/-- asks, cell by cell -/
def ak3 : List (Int × Int × Int) → List Value
  | [] => []
  | t :: T => .int .i64 t.1 :: .int .i64 t.2.1 :: .int .i64 t.2.2 :: ak3 T
theorem ak3_len : ∀ A, (ak3 A).length = A.length * 3
  | [] => rfl
  | t :: A => by simp only [ak3, List.length_cons, ak3_len A]; omega
theorem ak3_app : ∀ A B, ak3 (A ++ B) = ak3 A ++ ak3 B
  | [], _ => rfl
  | t :: A, B => by simp [ak3, ak3_app A B]
theorem ak3_get : ∀ (T : List (Int × Int × Int)) (k : Nat) t, T[k]? = some t → (ak3 T)[k * 3]? = some (.int .i64 t.1) ∧ (ak3 T)[k * 3 + 1]? = some (.int .i64 t.2.1) ∧ (ak3 T)[k * 3 + 2]? = some (.int .i64 t.2.2)
  | [], k, t, h => by simp at h
  | s :: T, 0, t, h => by simp at h; subst h; simp [ak3]
  | s :: T, k + 1, t, h => by
    have := ak3_get T k t (by simpa using h)
    rw [show (k + 1) * 3 = k * 3 + 3 by omega]
    simpa [ak3] using this
theorem ak3_one : ∀ (T : List (Int × Int × Int)) u, u ∈ ak3 T → u.oneCell' = true
  | [], u, h => by cases h
  | t :: T, u, h => by
    simp only [ak3, List.mem_cons] at h
    rcases h with rfl | rfl | rfl | h
    · rfl
    · rfl
    · rfl
    · exact ak3_one T u h
theorem AskV.own {w : World} {base : Nat} {e : TypeId} {a : Option Addr} {n c : Nat} {T : List (Int × Int × Int)} (h : w.ownsRow base e 3 (.slice a n c) T.length (ak3 T)) (hn : n = T.length) (hb : ∀ x ∈ T, I64 x.1 ∧ I64 x.2.1 ∧ I64 x.2.2) : AskV w a n := by
  intro k hk
  have hx : T[k]? = some (T[k]'(by omega)) := by simp
  generalize T[k]'(by omega) = x at hx
  obtain ⟨i0, i1, i2⟩ := hb x (List.mem_of_getElem? hx)
  obtain ⟨c0, c1, c2⟩ := ak3_get T k x hx
  rcases h.2 with ⟨e1, e0⟩ | ⟨g, cap, cur, e1, h1, h2, h3, h4, _⟩
  · omega
  · cases e1
    refine ⟨g, 0, x.1, x.2.1, x.2.2, rfl, i0, i1, i2, ?_, ?_, ?_⟩
    · rw [Nat.zero_add]; exact (h.cellAt (k * 3) (by omega)).trans c0
    · rw [Nat.zero_add]; exact (h.cellAt (k * 3 + 1) (by omega)).trans c1
    · rw [Nat.zero_add]; exact (h.cellAt (k * 3 + 2) (by omega)).trans c2
/-- a pair, an ask, in a new block -/
theorem rd_bind (w : World) (x y : Int) (g : Nat) (hg : g = w.heap.size) : ∀ j u, (pr2 [(x, y)])[j]? = some u → (w.alloc (.cells #[.int .i64 x, .int .i64 y] 27)).cell? ((⟨g, 0, none⟩ : Addr).add j) = some u := by
  subst hg
  intro j u hu
  have hj : j < 2 := by have := (List.getElem?_eq_some_iff.1 hu).1; simpa [pr2_len] using this
  rw [Addr.add_lit, Nat.zero_add]
  rcases (show j = 0 ∨ j = 1 by omega) with rfl | rfl <;> (simp [pr2] at hu; subst hu; simp)
theorem rd_ask (w : World) (x y z : Int) (g : Nat) (hg : g = w.heap.size) : ∀ j u, (ak3 [(x, y, z)])[j]? = some u → (w.alloc (.cells #[.int .i64 x, .int .i64 y, .int .i64 z] 25)).cell? ((⟨g, 0, none⟩ : Addr).add j) = some u := by
  subst hg
  intro j u hu
  have hj : j < 3 := by have := (List.getElem?_eq_some_iff.1 hu).1; simpa [ak3_len] using this
  rw [Addr.add_lit, Nat.zero_add]
  rcases (show j = 0 ∨ j = 1 ∨ j = 2 by omega) with rfl | rfl | rfl <;> (simp [ak3] at hu; subst hu; simp)
theorem row_form2 {w : World} {base size n : Nat} {e : TypeId} {v : Value} {xs : List Value} (h : w.ownsRow base e size v n xs) : ∃ a c, v = .slice a n c := by
  rcases h.2 with ⟨rfl, h0⟩ | ⟨g, cap, cur, rfl, _⟩
  · exact ⟨_, _, by rw [h0]⟩
  · exact ⟨_, _, rfl⟩
theorem row_up2 {w w1 : World} {base size n : Nat} {e : TypeId} {v : Value} {xs : List Value} (h : w.ownsRow base e size v n xs) (b : Below w.heap.size w w1) : w1.ownsRow base e size v n xs :=
  World.ownsRow.kept h ⟨b.os, b.tape, b.output, b.size, fun k hk _ => b.block k hk⟩ (row := none) (by cases v.ownBlock <;> simp)
end Wd
end Go.Proofs.Ytdpckckfkpefnaa
