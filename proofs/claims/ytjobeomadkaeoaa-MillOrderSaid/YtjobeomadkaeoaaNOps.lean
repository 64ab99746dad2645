/- The ring of the package: what its functions return; its lists. -/
import Derived.Test.YtjobeomadkaeoaaNBase
namespace Go.Proofs.Ytjobeomadkaeoaa
open Go.RowKit
namespace Wd
theorem has_y {k p g1 g2 n : Nat} {f h : Nat → Int} {m : Int} {w : World} (r : RB w p g1 g2 n f h m) (hk : k < n) :
    Calls Try.prog 36 #[.pointer (some ⟨p, 0, none⟩), .int .i64 (k : Int)] w fun e w' => e = .returned (.bool true) ∧ w' = w := by
  refine (has_c k p g1 g2 n f h m w r).mono ?_
  rintro e w' ⟨rfl, rfl⟩
  exact ⟨by rw [decide_eq_true (by omega)], rfl⟩
theorem has_n {i : Int} {p g1 g2 n : Nat} {f h : Nat → Int} {m : Int} {w : World} (r : RB w p g1 g2 n f h m) (hi : ¬ (0 ≤ i ∧ i < n)) :
    Calls Try.prog 36 #[.pointer (some ⟨p, 0, none⟩), .int .i64 i] w fun e w' => e = .returned (.bool false) ∧ w' = w := by
  refine (has_c i p g1 g2 n f h m w r).mono ?_
  rintro e w' ⟨rfl, rfl⟩
  exact ⟨by rw [decide_eq_false hi], rfl⟩
/-- the lists that the two rows hold -/
structure RL (n : Nat) (L : List Int) (f h : Nat → Int) : Prop where
  n1 : 1 ≤ n
  n2 : n ≤ 4096
  nd : L.Nodup
  bd : ∀ x, x ∈ L → 0 ≤ x ∧ x < n
  ef : ∀ k : Nat, k < n → f k = nxt L k
  eh : ∀ k : Nat, k < n → h k = prv L k
theorem RL.none {n : Nat} {L : List Int} {f h : Nat → Int} (r : RL n L f h) {i : Int} (hi : ¬ (0 ≤ i ∧ i < n)) : i ∉ L := fun h => hi (r.bd i h)
theorem RL.mem {n : Nat} {L : List Int} {f h : Nat → Int} (r : RL n L f h) {i : Int} (hi : i ∈ L) : ∃ k : Nat, i = k ∧ k < n := by
  obtain ⟨a, b⟩ := r.bd i hi
  exact ⟨i.toNat, by omega, by omega⟩
theorem RL.nxt_bd {n : Nat} {L : List Int} {f h : Nat → Int} (r : RL n L f h) {k : Nat} (hk : (k : Int) ∈ L) : ∃ q : Nat, nxt L k = q ∧ q < n ∧ (q : Int) ∈ L := by
  have := nxt_mem r.nd hk
  obtain ⟨q, e, hq⟩ := r.mem this
  exact ⟨q, e, hq, e ▸ this⟩
theorem RL.prv_bd {n : Nat} {L : List Int} {f h : Nat → Int} (r : RL n L f h) {k : Nat} (hk : (k : Int) ∈ L) : ∃ q : Nat, prv L k = q ∧ q < n ∧ (q : Int) ∈ L := by
  have := prv_mem r.nd hk
  obtain ⟨q, e, hq⟩ := r.mem this
  exact ⟨q, e, hq, e ▸ this⟩
/-- the count is below 4097 -/
theorem RL.len {n : Nat} {L : List Int} {f h : Nat → Int} (r : RL n L f h) : L.length ≤ n := by
  have hs : L.length ≤ (rng n).length := by
    refine r.nd.length_le_of_subset (fun x hx => ?_)
    obtain ⟨a, b⟩ := r.bd x hx
    exact List.mem_map.2 ⟨x.toNat, by simp; omega, by omega⟩
  rwa [rng_len] at hs
theorem RL.in_iff {n : Nat} {L : List Int} {f h : Nat → Int} (r : RL n L f h) {k : Nat} (hk : k < n) : f k = -1 ↔ (k : Int) ∉ L := by
  rw [r.ef k hk]
  constructor
  · intro e hm
    have := (r.bd _ (nxt_mem r.nd hm)).1
    omega
  · exact nxt_out
/-- one is taken out -/
theorem RL.out {n : Nat} {L : List Int} {f h : Nat → Int} (r : RL n L f h) {k a b : Nat} (hk : (k : Int) ∈ L) (ea : prv L k = a) (eb : nxt L k = b) :
    RL n (outL L k) (upd (upd f a b) k (-1)) (upd (upd h b a) k (-1)) := by
  refine ⟨r.n1, r.n2, nd_outL r.nd _, fun x hx => r.bd x ((mem_outL r.nd hk x).1 hx).1, fun j hj => ?_, fun j hj => ?_⟩
  · by_cases c : j = k
    · subst c; rw [upd_same, nxt_out]; exact fun hm => ((mem_outL r.nd hk _).1 hm).2 rfl
    · rw [upd_ne _ _ c]
      have hne : (j : Int) ≠ k := by omega
      by_cases hL : (j : Int) ∈ L
      · rw [nxt_outL r.nd hk hL hne]
        by_cases ca : j = a
        · subst ca
          rw [upd_same, if_pos (by rw [← ea, nxt_prv r.nd hk]), eb]
        · rw [upd_ne _ _ ca, r.ef j hj, if_neg]
          intro e
          have := prv_nxt r.nd hL
          rw [e, ea] at this
          omega
      · rw [nxt_out (fun hm => hL ((mem_outL r.nd hk _).1 hm).1)]
        have ca : j ≠ a := by
          rintro rfl
          exact hL (ea ▸ prv_mem r.nd hk)
        rw [upd_ne _ _ ca, r.ef j hj, nxt_out hL]
  · by_cases c : j = k
    · subst c; rw [upd_same, prv_out]; exact fun hm => ((mem_outL r.nd hk _).1 hm).2 rfl
    · rw [upd_ne _ _ c]
      have hne : (j : Int) ≠ k := by omega
      by_cases hL : (j : Int) ∈ L
      · rw [prv_outL r.nd hk hL hne]
        by_cases ca : j = b
        · subst ca
          rw [upd_same, if_pos (by rw [← eb, prv_nxt r.nd hk]), ea]
        · rw [upd_ne _ _ ca, r.eh j hj, if_neg]
          intro e
          have := nxt_prv r.nd hL
          rw [e, eb] at this
          omega
      · rw [prv_out (fun hm => hL ((mem_outL r.nd hk _).1 hm).1)]
        have ca : j ≠ b := by
          rintro rfl
          exact hL (eb ▸ nxt_mem r.nd hk)
        rw [upd_ne _ _ ca, r.eh j hj, prv_out hL]
/-- one is put in ahead of another -/
theorem RL.put {n : Nat} {L : List Int} {f h : Nat → Int} (r : RL n L f h) {k a b : Nat} (hn : k < n) (hk : (k : Int) ∉ L) (ha : (a : Int) ∈ L) (eb : prv L a = b) :
    RL n (inL L k a) (upd (upd f b k) k a) (upd (upd h k b) a k) := by
  obtain ⟨d1, d2, d3, d4, d5⟩ := inL_facts r.nd hk ha
  obtain ⟨p1, p2⟩ := prv_inL r.nd hk ha
  refine ⟨r.n1, r.n2, d1, fun x hx => ?_, fun j hj => ?_, fun j hj => ?_⟩
  · rcases (mem_inL r.nd hk ha x).1 hx with rfl | hx
    · omega
    · exact r.bd x hx
  · by_cases c : j = k
    · subst c; rw [upd_same, d4]
    · rw [upd_ne _ _ c]
      by_cases hL : (j : Int) ∈ L
      · rw [nxt_inL r.nd hk ha hL]
        by_cases cb : j = b
        · subst cb
          rw [upd_same, if_pos (by rw [← eb, nxt_prv r.nd ha])]
        · rw [upd_ne _ _ cb, r.ef j hj, if_neg]
          intro e
          have := prv_nxt r.nd hL
          rw [e, eb] at this
          omega
      · have hn' : (j : Int) ∉ inL L k a := by
          intro hm
          rcases (mem_inL r.nd hk ha _).1 hm with e | e
          · omega
          · exact hL e
        have cb : j ≠ b := by
          rintro rfl
          exact hL (eb ▸ prv_mem r.nd ha)
        rw [nxt_out hn', upd_ne _ _ cb, r.ef j hj, nxt_out hL]
  · by_cases ca : j = a
    · subst ca; rw [upd_same, p2 _ ha, if_pos rfl]
    · rw [upd_ne _ _ ca]
      by_cases c : j = k
      · subst c; rw [upd_same, p1, eb]
      · rw [upd_ne _ _ c, r.eh j hj]
        by_cases hL : (j : Int) ∈ L
        · rw [p2 _ hL, if_neg (by omega)]
        · have hn' : (j : Int) ∉ inL L k a := by
            intro hm
            rcases (mem_inL r.nd hk ha _).1 hm with e | e
            · omega
            · exact hL e
          rw [prv_out hn', prv_out hL]
/-- the first one is put in -/
theorem RL.first {n : Nat} {f h : Nat → Int} (r : RL n [] f h) {k : Nat} (hn : k < n) (a : Int) : RL n (inL [] k a) (upd f k k) (upd h k k) := by
  have e : inL [] (k : Int) a = [(k : Int)] := by simp [inL]
  rw [e]
  refine ⟨r.n1, r.n2, by simp, fun x hx => by simp at hx; omega, fun j hj => ?_, fun j hj => ?_⟩
  · by_cases c : j = k
    · subst c; rw [upd_same]; simp [nxt]
    · rw [upd_ne _ _ c, r.ef j hj, nxt_out (by simp), nxt_out (by simp; omega)]
  · by_cases c : j = k
    · subst c; rw [upd_same]; simp [prv]
    · rw [upd_ne _ _ c, r.eh j hj, prv_out (by simp), prv_out (by simp; omega)]
/-- a ring as it is made -/
theorem RL.made {n : Nat} {f h : Nat → Int} (h1 : 1 ≤ n) (h2 : n ≤ 4096) (hf : ∀ k, k < n → f k = (((k + 1) % n : Nat) : Int) ∧ h ((k + 1) % n) = (k : Int)) : RL n (rng n) f h := by
  have hg : ∀ k : Nat, k < n → (rng n)[k]? = some (k : Int) := fun k hk => by simp [rng, hk]
  refine ⟨h1, h2, rng_nd n, fun x hx => by have := List.mem_map.1 hx; obtain ⟨y, hy, rfl⟩ := this; simp at hy; omega, fun k hk => ?_, fun k hk => ?_⟩
  · rw [(hf k hk).1, nxt_at (rng_nd n) (hg k hk), rng_len, hg _ (Nat.mod_lt _ (by omega))]; rfl
  · rw [prv_at (rng_nd n) (hg k hk), rng_len]
    have hlt : (k + n - 1) % n < n := Nat.mod_lt _ (by omega)
    have := (hf _ hlt).2
    have e : ((k + n - 1) % n + 1) % n = k := by
      by_cases hk0 : k = 0
      · subst hk0
        rw [Nat.mod_eq_of_lt (by omega : 0 + n - 1 < n), show 0 + n - 1 + 1 = n by omega, Nat.mod_self]
      · rw [show k + n - 1 = (k - 1) + n by omega, Nat.add_mod_right, Nat.mod_eq_of_lt (by omega : k - 1 < n), show k - 1 + 1 = k by omega, Nat.mod_eq_of_lt hk]
    rw [e] at this
    rw [this, hg _ hlt]; rfl
end Wd
end Go.Proofs.Ytjobeomadkaeoaa
