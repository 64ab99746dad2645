/- The document's own ring: what its functions return. -/
import Derived.Test.YtdfmbeilmbnpiaaRows
import Derived.Test.YtdfmbeilmbnpiaaRPure
import Derived.WalkKit
import Derived.WalkSpells
import Derived.WalkLawsBesides
import Derived.Handy
import Derived.Lib.Hide
import Derived.BigQuiet
import Derived.LoopN
namespace Go.Proofs.Ytdfmbeilmbnpiaa
open Go.RowKit
namespace Wd
/-- a ring of the document's own, at block b -/
structure RefAt (w : World) (b : Nat) (N : Int) (L : List Int) (v : Value) : Prop where
  n : w.cell? ⟨b, 0, none⟩ = some (.int .i64 N)
  l : w.cell? ⟨b, 1, none⟩ = some v
  fr : w.frozen? ⟨b, 1, none⟩ = false
  own : SL w 3 v L
  apart : v.ownBlock ≠ some b
  nn : v ≠ .slice none 0 0
set_option maxHeartbeats 4000000 in
theorem at_c (i : Int) (b : Nat) (N : Int) (L : List Int) (v : Value) (w : World) (h : RefAt w b N L v) (hl : L.length ≤ 8192) :
    Calls Try.prog 24 #[.pointer (some ⟨b, 0, none⟩), .int .i64 i] w fun e w' => e = .returned (.int .i64 (idx L i)) ∧ w' = w := by
  have hL := h.l
  rcases h.own.cases with ⟨rfl, rfl⟩ | ⟨g, cap, rfl, hle, hm, hg, hown⟩
  · have e : idx [] i = -1 := by simp [idx]
    rw [e]; clear e h
    go_enter Try.func24, Try.ntmps24
    go_wp2
    refine wp_loop_rounds 1 ?_
    rw [rounds_succ]
    go_wp2
    go_ret
    exact ⟨rfl, rfl⟩
  · have HO := Lib.hid hown
    have HL := Lib.hid hl
    obtain ⟨n, hn⟩ : ∃ n, n = L.length := ⟨_, rfl⟩
    rw [← hn] at hL hle hl
    have HN := Lib.hid hn
    clear h hown hn
    go_enter Try.func24, Try.ntmps24
    go_wp2
    go_loop [12] (fun s => ∃ k : Nat, k ≤ n ∧ s = .int .i64 k ∧ Hid (i ∉ L.take k)) (fun s => n - (intOf s).toNat)
    case atStart => exact ⟨0, by omega, rfl, Lib.hid (by simp)⟩
    case round =>
      obtain ⟨k, hk, rfl, hnot⟩ := hrel
      by_cases hlt : k < n
      · have hlt' : decide ((k : Int) < n) = true := by simp; omega
        obtain ⟨x, hx⟩ : ∃ x, L[k]? = some x := ⟨L[k]'(by have := HN.out; omega), by simp⟩
        have hc := row_cell (by rw [← HN.out] at HO; exact HO.out) hx
        have HX := Lib.hid hx
        clear hx
        by_cases he : x = i
        · have e : idx L i = k := idx_hit L i k hnot.out (by rw [← he]; exact HX.out)
          have he' : (x == i) = true := by simp [he]
          go_wp2
          go_ret
          exact ⟨by simp, rfl⟩
        · have he' : (x == i) = false := by simp [he]
          go_wp2
          go_round
          case rel => exact ⟨k + 1, by omega, by go_num, Lib.hid (take_step L i x k hnot.out HX.out he)⟩
          case measure => simp [intOf]; omega
      · have e : idx L i = -1 := idx_miss L i (by have hq := HN.out; have h2 := hnot.out; rwa [show k = L.length by omega] at h2)
        go_wp2
        go_ret
        exact ⟨by simp, rfl⟩
theorem idx_in (L : List Int) (i : Int) (h : i ∈ L) : ∃ k : Nat, idx L i = k ∧ k < L.length ∧ L.idxOf i = k := ⟨L.idxOf i, by simp [idx, h], List.idxOf_lt_length_of_mem h, rfl⟩
set_option maxHeartbeats 4000000 in
theorem next_c (i : Int) (b : Nat) (N : Int) (L : List Int) (v : Value) (w : World) (h : RefAt w b N L v) (hl : L.length ≤ 8192) :
    Calls Try.prog 25 #[.pointer (some ⟨b, 0, none⟩), .int .i64 i] w fun e w' => e = .returned (.int .i64 (nxt L i)) ∧ ∃ q, w' = w.drewN q := by
  by_cases hi : i ∈ L
  · obtain ⟨k, hk, hlt, hx⟩ := idx_in L i hi
    rcases h.own.cases with ⟨rfl, rfl⟩ | ⟨g, cap, rfl, hle, hm, hg, hown⟩
    · cases hi
    obtain ⟨m, hmm, hml⟩ : ∃ m : Nat, (k + 1) % L.length = m ∧ m < L.length := ⟨_, rfl, Nat.mod_lt _ (by omega)⟩
    obtain ⟨x, hxx⟩ : ∃ x, L[m]? = some x := ⟨L[m]'hml, by simp⟩
    have e1 : nxt L i = x := by unfold nxt; rw [if_pos hi, hx, hmm, hxx]; rfl
    have hc := row_cell hown hxx
    have hL := h.l
    have hd : ((k : Int) + 1).tmod (L.length : Int) = (m : Int) := by rw [Int.tmod_eq_emod_of_nonneg (by omega)]; simpa using congrArg (fun z : Nat => (z : Int)) hmm
    have H := Lib.hid h
    clear h hxx hi hmm hown hx
    rw [e1]; clear e1
    obtain ⟨n, hn⟩ : ∃ n, n = L.length := ⟨_, rfl⟩
    rw [← hn] at hL hd hml hlt hle hl
    have HN := Lib.hid hn
    clear hn
    go_enter Try.func25, Try.ntmps25
    go_wp2_with (first | (go_at_call 24; ((with_reducible refine (at_c i b N L _ w H.out (by rw [← HN.out]; exact hl)).mono ?_); rintro e w' ⟨rfl, rfl⟩)))
    go_quiet (fail)
    go_wp2
    go_ret
    exact ⟨rfl, _, rfl⟩
  · have e1 : nxt L i = -1 := by simp [nxt, hi]
    have e2 : idx L i = -1 := by simp [idx, hi]
    rw [e1]
    go_enter Try.func25, Try.ntmps25
    go_wp2_with (first | (go_at_call 24; ((with_reducible refine (at_c i b N L v w h hl).mono ?_); rintro e w' ⟨rfl, rfl⟩)))
    go_ret
    exact ⟨rfl, 0, rfl⟩
set_option maxHeartbeats 4000000 in
theorem prev_c (i : Int) (b : Nat) (N : Int) (L : List Int) (v : Value) (w : World) (h : RefAt w b N L v) (hl : L.length ≤ 8192) :
    Calls Try.prog 26 #[.pointer (some ⟨b, 0, none⟩), .int .i64 i] w fun e w' => e = .returned (.int .i64 (prv L i)) ∧ ∃ q, w' = w.drewN q := by
  by_cases hi : i ∈ L
  · obtain ⟨k, hk, hlt, hx⟩ := idx_in L i hi
    rcases h.own.cases with ⟨rfl, rfl⟩ | ⟨g, cap, rfl, hle, hm, hg, hown⟩
    · cases hi
    obtain ⟨m, hmm, hml⟩ : ∃ m : Nat, (k + L.length - 1) % L.length = m ∧ m < L.length := ⟨_, rfl, Nat.mod_lt _ (by omega)⟩
    obtain ⟨x, hxx⟩ : ∃ x, L[m]? = some x := ⟨L[m]'hml, by simp⟩
    have e1 : prv L i = x := by unfold prv; rw [if_pos hi, hx, hmm, hxx]; rfl
    have hc := row_cell hown hxx
    have hL := h.l
    have hd : ((k : Int) + (L.length : Int) - 1).tmod (L.length : Int) = (m : Int) := by rw [Int.tmod_eq_emod_of_nonneg (by omega), show (k : Int) + (L.length : Int) - 1 = ((k + L.length - 1 : Nat) : Int) by omega, ← hmm, Int.natCast_emod]
    have H := Lib.hid h
    clear h hxx hi hmm hown hx
    rw [e1]; clear e1
    obtain ⟨n, hn⟩ : ∃ n, n = L.length := ⟨_, rfl⟩
    rw [← hn] at hL hd hml hlt hle hl
    have HN := Lib.hid hn
    clear hn
    go_enter Try.func26, Try.ntmps26
    go_wp2_with (first | (go_at_call 24; ((with_reducible refine (at_c i b N L _ w H.out (by rw [← HN.out]; exact hl)).mono ?_); rintro e w' ⟨rfl, rfl⟩)))
    go_quiet (fail)
    go_wp2
    go_ret
    exact ⟨rfl, _, rfl⟩
  · have e1 : prv L i = -1 := by simp [prv, hi]
    have e2 : idx L i = -1 := by simp [idx, hi]
    rw [e1]
    go_enter Try.func26, Try.ntmps26
    go_wp2_with (first | (go_at_call 24; ((with_reducible refine (at_c i b N L v w h hl).mono ?_); rintro e w' ⟨rfl, rfl⟩)))
    go_ret
    exact ⟨rfl, 0, rfl⟩
end Wd
end Go.Proofs.Ytdfmbeilmbnpiaa
