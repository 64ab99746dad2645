/- An append onto a row of the call's own, at a step of a region that draws: something or nothing is appended. -/
import Derived.Test.YtdfmbeilmbnpiaaRRef
import Derived.Test.YtdfmbeilmbnpiaaRFrom
import Derived.Test.YtdfmbeilmbnpiaaROut
import Derived.Test.YtdfmbeilmbnpiaaRLast
import Derived.OneCell
import Derived.Laws.AppendOwn
import Derived.Test.YtdfmbeilmbnpiaaRIn
import Derived.Maps.AppendAt
import Derived.Deep.AppendLies
import Derived.Deep.RegionHeldLaw
namespace Go.Proofs.Ytdfmbeilmbnpiaa
open Go.RowKit
namespace Wd
theorem idx_out {L : List Int} {i : Int} (h : i ∉ L) : idx L i = -1 := by simp [idx, h]
set_option maxHeartbeats 16000000 in
theorem in_no (i a : Int) (b : Nat) (N : Int) (L : List Int) (v : Value) (w : World) (h : RefAt w b N L v) (hl : L.length ≤ 8192) (bad : i < 0 ∨ N ≤ i ∨ i ∈ L ∨ (a ∉ L ∧ (a ≠ -1 ∨ L ≠ []))) :
    Calls Try.prog 19 #[.pointer (some ⟨b, 0, none⟩), .int .i64 i, .int .i64 a] w fun e w' => e = .returned (.bool false) ∧ w' = w := by
  have hn := h.n
  have HL := Lib.hid hl
  by_cases c1 : i < 0
  · clear bad
    go_enter Try.func19, Try.ntmps19
    go_wp2
    go_ret
    exact ⟨rfl, rfl⟩
  by_cases c2 : N ≤ i
  · clear bad
    go_enter Try.func19, Try.ntmps19
    go_wp2
    go_ret
    exact ⟨rfl, rfl⟩
  by_cases c3 : i ∈ L
  · obtain ⟨k, hk, _, _⟩ := idx_in L i c3
    clear bad c3
    replace h := Lib.hid h
    go_enter Try.func19, Try.ntmps19
    go_wp2_with (first | (go_at_call 24; ((with_reducible refine (at_c _ b N L _ _ h.out HL.out).mono ?_); rintro e w ⟨rfl, rfl⟩)))
    go_ret
    exact ⟨rfl, rfl⟩
  have e1 := idx_out c3
  obtain ⟨ca, c4⟩ : a ∉ L ∧ (a ≠ -1 ∨ L ≠ []) := by
    rcases bad with h | h | h | h
    · omega
    · omega
    · exact absurd h c3
    · exact h
  have e2 := idx_out ca
  clear c3 bad
  by_cases c5 : a = -1
  · subst c5
    have hne : L ≠ [] := by rcases c4 with h | h; exact absurd rfl h; exact h
    rcases h.own.cases with ⟨rfl, rfl⟩ | ⟨g, cap, rfl, hle, hm, hg, hown⟩
    · exact absurd rfl hne
    have hL := h.l
    obtain ⟨n, hn2⟩ : ∃ n, n = L.length := ⟨_, rfl⟩
    have hpos : 0 < n := by rw [hn2]; exact List.length_pos_iff.2 hne
    rw [← hn2] at hL
    have hpos' : decide (0 < (n : Int)) = true := by simp; omega
    replace h := Lib.hid h
    clear ca c4 hn2 hown hne hle
    go_enter Try.func19, Try.ntmps19
    go_wp2_with (first | (go_at_call 24; ((with_reducible refine (at_c _ b N L _ _ h.out HL.out).mono ?_); rintro e w ⟨rfl, rfl⟩)))
    go_ret
    exact ⟨rfl, rfl⟩
  · have c6 : (a != -1) = true := by simpa using c5
    clear ca c4
    replace h := Lib.hid h
    go_enter Try.func19, Try.ntmps19
    go_wp2_with (first | (go_at_call 24; ((with_reducible refine (at_c _ b N L _ _ h.out HL.out).mono ?_); rintro e w ⟨rfl, rfl⟩)))
    go_ret
    exact ⟨rfl, rfl⟩
theorem tmod_split (n D : Int) (hD : 1 ≤ D) : ∃ r, n.tmod D = r ∧ -D < r ∧ r < D ∧ ((0 ≤ r ∧ n % D = r) ∨ (r < 0 ∧ n % D = r + D)) := by
  have h1 := Int.tmod_lt_of_pos n (show 0 < D by omega)
  have h2 : -D < n.tmod D := by have := Int.tmod_lt_of_pos (-n) (show 0 < D by omega); rw [Int.neg_tmod] at this; omega
  refine ⟨_, rfl, h2, h1, ?_⟩
  have key := Int.tmod_add_mul_tdiv n D
  generalize n.tmod D = r at *
  generalize n.tdiv D = q at *
  by_cases h : 0 ≤ r
  · left
    refine ⟨h, ?_⟩
    rw [← key, Int.add_mul_emod_self_left]
    exact Int.emod_eq_of_lt h h1
  · right
    refine ⟨by omega, ?_⟩
    have e : n = (r + D) + D * (q - 1) := by rw [Int.mul_sub, Int.mul_one]; omega
    rw [e, Int.add_mul_emod_self_left]
    exact Int.emod_eq_of_lt (by omega) (by omega)
/-- a number brought into lo .. hi -/
def within (n lo hi : Int) : Int := if lo ≤ n ∧ n ≤ hi then n else lo + n % (hi - lo + 1)
set_option maxHeartbeats 16000000 in
theorem within_c (n lo hi : Int) (h1 : -9223372036854775808 ≤ n) (h2 : n ≤ 9223372036854775807) (h3 : -1000000 ≤ lo) (h4 : lo ≤ hi) (h5 : hi ≤ 1000000) (w : World) :
    Calls Try.prog 9 #[.int .i64 n, .int .i64 lo, .int .i64 hi] w fun e w' => e = .returned (.int .i64 (within n lo hi)) ∧ w' = w := by
  by_cases c1 : lo ≤ n
  · by_cases c2 : n ≤ hi
    · have e : within n lo hi = n := if_pos ⟨c1, c2⟩
      rw [e]
      go_enter Try.func9, Try.ntmps9
      go_wp2
      go_ret
      exact ⟨rfl, rfl⟩
    · have e : within n lo hi = lo + n % (hi - lo + 1) := if_neg (fun h => c2 h.2)
      obtain ⟨r, hr, r1, r2, ⟨r3, r4⟩ | ⟨r3, r4⟩⟩ := tmod_split n (hi - lo + 1) (by omega)
      all_goals
        rw [r4] at e
        rw [e]; clear e r4
        go_enter Try.func9, Try.ntmps9
        go_wp2
        go_ret
        exact ⟨by first | rfl | (refine congrArg Ending.returned (congrArg (Value.int .i64) ?_); omega), rfl⟩
  · have e : within n lo hi = lo + n % (hi - lo + 1) := if_neg (fun h => c1 h.1)
    obtain ⟨r, hr, r1, r2, ⟨r3, r4⟩ | ⟨r3, r4⟩⟩ := tmod_split n (hi - lo + 1) (by omega)
    all_goals
      rw [r4] at e
      rw [e]; clear e r4
      go_enter Try.func9, Try.ntmps9
      go_wp2
      go_ret
      exact ⟨by first | rfl | (refine congrArg Ending.returned (congrArg (Value.int .i64) ?_); omega), rfl⟩
end Wd
end Go.Proofs.Ytdfmbeilmbnpiaa
