/- An append onto a row of the call's own, at a step of a region that draws: something or nothing is appended. -/
import Derived.Test.YtdfmbeilmbnpiaaRRef
import Derived.Test.YtdfmbeilmbnpiaaRFrom
import Derived.Test.YtdfmbeilmbnpiaaROut
import Derived.Test.YtdfmbeilmbnpiaaRLast
import Derived.OneCell
import Derived.Test.YtdfmbeilmbnpiaaRNo
import Derived.Maps.AppendAt
import Derived.Deep.AppendLies
import Derived.Deep.RegionHeldLaw
namespace Go.Proofs.Ytdfmbeilmbnpiaa
open Go.RowKit
namespace Wd
theorem SL.form {w : World} {e : TypeId} {v : Value} {L : List Int} (h : SL w e v L) : ∃ a c, v = .slice a L.length c := by
  rcases h.2 with ⟨rfl, h0⟩ | ⟨g, cap, cur, rfl, _⟩
  · exact ⟨_, _, by rw [h0]⟩
  · exact ⟨_, _, rfl⟩
theorem take_same {A B : List Int} {k : Nat} {x : Int} (h : A.take k = B.take k) (ha : A[k]? = some x) (hb : B[k]? = some x) : A.take (k + 1) = B.take (k + 1) := by
  rw [List.take_add_one, List.take_add_one, h, ha, hb]
theorem take_all {A B : List Int} {n : Nat} (h : A.take n = B.take n) (ha : n = A.length) (hb : n = B.length) : A = B := by
  rw [ha, List.take_length] at h
  rw [← ha, hb, List.take_length] at h
  exact h
set_option maxHeartbeats 16000000 in
theorem same_ints (A B : List Int) (u v : Value) (w : World) (ha : SL w 3 u A) (hb : SL w 3 v B) (la : A.length ≤ 8192) (lb : B.length ≤ 8192) :
    Calls Try.prog 17 #[u, v] w fun e w' => e = .returned (.bool (decide (A = B))) ∧ ∃ q, w' = w.drewN q := by
  by_cases hl : A.length = B.length
  · by_cases hz : A.length = 0
    · have e : decide (A = B) = true := by
        have h1 := List.length_eq_zero_iff.1 hz
        have h2 := List.length_eq_zero_iff.1 (hl ▸ hz)
        simp [h1, h2]
      obtain ⟨a, c, rfl⟩ := ha.form
      obtain ⟨a', c', rfl⟩ := hb.form
      rw [e, ← hl, hz]
      clear e ha hb hl hz la lb
      go_enter Try.func17, Try.ntmps17
      go_wp2
      refine wp_loop_rounds 1 ?_
      rw [rounds_succ]
      go_wp2
      go_ret
      exact ⟨rfl, 0, rfl⟩
    · rcases ha.cases with ⟨_, rfl⟩ | ⟨g, cap, rfl, hle, hm, hg, hown⟩
      · exact absurd rfl hz
      rcases hb.cases with ⟨_, rfl⟩ | ⟨g', cap', rfl, hle', hm', hg', hown'⟩
      · exact absurd hl hz
      obtain ⟨n, hn⟩ : ∃ n, n = A.length := ⟨_, rfl⟩
      have hn' : n = B.length := hn.trans hl
      rw [← hn] at hle la
      rw [← hn'] at hle' lb
      rw [← hn, ← hn']
      have HA := Lib.hid hown
      have HB := Lib.hid hown'
      have HN := Lib.hid hn
      have HN' := Lib.hid hn'
      clear ha hb hown hown' hl hz hn hn'
      go_enter Try.func17, Try.ntmps17
      go_wp2
      go_loopw [5] (fun i wr => ∃ k : Nat, k ≤ n ∧ i = .int .i64 k ∧ Hid (A.take k = B.take k) ∧ ∃ q, wr = w.drewN q) (fun i _ => n - (intOf i).toNat)
      case atStart => exact ⟨0, by omega, rfl, Lib.hid (by simp), 0, rfl⟩
      case round =>
        obtain ⟨k, hk, rfl, ht, q, rfl⟩ := hrel
        by_cases hlt : k < n
        · have hlt' : decide ((k : Int) < (n : Int)) = true := by simp; omega
          obtain ⟨x, hx⟩ : ∃ x, A[k]? = some x := ⟨A[k]'(by have := HN.out; omega), by simp⟩
          obtain ⟨y, hy⟩ : ∃ y, B[k]? = some y := ⟨B[k]'(by have := HN'.out; omega), by simp⟩
          have cx := row_cell HA.out hx
          have cy := row_cell HB.out hy
          have p0 : (0 : Int) ≤ (k : Int) := by omega
          have p1 : (k : Int) < (n : Int) := by omega
          by_cases he : x = y
          · subst he
            have H1 := Lib.hid (take_same ht.out hx hy)
            clear hx hy
            go_wp2
            go_quiet (fail)
            go_wp2
            go_roundw
            case rel => exact ⟨k + 1, by omega, by go_num, H1, _, rfl⟩
            case measure => simp [intOf]; omega
          · have e : decide (A = B) = false := by
              simp only [decide_eq_false_iff_not]
              intro h
              rw [h, hy] at hx
              exact he (Option.some.inj hx).symm
            have he' : (x != y) = true := by simpa using he
            clear hx hy
            go_wp2
            go_quiet (fail)
            go_wp2
            go_ret
            exact ⟨by rw [e]; rfl, _, World.drewN_drewN ..⟩
        · have e : decide (A = B) = true := by
            have hkn : k = n := by omega
            have h2 := ht.out
            rw [hkn] at h2
            simpa using take_all h2 HN.out HN'.out
          go_wp2
          go_ret
          exact ⟨by rw [e]; rfl, q, rfl⟩
  · have e : decide (A = B) = false := by
      simp only [decide_eq_false_iff_not]
      intro h; exact hl (by rw [h])
    obtain ⟨a, c, rfl⟩ := ha.form
    obtain ⟨a', c', rfl⟩ := hb.form
    have hl' : ((A.length : Int) != (B.length : Int)) = true := by simp only [bne_iff_ne, ne_eq]; omega
    rw [e]
    clear e ha hb
    go_enter Try.func17, Try.ntmps17
    go_wp2
    go_ret
    exact ⟨rfl, 0, rfl⟩
end Wd
end Go.Proofs.Ytdfmbeilmbnpiaa
