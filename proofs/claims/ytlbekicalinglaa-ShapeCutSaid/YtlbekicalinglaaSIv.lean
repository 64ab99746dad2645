/- Rows of numbers that are read, wherever they begin: the book's Same. -/
import Derived.Test.YtlbekicalinglaaSTape
namespace Go.Proofs.Ytlbekicalinglaa
open Go.RowKit
set_option linter.unusedVariables false
set_option maxRecDepth 20000
namespace Wd
/-- a row of numbers, read -/
structure IV (w : World) (v : Value) (n : Nat) (L : List Int) : Prop where
  mk ::
  len : n = L.length
  ex : ∃ ad cap, v = .slice ad n cap ∧ n ≤ cap ∧ ∀ (k : Nat) x, L[k]? = some x → ∃ g off, ad = some ⟨g, off, none⟩ ∧ w.cell? ⟨g, off + k, none⟩ = some (.int .i64 x)
theorem SL.iv {w : World} {e : TypeId} {v : Value} {L : List Int} (h : SL w e v L) : IV w v L.length L := by
  rcases h.cases with ⟨rfl, rfl⟩ | ⟨g, cap, rfl, hle, _, _, ho⟩
  · exact ⟨rfl, none, 0, rfl, by simp, fun k x hx => by simp at hx⟩
  · exact ⟨rfl, _, cap, rfl, hle, fun k x hx => ⟨g, 0, rfl, by rw [Nat.zero_add]; exact row_cell ho hx⟩⟩
theorem IV.at {w : World} {ad : Option Addr} {n m c : Nat} {L : List Int} (h : IV w (.slice ad m c) n L) {k : Nat} {x : Int} (hx : L[k]? = some x) : ∃ g off, ad = some ⟨g, off, none⟩ ∧ w.cell? ⟨g, off + k, none⟩ = some (.int .i64 x) := by
  obtain ⟨ad', cap', e, _, h3⟩ := h.ex
  cases e
  exact h3 k x hx
theorem IV.form {w : World} {v : Value} {n : Nat} {L : List Int} (h : IV w v n L) : ∃ a c, v = .slice a n c := by
  obtain ⟨ad', cap', e, _, h3⟩ := h.ex
  exact ⟨_, _, e⟩
theorem IV.up {w w1 : World} {v : Value} {n : Nat} {L : List Int} (h : IV w v n L) (b : Below w.heap.size w w1) : IV w1 v n L := by
  obtain ⟨ad', cap', e, hc, h3⟩ := h.ex
  refine ⟨h.len, ad', cap', e, hc, fun k x hx => ?_⟩
  obtain ⟨g, off, e1, c⟩ := h3 k x hx
  exact ⟨g, off, e1, cell_up b c⟩
set_option maxHeartbeats 16000000 in
theorem same_iv (A B : List Int) (n m : Nat) (u v : Value) (w : World) (ha : IV w u n A) (hb : IV w v m B) (la : n ≤ 8192) (lb : m ≤ 8192) :
    Calls Try.prog 17 #[u, v] w fun e w' => e = .returned (.bool (decide (A = B))) ∧ ∃ q, w' = w.drewN q := by
  obtain ⟨a, c, rfl⟩ := ha.form
  obtain ⟨a', c', rfl⟩ := hb.form
  by_cases hl : n = m
  · subst hl
    have HN := Lib.hid ha.len
    have HN' := Lib.hid hb.len
    have HA := Lib.hid ha
    have HB := Lib.hid hb
    clear ha hb
    go_enter Try.func17, Try.ntmps17
    go_wp2
    go_loopw [5] (fun i wr => ∃ k : Nat, k ≤ n ∧ i = .int .i64 k ∧ Hid (A.take k = B.take k) ∧ ∃ q, wr = w.drewN q) (fun i _ => n - (intOf i).toNat)
    case atStart => exact ⟨0, by omega, rfl, Lib.hid (by simp), 0, rfl⟩
    case round =>
      obtain ⟨k, hk, rfl, ht, q, rfl⟩ := hrel
      by_cases hlt : k < n
      · have hlt' : decide ((k : Int) < (n : Int)) = true := by simp; omega
        obtain ⟨x, hx⟩ : ∃ x, A[k]? = some x := ⟨A[k]'(by have := HN.out; omega), by simp⟩
        obtain ⟨y, hy⟩ : ∃ y, B[k]? = some y := ⟨B[k]'(by have := HN'.out; omega), by simp⟩
        obtain ⟨g, off, rfl, cx⟩ := HA.out.at hx
        obtain ⟨g', off', rfl, cy⟩ := HB.out.at hy
        have p0 : (0 : Int) ≤ (k : Int) := by omega
        have p1 : (k : Int) < (n : Int) := by omega
        by_cases he : x = y
        · subst he
          have H1 := Lib.hid (take_same ht.out hx hy)
          clear hx hy
          go_wp2
          go_quiet (fail)
          go_wp2
          go_roundw
          case rel => exact ⟨k + 1, by omega, by go_num, H1, _, rfl⟩
          case measure => simp [intOf]; omega
        · have e : decide (A = B) = false := by
            simp only [decide_eq_false_iff_not]
            intro h
            rw [h, hy] at hx
            exact he (Option.some.inj hx).symm
          have he' : (x != y) = true := by simpa using he
          clear hx hy
          go_wp2
          go_quiet (fail)
          go_wp2
          go_ret
          exact ⟨by rw [e]; rfl, _, World.drewN_drewN ..⟩
      · have e : decide (A = B) = true := by
          have hkn : k = n := by omega
          have h2 := ht.out
          rw [hkn] at h2
          simpa using take_all h2 HN.out HN'.out
        go_wp2
        go_ret
        exact ⟨by rw [e]; rfl, q, rfl⟩
  · have e : decide (A = B) = false := by
      simp only [decide_eq_false_iff_not]
      intro h
      have h1 := ha.len
      have h2 := hb.len
      rw [h] at h1
      omega
    have hl' : ((n : Int) != (m : Int)) = true := by simp only [bne_iff_ne, ne_eq]; omega
    rw [e]
    clear e ha hb
    go_enter Try.func17, Try.ntmps17
    go_wp2
    go_ret
    exact ⟨rfl, 0, rfl⟩
end Wd
end Go.Proofs.Ytlbekicalinglaa
