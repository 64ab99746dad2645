/- The document's own mill: Alloc, Scan, Color. -/
import Derived.Test.YtjobeomadkaeoaaMFirst
namespace Go.Proofs.Ytjobeomadkaeoaa
open Go.RowKit
namespace Wd
theorem ralloc_c (b : Nat) (A : Mst) (V : Nat → Value) (w : World) (h : RefM w b A V) (hl : ∀ k, k < 4 → (A k).length ≤ 8192) :
    Calls Try.prog 24 #[.pointer (some ⟨b, 0, none⟩)] w fun e w' => e = .returned (.int .i64 (firstR A 0)) ∧ ∃ V', RefM w' b (firstA A 0 1) V' ∧ w.grownBy w' (some b) ∧ Comes V V' w.heap.size := by
  replace h := Lib.hid h
  go_enter Try.func24, Try.ntmps24
  go_wp2_with (first | (go_at_call 31; ((with_reducible refine (first0_c b A V _ h.out hl).mono ?_); rintro e w' ⟨rfl, V', h1, h2, h3⟩; replace h1 := Lib.hid h1; replace h2 := Lib.hid h2; replace h3 := Lib.hid h3)))
  go_ret
  exact ⟨rfl, V', h1.out, h2.out, h3.out⟩
theorem rscan_c (b : Nat) (A : Mst) (V : Nat → Value) (w : World) (h : RefM w b A V) (hl : ∀ k, k < 4 → (A k).length ≤ 8192) :
    Calls Try.prog 22 #[.pointer (some ⟨b, 0, none⟩)] w fun e w' => e = .returned (.int .i64 (firstR A 2)) ∧ ∃ V', RefM w' b (firstA A 2 1) V' ∧ w.grownBy w' (some b) ∧ Comes V V' w.heap.size := by
  replace h := Lib.hid h
  go_enter Try.func22, Try.ntmps22
  go_wp2_with (first | (go_at_call 31; ((with_reducible refine (first2_c b A V _ h.out hl).mono ?_); rintro e w' ⟨rfl, V', h1, h2, h3⟩; replace h1 := Lib.hid h1; replace h2 := Lib.hid h2; replace h3 := Lib.hid h3)))
  go_ret
  exact ⟨rfl, V', h1.out, h2.out, h3.out⟩
theorem colorR_hit {A : Mst} {i : Int} {c : Nat} (hc : c < 4) (hn : ∀ j, j < c → i ∉ A j) (hi : i ∈ A c) : colorR A i = c := by
  unfold colorR
  have h0 := hn 0
  have h1 := hn 1
  have h2 := hn 2
  rcases (show c = 0 ∨ c = 1 ∨ c = 2 ∨ c = 3 by omega) with rfl | rfl | rfl | rfl <;> simp_all
theorem colorR_miss {A : Mst} {i : Int} (hn : ∀ j, j < 4 → i ∉ A j) : colorR A i = -1 := by
  unfold colorR
  rw [if_neg (hn 0 (by decide)), if_neg (hn 1 (by decide)), if_neg (hn 2 (by decide)), if_neg (hn 3 (by decide))]
set_option maxHeartbeats 4000000 in
theorem rcolor_c (i : Int) (b : Nat) (A : Mst) (V : Nat → Value) (w : World) (h : RefM w b A V) (hl : ∀ k, k < 4 → (A k).length ≤ 8192) :
    Calls Try.prog 30 #[.pointer (some ⟨b, 0, none⟩), .int .i64 i] w fun e w' => e = .returned (.int .i64 (colorR A i)) ∧ w' = w := by
  replace h := Lib.hid h
  go_enter Try.func30, Try.ntmps30
  go_wp2
  go_loop [8] (fun s => ∃ c : Nat, c ≤ 4 ∧ s = .int .i64 c ∧ Hid (∀ j, j < c → i ∉ A j)) (fun s => 4 - (intOf s).toNat)
  case atStart => exact ⟨0, by omega, rfl, Lib.hid (fun j hj => by omega)⟩
  case round =>
    obtain ⟨c, hc, rfl, hnot⟩ := hrel
    by_cases hlt : c < 4
    · have hlt' : decide ((c : Int) < 4) = true := by simp; omega
      have p0 : (0 : Int) ≤ (c : Int) := by omega
      have p1 : (c : Int) < 4 := by omega
      have cc := h.out.c c hlt
      have hln := hl c hlt
      rcases (h.out.own c hlt).cases with ⟨hv, h0⟩ | ⟨g, cap, hv, hle, hm, hg, hown⟩
      · rw [hv] at cc
        have H1 : Hid (∀ j, j < c + 1 → i ∉ A j) := Lib.hid (fun j hj => by
          by_cases e : j = c
          · subst e; rw [h0]; simp
          · exact hnot.out j (by omega))
        clear h0 hv
        go_wp2
        refine wp_loop_rounds 1 ?_
        rw [rounds_succ]
        go_wp2
        go_round
        case rel => exact ⟨c + 1, by omega, by go_num, H1⟩
        case measure => simp [intOf]; omega
      · rw [hv] at cc
        have HO := Lib.hid hown
        obtain ⟨n, hn⟩ : ∃ n, n = (A c).length := ⟨_, rfl⟩
        rw [← hn] at cc hle hln
        have HN := Lib.hid hn
        clear hown hv hn
        go_wp2
        go_loop [18] (fun s => ∃ k : Nat, k ≤ n ∧ s = .int .i64 k ∧ Hid (i ∉ (A c).take k)) (fun s => n - (intOf s).toNat)
        case atStart => exact ⟨0, by omega, rfl, Lib.hid (by simp)⟩
        case round =>
          obtain ⟨k, hk, rfl, hin⟩ := hrel
          by_cases hkn : k < n
          · have hkn' : decide ((k : Int) < n) = true := by simp; omega
            obtain ⟨x, hx⟩ : ∃ x, (A c)[k]? = some x := ⟨(A c)[k]'(by have := HN.out; omega), by simp⟩
            have hcx := row_cell (by rw [← HN.out] at HO; exact HO.out) hx
            have HX := Lib.hid hx
            clear hx
            by_cases he : x = i
            · have e : colorR A i = c := colorR_hit hlt hnot.out (List.mem_of_getElem? (by rw [← he]; exact HX.out))
              have he' : (x == i) = true := by simp [he]
              go_wp2
              go_ret
              exact ⟨by simp, rfl⟩
            · have he' : (x == i) = false := by simp [he]
              go_wp2
              go_round
              case rel => exact ⟨k + 1, by omega, by go_num, Lib.hid (take_step (A c) i x k hin.out HX.out he)⟩
              case measure => simp [intOf]; omega
          · have H1 : Hid (∀ j, j < c + 1 → i ∉ A j) := Lib.hid (fun j hj => by
              by_cases e : j = c
              · subst e
                have h2 := hin.out
                rwa [List.take_of_length_le (by have := HN.out; omega)] at h2
              · exact hnot.out j (by omega))
            have hkn' : decide ((k : Int) < n) = false := by simp; omega
            go_wp2
            go_round
            case rel => exact ⟨c + 1, by omega, by go_num, H1⟩
            case measure => simp [intOf]; omega
    · have hc4 : c = 4 := by omega
      subst hc4
      have e : colorR A i = -1 := colorR_miss hnot.out
      go_wp2
      go_ret
      exact ⟨by simp, rfl⟩
end Wd
end Go.Proofs.Ytjobeomadkaeoaa
