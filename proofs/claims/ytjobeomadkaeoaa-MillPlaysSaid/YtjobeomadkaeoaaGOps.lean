/- The package's mill: Color, Count, and what lies behind a stretch. -/
import Derived.Test.YtjobeomadkaeoaaGBase
namespace Go.Proofs.Ytjobeomadkaeoaa
open Go.RowKit
set_option linter.unusedVariables false
namespace Wd
theorem gcolor_k {w : World} {p n : Nat} {A : Mst} {F : Nat → Prop} (i : Int) (h : MA w p n A F) :
    Calls Try.prog 16 #[.pointer (some ⟨p, 0, none⟩), .int .i64 i] w fun e w' => e = .returned (.int .i64 (colorR A i)) ∧ w' = w := by
  obtain ⟨q, gc, FR, cs, fs, ns, rfl, hS, hT, hC, hG, h1, h2⟩ := h
  have c1 := hS.c1
  by_cases h0 : 0 ≤ i
  · by_cases hn : i < n
    · obtain ⟨k, rfl⟩ : ∃ k : Nat, i = k := ⟨i.toNat, by omega⟩
      have hk : k < n := by omega
      rw [← hC k hk]
      have c2 := hS.cc k hk
      have d1 : decide ((k : Int) < 0) = false := by simp
      have d2 : decide ((k : Int) ≥ (n : Int)) = false := by simp; omega
      have d3 : decide ((n : Int) ≤ (k : Int)) = false := by simp; omega
      clear hS hT hC hG h1 h2
      go_enter Try.func16, Try.ntmps16
      go_wp2
      go_ret
      exact ⟨rfl, rfl⟩
    · rw [good_out hG (by omega)]
      have d1 : decide (i < 0) = false := by simp; omega
      have d2 : decide (i ≥ (n : Int)) = true := by simp; omega
      have d3 : decide ((n : Int) ≤ i) = true := by simp; omega
      clear hS hT hC hG h1 h2
      go_enter Try.func16, Try.ntmps16
      go_wp2
      go_ret
      exact ⟨rfl, rfl⟩
  · rw [good_out hG (by omega)]
    have d1 : decide (i < 0) = true := by simp; omega
    clear hS hT hC hG h1 h2
    go_enter Try.func16, Try.ntmps16
    go_wp2
    go_ret
    exact ⟨rfl, rfl⟩
theorem gcount_k {w : World} {p n : Nat} {A : Mst} {F : Nat → Prop} (c : Int) (h : MA w p n A F) :
    Calls Try.prog 17 #[.pointer (some ⟨p, 0, none⟩), .int .i64 c] w fun e w' => e = .returned (.int .i64 (rowA A c).length) ∧ w' = w := by
  obtain ⟨q, gc, FR, cs, fs, ns, rfl, hS, hT, hC, hG, h1, h2⟩ := h
  by_cases h0 : 0 ≤ c
  · by_cases hn : c < 4
    · obtain ⟨k, rfl⟩ : ∃ k : Nat, c = k := ⟨c.toNat, by omega⟩
      have hk : k < 4 := by omega
      have c2 := hS.cn k hk
      rw [hT.en k hk] at c2
      have e : rowA A (k : Int) = A k := by unfold rowA; rw [if_pos ⟨h0, hn⟩]; simp
      rw [e]
      clear e
      have d1 : decide ((k : Int) < 0) = false := by simp
      have d2 : decide ((k : Int) ≥ 4) = false := by simp; omega
      have d3 : decide (4 ≤ (k : Int)) = false := by simp; omega
      clear hS hT hC hG h1 h2
      generalize (A k).length = m at *
      go_enter Try.func17, Try.ntmps17
      go_wp2
      go_ret
      exact ⟨rfl, rfl⟩
    · rw [show rowA A c = [] by unfold rowA; rw [if_neg (by omega)]]
      have d1 : decide (c < 0) = false := by simp; omega
      have d2 : decide (c ≥ 4) = true := by simp; omega
      have d3 : decide (4 ≤ c) = true := by simp; omega
      clear hS hT hC hG h1 h2
      go_enter Try.func17, Try.ntmps17
      go_wp2
      go_ret
      exact ⟨rfl, rfl⟩
  · rw [show rowA A c = [] by unfold rowA; rw [if_neg (by omega)]]
    have d1 : decide (c < 0) = true := by simp; omega
    clear hS hT hC hG h1 h2
    go_enter Try.func17, Try.ntmps17
    go_wp2
    go_ret
    exact ⟨rfl, rfl⟩
/-- the rows behind y, and y itself -/
def turnd (A : Mst) (y : Nat) : List Int := A ((y + 1) % 4) ++ (A ((y + 2) % 4) ++ (A ((y + 3) % 4) ++ A ((y + 4) % 4)))
theorem turnd_none {A : Mst} {y : Nat} (h : ∀ j, j < 4 → A ((y + 1 + j) % 4) = []) : (turnd A y).headD (-1) = -1 := by
  have h0 := h 0 (by omega); have h1 := h 1 (by omega); have h2 := h 2 (by omega); have h3 := h 3 (by omega)
  simp only [Nat.add_assoc] at h0 h1 h2 h3
  unfold turnd
  rw [show (y + (1 + 0)) = y + 1 by omega] at h0
  rw [show (y + (1 + 1)) = y + 2 by omega] at h1
  rw [show (y + (1 + 2)) = y + 3 by omega] at h2
  rw [show (y + (1 + 3)) = y + 4 by omega] at h3
  rw [h0, h1, h2, h3]; rfl
theorem turnd_some {A : Mst} {y k : Nat} {i : Int} {T : List Int} (hk : k < 4) (h : ∀ j, j < k → A ((y + 1 + j) % 4) = []) (hi : A ((y + 1 + k) % 4) = i :: T) : (turnd A y).headD (-1) = i := by
  unfold turnd
  rcases (show k = 0 ∨ k = 1 ∨ k = 2 ∨ k = 3 by omega) with rfl | rfl | rfl | rfl
  · rw [show y + 1 + 0 = y + 1 by omega] at hi
    rw [hi]; rfl
  · have h0 := h 0 (by omega)
    rw [show y + 1 + 0 = y + 1 by omega] at h0
    rw [show y + 1 + 1 = y + 2 by omega] at hi
    rw [h0, hi]; rfl
  · have h0 := h 0 (by omega); have h1 := h 1 (by omega)
    rw [show y + 1 + 0 = y + 1 by omega] at h0
    rw [show y + 1 + 1 = y + 2 by omega] at h1
    rw [show y + 1 + 2 = y + 3 by omega] at hi
    rw [h0, h1, hi]; rfl
  · have h0 := h 0 (by omega); have h1 := h 1 (by omega); have h2 := h 2 (by omega)
    rw [show y + 1 + 0 = y + 1 by omega] at h0
    rw [show y + 1 + 1 = y + 2 by omega] at h1
    rw [show y + 1 + 2 = y + 3 by omega] at h2
    rw [show y + 1 + 3 = y + 4 by omega] at hi
    rw [h0, h1, h2, hi]; rfl
/-- the first one behind row y; -1, if there is none -/
def behR (A : Mst) (y : Nat) : Int := (turnd A y).headD (-1)
/-- so far the rows behind are empty -/
structure BSt (A : Mst) (y k : Nat) (w wr : World) : Prop where
  eq : wr = w
  em : ∀ j, j < k → A ((y + 1 + j) % 4) = []
theorem gbehind_c {w : World} {p q gc n y : Nat} {FR : Nat → Prop} {L : List Int} {cs fs ns : Nat → Int} {A : Mst} (hy : y < 4) (hS : MS w p q gc n FR L cs fs ns) (hT : MT A fs ns) :
    Calls Try.prog 35 #[.pointer (some ⟨p, 0, none⟩), .int .i64 (y : Int)] w fun e w' => e = .returned (.int .i64 (behR A y)) ∧ w' = w := by
  have hcf := Lib.hid hS.cf
  have hcn := Lib.hid hS.cn
  replace hT := Lib.hid hT
  clear hS
  go_enter Try.func35, Try.ntmps35
  go_wp2
  go_loopw [7] (fun i wr => ∃ k : Nat, k ≤ 4 ∧ i = .int .i64 k ∧ BSt A y k w wr) (fun i _ => 4 - (intOf i).toNat)
  case atStart => exact ⟨0, by omega, rfl, rfl, fun j hj => by omega⟩
  case round =>
    obtain ⟨k, hk, rfl, rfl, hR⟩ := hrel
    by_cases hlt : k < 4
    · have hlt' : decide ((k : Int) < 4) = true := by simp; omega
      have hw1 : IntKind.i64.wrap ((y : Int) + 1) = (y : Int) + 1 := by rw [IntKind.wrap_i64]; omega
      have hw2 : IntKind.i64.wrap ((y : Int) + 1 + (k : Int)) = (y : Int) + 1 + (k : Int) := by rw [IntKind.wrap_i64]; omega
      have hw3 : IntKind.i64.wrap ((k : Int) + 1) = (k : Int) + 1 := by rw [IntKind.wrap_i64]; omega
      obtain ⟨z, hz⟩ : ∃ z, z = (y + 1 + k) % 4 := ⟨_, rfl⟩
      have hq : Int.tmod ((y : Int) + 1 + (k : Int)) 4 = (z : Int) := by rw [hz, show ((y : Int) + 1 + (k : Int)) = ((y + 1 + k : Nat) : Int) by omega]; exact (Int.ofNat_tmod _ 4).symm
      have hz4 : z < 4 := by omega
      have hz4' : (z : Int) < 4 := by omega
      have hzf := hcf.out z hz4
      have hzn := hcn.out z hz4
      rw [hT.out.en z hz4] at hzn
      rcases hA : A z with _ | ⟨i, T⟩
      · rw [hA] at hzn
        have hR' : Hid (BSt A y (k + 1) wr wr) := Lib.hid ⟨rfl, fun j hj => by
          by_cases c : j = k
          · subst c; rw [← hz]; exact hA
          · exact hR j (by omega)⟩
        clear hR hA hz
        have hzn' : wr.cell? ⟨p, 6 + z, none⟩ = some (.int .i64 0) := hzn
        clear hzn
        go_wp2
        go_roundw
        case rel => exact ⟨k + 1, by omega, by go_num, hR'.out⟩
        case measure => simp [intOf]; omega
      · have e : behR A y = i := turnd_some hlt hR (hz ▸ hA)
        rw [hA] at hzn
        rw [hT.out.ef z hz4 i T hA] at hzf
        have hm : 0 < (((i :: T).length : Nat) : Int) := by simp
        have hm' : decide ((((i :: T).length : Nat) : Int) > 0) = true := by simp
        replace e := Lib.hid e
        generalize (i :: T).length = m at *
        clear hR hA hz
        go_wp2
        go_ret
        exact ⟨by rw [e.out]; rfl, rfl⟩
    · have e : k = 4 := by omega
      subst e
      have e : Hid (behR A y = -1) := Lib.hid (turnd_none hR)
      clear hR
      go_wp2
      go_ret
      exact ⟨by rw [e.out]; rfl, rfl⟩
end Wd
end Go.Proofs.Ytjobeomadkaeoaa
