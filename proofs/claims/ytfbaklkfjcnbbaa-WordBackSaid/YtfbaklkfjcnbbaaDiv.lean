/- What each function of the package word, and of the document's own answer, returns: division. -/
import Derived.Test.YtfbaklkfjcnbbaaMids
import Derived.Deep.Draws
namespace Go.Proofs.Ytfbaklkfjcnbbaa
open Go.RowKit
namespace Wd

/-- the world is as it was, but for how often Go's open choices were asked -/
def Dr (w w' : World) : Prop := ∃ n, w' = w.drewN n

theorem Div_c (a b : Int) (h0 : 0 ≤ a) (h1 : a ≤ 4294967295) (h2 : 0 ≤ b) (h3 : b ≤ 4294967295) (w : World) :
    Calls Try.prog 18 #[.int .u32 a, .int .u32 b] w fun e w' => e = .returned (.tuple #[.int .u32 (divv a b), .bool (divok a b)]) ∧ Dr w w' := by
  obtain ⟨b1, b2⟩ := nu_bd a h0 h1
  obtain ⟨b3, b4⟩ := nu_bd b h2 h3
  cases hh : both a b
  · have hd : divs a b = false := by simp [divs, hh]
    go_enter Try.func18, Try.ntmps18
    go_wp2_with (first | (go_at_call 33; ((with_reducible refine (areNumbers_c _ _ ?_ ?_ ?_ ?_ _).mono ?_); omega; omega; omega; omega; rintro e w' ⟨rfl, rfl⟩)))
    go_ret2
    exact ⟨ret_u32b (by simp [divv, hd]) (by simp [divok, hd]), 0, rfl⟩
  · by_cases hz : nu b = 0
    · have hz' : (nu b == 0) = true := by simp [hz]
      clear hz
      go_enter Try.func18, Try.ntmps18
      go_wp2_with (first | (go_at_call 33; ((with_reducible refine (areNumbers_c _ _ ?_ ?_ ?_ ?_ _).mono ?_); omega; omega; omega; omega; rintro e w' ⟨rfl, rfl⟩)) | (go_at_call 32; ((with_reducible refine (number_c _ ?_ ?_ _).mono ?_); omega; omega; rintro e w' ⟨rfl, rfl⟩)))
      go_ret2
      exact ⟨ret_u32b (by simp [divv, divs, hz']) (by simp [divok, divs, hz']), 0, rfl⟩
    · have hz' : (nu b == 0) = false := by simp [hz]
      go_enter Try.func18, Try.ntmps18
      go_wp2_with (first | (go_at_call 33; ((with_reducible refine (areNumbers_c _ _ ?_ ?_ ?_ ?_ _).mono ?_); omega; omega; omega; omega; rintro e w' ⟨rfl, rfl⟩)) | (go_at_call 32; ((with_reducible refine (number_c _ ?_ ?_ _).mono ?_); omega; omega; rintro e w' ⟨rfl, rfl⟩)) | (go_at_call 34; ((with_reducible refine (floor_c _ _ ?_ ?_ ?_ _).mono ?_); omega; omega; omega; rintro e w' ⟨rfl, rfl⟩)) | (go_at_call 30; ((with_reducible refine (wordOf_c _ _).mono ?_); rintro e w' ⟨rfl, rfl⟩)))
      go_ret2
      exact ⟨ret_u32b (by simp [divv, divs, hz', hh]) (by simp [divok, divs, hz', hh]), 1, rfl⟩

theorem refDiv_c (a b : Int) (h0 : 0 ≤ a) (h1 : a ≤ 4294967295) (h2 : 0 ≤ b) (h3 : b ≤ 4294967295) (w : World) :
    Calls Try.prog 28 #[.int .u32 a, .int .u32 b] w fun e w' => e = .returned (.tuple #[.int .u32 (divv a b), .bool (divok a b)]) ∧ Dr w w' := by
  obtain ⟨b1, b2⟩ := nu_bd a h0 h1
  obtain ⟨b3, b4⟩ := nu_bd b h2 h3
  cases hh : both a b
  · have hd : divs a b = false := by simp [divs, hh]
    go_enter Try.func28, Try.ntmps28
    go_wp2_with (first | (go_at_call 35; ((with_reducible refine (both_c _ _ ?_ ?_ ?_ ?_ _).mono ?_); omega; omega; omega; omega; rintro e w' ⟨rfl, rfl⟩)))
    go_ret2
    exact ⟨ret_u32b (by simp [divv, hd]) (by simp [divok, hd]), 0, rfl⟩
  · have hab : isN a = true ∧ isN b = true := by simpa [both] using hh
    have na : nv a = nu a := by simp [nv, hab.1]
    have nb : nv b = nu b := by simp [nv, hab.2]
    clear hab
    by_cases hz : nu b = 0
    · have hz' : (nu b == 0) = true := by simp [hz]
      clear hz
      go_enter Try.func28, Try.ntmps28
      go_wp2_with (first | (go_at_call 35; ((with_reducible refine (both_c _ _ ?_ ?_ ?_ ?_ _).mono ?_); omega; omega; omega; omega; rintro e w' ⟨rfl, rfl⟩)))
      go_ret2
      exact ⟨ret_u32b (by simp [divv, divs, hz']) (by simp [divok, divs, hz']), 0, rfl⟩
    · have hz' : (nu b == 0) = false := by simp [hz]
      have hv : divv a b = iv (fl (nu a) (nu b)) := by simp [divv, divs, hz', hh]
      have hk : divok a b = fits (fl (nu a) (nu b)) := by simp [divok, divs, hz', hh]
      rw [hv, hk]
      clear hv hk
      generalize nu a = x at *
      generalize nu b = y at *
      have hq := tdiv_bd x y 1073741824 (by omega) (by omega)
      obtain ⟨q1, q2⟩ := hq
      go_enter Try.func28, Try.ntmps28
      go_wp2_with (first | (go_at_call 35; ((with_reducible refine (both_c _ _ ?_ ?_ ?_ ?_ _).mono ?_); omega; omega; omega; omega; rintro e w' ⟨rfl, rfl⟩)) | (go_at_call 10; ((with_reducible refine (refInt_c _ _).mono ?_); rintro e w' ⟨rfl, rfl⟩)))
      all_goals go_ret2
      · rename_i e
        have k : fl x y = x.tdiv y := by rw [fl_signs _ _ hz]; simp [e]
        exact ⟨ret_u32b (by rw [k]) (by rw [k]), 0, rfl⟩
      · rename_i e1 e2
        have k : fl x y = x.tdiv y - 1 := by rw [fl_signs _ _ hz]; simp at e2; simp [e2]
        exact ⟨ret_u32b (by rw [k]) (by rw [k]), 0, rfl⟩
      · rename_i e1 e2
        have k : fl x y = x.tdiv y := by rw [fl_signs _ _ hz]; simp [e1] at e2; simp [e2]
        exact ⟨ret_u32b (by rw [k]) (by rw [k]), 0, rfl⟩
end Wd
end Go.Proofs.Ytfbaklkfjcnbbaa
