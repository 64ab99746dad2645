/- NameTells, over what the laws ask of the package. -/
import Derived.Test.YtbefmkkmkjogcaaISame
import Derived.Test.YtbefmkkmkjogcaaIPlay
import Derived.Test.YtbefmkkmkjogcaaIKnown
import Derived.Deep.CutBlock
import Derived.Deep.DeepCutAuto
namespace Go.Proofs.Ytbefmkkmkjogcaa
open Go.RowKit
set_option linter.unusedVariables false
set_option maxRecDepth 20000
namespace Wd
theorem BytV.upB {w w' : World} {ad : Option Addr} {n : Nat} {L : List UInt8} (h : BytV w ad n L) (hb : Below w.heap.size w w') : BytV w' ad n L := h.up (fun _ _ _ hc => cell_up hb hc)
theorem str6 (w : World) (a b c d e f : ByteArray) (g : Nat) (hg : g = w.heap.size) : StrV (w.alloc (.cells #[.string a, .string b, .string c, .string d, .string e, .string f] 9)) (some ⟨g, 0, none⟩) 6 (fun k => [a, b, c, d, e, f].getD k ⟨#[]⟩) := by
  subst hg
  intro k hk
  refine ⟨_, _, rfl, ?_⟩
  rcases (show k = 0 ∨ k = 1 ∨ k = 2 ∨ k = 3 ∨ k = 4 ∨ k = 5 by omega) with rfl | rfl | rfl | rfl | rfl | rfl <;> simp
set_option maxHeartbeats 16000000 in
theorem tells_any {NA : NAt} (KN : NamK) (KT : TexK) (K : TabK NA) (a0 b0 : ByteArray) {w : World} {rd : Option Addr} {rn rc : Nat} {L : List UInt8} (HR : BytV w rd rn L) {ad : Option Addr} {n cap : Nat} {S : Nat → ByteArray} (HA : StrV w ad n S) (hn : n ≤ 9223372036854775807) :
    Calls Try.prog 4 #[.string a0, .string b0, .slice rd rn rc, .slice ad n cap] w fun e w' => e = .returned (.bool true) ∧ Below w.heap.size w w' := by
  replace HR := Lib.hid HR
  replace HA := Lib.hid HA
  go_enter Try.func4, Try.ntmps4
  go_upto_if 11 with fail
  go_cut [0] (fun i0 wx => ∃ s : ByteArray, i0 = .string s ∧ s.size ≤ 40 ∧ wx = w)
  case first =>
    by_cases h : 40 < a0.size
    · have h' : decide ((a0.size : Int) > 40) = true := by simp; omega
      go_wp2_with fail
      go_meet
      exact ⟨_, rfl, by simp; omega, rfl⟩
    · have h' : decide ((a0.size : Int) > 40) = false := by simp; omega
      go_wp2_with fail
      go_meet
      exact ⟨_, rfl, by omega, rfl⟩
  case rest =>
    obtain ⟨a, rfl, ha, rfl⟩ := hcut
    go_upto_if 16 with fail
    go_cut [1] (fun i1 wx => ∃ s : ByteArray, i1 = .string s ∧ s.size ≤ 40 ∧ wx = wc)
    case first =>
      by_cases h : 40 < b0.size
      · have h' : decide ((b0.size : Int) > 40) = true := by simp; omega
        go_wp2_with fail
        go_meet
        exact ⟨_, rfl, by simp; omega, rfl⟩
      · have h' : decide ((b0.size : Int) > 40) = false := by simp; omega
        go_wp2_with fail
        go_meet
        exact ⟨_, rfl, by omega, rfl⟩
    case rest =>
      obtain ⟨b, rfl, hb, rfl⟩ := hcut
      have l1 : ¬ 9223372036854775807 < 1 + a.size := by omega
      have l2 : ¬ 9223372036854775807 < a.size + 1 := by omega
      have l3 : ¬ 9223372036854775807 < b.size + 1 := by omega
      have P1 := Lib.hid (same_c KN a)
      have P2 := Lib.hid (same_c KN b)
      have P3 := Lib.hid (same_c KN (⟨#[97]⟩ ++ a))
      have P4 := Lib.hid (same_c KN (a ++ ⟨#[58]⟩))
      have hB := Lib.hid (Below.refl wc.heap.size wc)
      go_wp2_with (first | (go_at_call 7; first | ((with_reducible refine (P1.out _).mono ?_); rintro e2 w2 ⟨rfl, hb⟩; replace hB := Lib.hid (hB.out.trans (hb.mono hB.out.size)); clear hb) | ((with_reducible refine (P2.out _).mono ?_); rintro e2 w2 ⟨rfl, hb⟩; replace hB := Lib.hid (hB.out.trans (hb.mono hB.out.size)); clear hb) | ((with_reducible refine (P3.out _).mono ?_); rintro e2 w2 ⟨rfl, hb⟩; replace hB := Lib.hid (hB.out.trans (hb.mono hB.out.size)); clear hb) | ((with_reducible refine (P4.out _).mono ?_); rintro e2 w2 ⟨rfl, hb⟩; replace hB := Lib.hid (hB.out.trans (hb.mono hB.out.size)); clear hb)) | (go_at_call 8; ((with_reducible refine (text_any KT (HR.out.upB hB.out)).mono ?_); rintro e3 w3 ⟨rfl, hb⟩; replace hB := Lib.hid (hB.out.trans (hb.mono hB.out.size)); clear hb)) | (go_at_call 9; first | ((with_reducible refine (play_any K (HA.out.up hB.out) hn).mono ?_); rintro e4 w4 ⟨rfl, hb⟩; replace hB := Lib.hid (hB.out.trans (hb.mono hB.out.size)); clear hb) | ((refine (play_any K (str6 _ _ _ _ _ _ _ _ rfl) (by omega)).mono ?_); rintro e5 w5 ⟨rfl, hb⟩; replace hB := Lib.hid (hB.out.trans (((Below.refl _ _).alloc (Nat.le_refl _) _ |>.trans (hb.mono (by simp))).mono hB.out.size)); clear hb)) | (go_at_call 10; ((with_reducible refine (known_c KN KT K _).mono ?_); rintro e6 w6 ⟨rfl, hb⟩; replace hB := Lib.hid (hB.out.trans (hb.mono hB.out.size)); clear hb)))
      go_ret
      exact ⟨rfl, hB.out⟩
end Wd
end Go.Proofs.Ytbefmkkmkjogcaa
