/- What the laws ask of a cache: known. -/
import Derived.Test.YtpilbpofikdkmaaYLaw
namespace Go.Proofs.Ytpilbpofikdkmaa
open Go.RowKit
set_option linter.unusedVariables false
set_option maxRecDepth 20000
namespace Wd
def Sk1 : Cst := getS S0 1 1
def Sk2 : Cst := putS Sk1 1 1 7
def Sk3 : Cst := getS Sk2 1 1
def Sk4 : Cst := putS Sk3 2 2 8
def Sk5 : Cst := getS Sk4 1 1
def Sk6 : Cst := clrS Sk5
theorem k1 : I64 1 := ⟨by omega, by omega⟩
theorem k2 : I64 2 := ⟨by omega, by omega⟩
theorem k7 : I64 7 := ⟨by omega, by omega⟩
theorem k8 : I64 8 := ⟨by omega, by omega⟩
set_option maxHeartbeats 16000000 in
theorem known_c {CA : CAt} (K : CacK CA) (w : World) :
    Calls Try.prog 8 #[] w fun e w' => e = .returned (.bool true) ∧ Below w.heap.size w w' := by
  go_enter Try.func8, Try.ntmps8
  go_wp2_with fail
  refine (new_s K _).mono ?_
  rintro e w1 ⟨p, F, rfl, h0⟩
  replace h0 := Lib.hid h0
  go_wp2_with fail
  refine (get_s K h0.out (x := -1) (y := false) (S' := Sk1) k1 k1 (by decide) (by kernel_rfl) (by kernel_rfl) rfl).mono ?_
  rintro e w2 ⟨F1, rfl, h1, _, _⟩
  replace h1 := Lib.hid h1
  clear h0
  go_wp2_with fail
  refine (put_s K h1.out (S' := Sk2) k1 k1 k7 rfl).mono ?_
  rintro e w3 ⟨F2, rfl, h2, _, _⟩
  replace h2 := Lib.hid h2
  clear h1
  go_wp2_with fail
  refine (get_s K h2.out (x := 7) (y := true) (S' := Sk3) k1 k1 (of_decide_eq_true (by kernel_rfl)) (by kernel_rfl) (by kernel_rfl) rfl).mono ?_
  rintro e w4 ⟨F3, rfl, h3, _, _⟩
  replace h3 := Lib.hid h3
  clear h2
  go_wp2_with fail
  refine (put_s K h3.out (S' := Sk4) k2 k2 k8 rfl).mono ?_
  rintro e w5 ⟨F4, rfl, h4, _, _⟩
  replace h4 := Lib.hid h4
  clear h3
  go_wp2_with fail
  refine (get_s K h4.out (x := -1) (y := false) (S' := Sk5) k1 k1 (of_decide_eq_true (by kernel_rfl)) (by kernel_rfl) (by kernel_rfl) rfl).mono ?_
  rintro e w6 ⟨F5, rfl, h5, _, _⟩
  replace h5 := Lib.hid h5
  clear h4
  go_wp2_with fail
  refine (len_s K h5.out (n := 1) (by kernel_rfl)).mono ?_
  rintro e w7 ⟨rfl, h6, _⟩
  replace h6 := Lib.hid h6
  clear h5
  go_wp2_with fail
  refine (clear_s K h6.out (S' := Sk6) rfl).mono ?_
  rintro e w8 ⟨F6, rfl, h7, _, _⟩
  replace h7 := Lib.hid h7
  clear h6
  go_wp2_with fail
  refine (len_s K h7.out (n := 0) (by kernel_rfl)).mono ?_
  rintro e w9 ⟨rfl, h8, _⟩
  replace h8 := Lib.hid h8
  clear h7
  go_wp2_with fail
  refine (hits_s K h8.out (n := 1) (by kernel_rfl)).mono ?_
  rintro e w10 ⟨rfl, h9, _⟩
  replace h9 := Lib.hid h9
  clear h8
  go_wp2_with fail
  refine (misses_s K h9.out (n := 2) (by kernel_rfl)).mono ?_
  rintro e w11 ⟨rfl, h10, _⟩
  replace h10 := Lib.hid h10
  clear h9
  go_wp2
  go_ret
  exact ⟨rfl, h10.out.bel⟩
end Wd
end Go.Proofs.Ytpilbpofikdkmaa
