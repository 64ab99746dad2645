/- Texts joined: EKnown0, EKnown, ESw0, EFg0, EFi0, EFields, EPls0, EPlays, EShell, MLaw. -/
import Derived.Test.YtdaojohdmidemaaGreatJ6
import Derived.Test.YtdaojohdmidemaaGreatJ7
import Derived.Laws.Bits128
import Derived.Deep.AppendLies
import Derived.Deep.RegionHeld3
import Derived.SizedLaws
import Derived.ProofKit
import Derived.OpenShut
import Derived.Carry
/- What chapter 9's runs come to, plainly. -/
namespace Go.Proofs.YtdaojohdmidemaaGreat
open Go.RowKit Go.Maps
set_option linter.unusedVariables false
namespace Wd
theorem HInv.alc_at {n : Nat → Nat} {H : Hst} (h : HInv n H) {cl f : Int} {s k : Nat} {i : Int} {Rw : List Int} (c0 : 0 ≤ cl) (c1 : cl ≤ 4095) (hf : fo f = s) (hR : H.M s 0 = i :: Rw) (hk : freeR H.T = some k) (hs : s < 5) :
    alcI H cl f = k ∧ alcH H cl f = { T := updT H.T k (some ((s : Int), i)), M := upM H.M s (firstA (H.M s) 0 1), C := upC H.C ((s : Int), i) (cl, List.replicate f.toNat 2) } := by
  have hs' : (fo f).toNat = s := by omega
  have hb : alcB H cl f = true := by
    unfold alcB
    rw [hs', hR, decide_eq_true ⟨c0, c1⟩, decide_eq_true (show 0 ≤ fo f by omega)]
    rfl
  have ep : alcP H f = ((s : Int), i) := by unfold alcP firstR; rw [hs', hR, hf]
  have ho := h.miss hs (show i ∈ H.M s 0 by rw [hR]; simp)
  refine ⟨?_, ?_⟩
  · unfold alcI
    rw [if_pos hb, ep]
    unfold takeI
    rw [ho, hk]; rfl
  · unfold alcH
    rw [if_pos hb, ep, hs']
    unfold takeT
    rw [ho, hk]; rfl
def nK : Nat → Nat := fun s => if s = 0 then 2 else if s = 1 then 1 else 0
def K0 : Hst := newH nK
def K1 : Hst := { T := updT K0.T 4 (some (0, 0)), M := upM K0.M 0 (firstA (K0.M 0) 0 1), C := upC K0.C (0, 0) (3, List.replicate 2 2) }
def K2 : Hst := { T := updT K1.T 5 (some (0, 1)), M := upM K1.M 0 (firstA (K1.M 0) 0 1), C := upC K1.C (0, 1) (4, List.replicate 1 2) }
def K3 : Hst := { T := updT K2.T 6 (some (1, 0)), M := upM K2.M 1 (firstA (K2.M 1) 0 1), C := upC K2.C (1, 0) (2, List.replicate 6 2) }
def K4 : Hst := putH K3 4 1 12
def K5 : Hst := flpH K4
def K6 : Hst := holdH K5 [8]
def K8 : Hst := (scanR K6 1).2
def K9 : Hst := (scanR K8 99).2
def K10 : Hst := flpH K9
theorem i0 : HInv nK K0 := HInv.new nK (fun s hs => by unfold nK; split <;> (try split) <;> omega) (by decide)
theorem k1 : alcI K0 3 2 = 4 ∧ alcH K0 3 2 = K1 := i0.alc_at (s := 0) (k := 4) (i := 0) (Rw := [1]) (by omega) (by omega) (by decide) (by kernel_rfl) (by kernel_rfl) (by omega)
theorem i1 : HInv nK K1 := by rw [← k1.2]; exact i0.alc _ _
theorem k2 : alcI K1 4 1 = 5 ∧ alcH K1 4 1 = K2 := i1.alc_at (s := 0) (k := 5) (i := 1) (Rw := []) (by omega) (by omega) (by decide) (by kernel_rfl) (by kernel_rfl) (by omega)
theorem i2 : HInv nK K2 := by rw [← k2.2]; exact i1.alc _ _
theorem k3 : alcI K2 5 0 = -1 ∧ alcH K2 5 0 = K2 := by
  have hb : alcB K2 5 0 = false := by kernel_rfl
  exact ⟨by unfold alcI; rw [hb]; rfl, by unfold alcH; rw [hb]; rfl⟩
theorem k4 : alcI K2 2 6 = 6 ∧ alcH K2 2 6 = K3 := i2.alc_at (s := 1) (k := 6) (i := 0) (Rw := []) (by omega) (by omega) (by decide) (by kernel_rfl) (by kernel_rfl) (by omega)
theorem i3 : HInv nK K3 := by rw [← k4.2]; exact i2.alc _ _
theorem k5 : putB K3 4 1 12 = true := by kernel_rfl
theorem k6 : flpI K4 = 0 := by kernel_rfl
theorem k7 : flpI K6 = -1 ∧ flpH K6 = K6 := by
  have hd : doneB K6 = false := by kernel_rfl
  exact ⟨by unfold flpI; rw [hd]; rfl, by unfold flpH; rw [hd]; rfl⟩
theorem k8 : (scanR K6 1).1 = 4 := by kernel_rfl
theorem k9 : (scanR K8 99).1 = 8 := by kernel_rfl
theorem k10 : flpI K9 = 1 := by kernel_rfl
theorem k11 : getV K10 4 1 = 12 ∧ getB K10 4 1 = true := ⟨by kernel_rfl, by kernel_rfl⟩
theorem k12 : clsI K10 4 = 3 := by kernel_rfl
theorem k13 : clsI K10 5 = -1 := by kernel_rfl
theorem k14 : fldI K10 6 = 6 := by kernel_rfl
theorem k15 : idsT K10.T = [4, 6] := by kernel_rfl
theorem k16 : doneB K10 = true := by kernel_rfl
theorem k17 : colI K10 5 = -1 := by kernel_rfl
theorem k18 : putB K10 4 2 2 = false ∧ putH K10 4 2 2 = K10 := by
  have hb : putB K10 4 2 2 = false := by kernel_rfl
  exact ⟨hb, by unfold putH; rw [hb]; rfl⟩
theorem k19 : putB K10 4 0 0 = false ∧ putH K10 4 0 0 = K10 := by
  have hb : putB K10 4 0 0 = false := by kernel_rfl
  exact ⟨hb, by unfold putH; rw [hb]; rfl⟩
end Wd
end Go.Proofs.YtdaojohdmidemaaGreat

/- What the laws ask of a memory, whoever keeps it: the chapter's runs. -/
namespace Go.Proofs.YtdaojohdmidemaaGreat
open Go.RowKit Go.Maps
set_option linter.unusedVariables false
namespace Wd
/-- the package's memory, of the call's own -/
structure PH (HA : HAt) (w0 wr : World) (p : Nat) (n : Nat → Nat) (H : Hst) (F : Nat → Prop) : Prop where
  ha : HA wr p n H F
  bel : Below w0.heap.size w0 wr
  fF : ∀ k, F k → w0.heap.size ≤ k
section
variable {HA : HAt} {w0 wr w1 : World} {p : Nat} {n : Nat → Nat} {H H' : Hst} {F F' : Nat → Prop}
theorem PH.keep (K : HeapK HA) (h : PH HA w0 wr p n H F) (g : Below wr.heap.size wr w1) : PH HA w0 w1 p n H F :=
  ⟨K.keep h.ha g.size (fun k hk => g.block k (K.lt h.ha k hk)), h.bel.trans (g.mono h.bel.size), h.fF⟩
theorem PH.step (h : PH HA w0 wr p n H F) (l : Left HA wr w1 p n H' F F') : PH HA w0 w1 p n H' F' := by
  obtain ⟨l1, l2, l3⟩ := l
  refine ⟨l1, below_ch h.bel l2 h.fF, fun k hk => ?_⟩
  rcases l3 k hk with h1 | h1
  · exact h.fF k h1
  · exact Nat.le_trans h.bel.size h1
end
theorem sl_made (w : World) (L : List Int) (C : Array Value) (hC : C.toList = ints L) (hl : L.length ≤ maxLen) : SL (w.alloc (.cells C 3)) 3 (.slice (some ⟨w.heap.size, 0, none⟩) L.length L.length) L := by
  have hs : C.size = L.length := by rw [← Array.length_toList, hC]; simp [ints]
  exact ⟨by simp [ints], Or.inr ⟨w.heap.size, L.length, C, rfl, Nat.zero_le _, heap_alloc_new w _, Nat.le_refl _, hl, by simpa using hs, by rw [hC, Nat.mul_one]; unfold ints; exact List.take_of_length_le (by simp)⟩⟩
set_option maxHeartbeats 16000000 in
set_option maxRecDepth 20000 in
theorem known_c {HA : HAt} (K : HeapK HA) (w : World) :
    Calls Tryz.prog 7 #[] w fun e w' => e = .returned (.bool true) ∧ Below w.heap.size w w' := by
  have KN := Lib.hid (fun (wX : World) => K.new (w := wX) nK 1 (fun s hs => by unfold nK; split <;> (try split) <;> omega) (by decide) (by decide) (by omega) (by omega))
  have KZ := Lib.hid (fun (wX : World) => K.none' (w := wX) 0 (by unfold i64; omega))
  have eN : cfgV nK 1 = .agg #[.int .i64 2, .int .i64 1, .int .i64 0, .int .i64 0, .int .i64 0, .int .i64 1] := rfl
  have eZ : cfgV (fun _ => 0) 0 = .agg #[.int .i64 0, .int .i64 0, .int .i64 0, .int .i64 0, .int .i64 0, .int .i64 0] := rfl
  rw [eN] at KN
  rw [eZ] at KZ
  clear eN eZ
  go_enter Tryz.func7, Tryz.ntmps7
  go_wp2_with fail
  refine (KN.out _).mono ?_
  rintro e w1 ⟨p, F, rfl, hm, hF, hb⟩
  have hs : Hid (PH HA w w1 p nK K0 F) := Lib.hid ⟨hm, hb, hF⟩
  clear hm hF hb KN
  go_wp2_with fail
  refine (KZ.out _).mono ?_
  rintro e w2 ⟨rfl, hb⟩
  replace hs := Lib.hid (hs.out.keep K hb)
  clear hb KZ
  go_wp2_with fail
  have P := K.alloc 3 2 hs.out.ha (by unfold i64; omega) (by unfold i64; omega)
  rw [k1.1, k1.2] at P
  refine P.mono ?_
  clear P
  rintro e y3 ⟨G3, rfl, hL⟩
  replace hs := Lib.hid (hs.out.step hL)
  clear hL
  go_wp2_with fail
  have P := K.alloc 4 1 hs.out.ha (by unfold i64; omega) (by unfold i64; omega)
  rw [k2.1, k2.2] at P
  refine P.mono ?_
  clear P
  rintro e y4 ⟨G4, rfl, hL⟩
  replace hs := Lib.hid (hs.out.step hL)
  clear hL
  go_wp2_with fail
  have P := K.alloc 5 0 hs.out.ha (by unfold i64; omega) (by unfold i64; omega)
  rw [k3.1, k3.2] at P
  refine P.mono ?_
  clear P
  rintro e y5 ⟨G5, rfl, hL⟩
  replace hs := Lib.hid (hs.out.step hL)
  clear hL
  go_wp2_with fail
  have P := K.alloc 2 6 hs.out.ha (by unfold i64; omega) (by unfold i64; omega)
  rw [k4.1, k4.2] at P
  refine P.mono ?_
  clear P
  rintro e y6 ⟨G6, rfl, hL⟩
  replace hs := Lib.hid (hs.out.step hL)
  clear hL
  go_wp2_with fail
  have P := K.put 4 1 12 hs.out.ha (by unfold i64; omega) (by unfold i64; omega) (by omega) (by omega)
  rw [k5, show putH K3 4 1 12 = K4 from rfl] at P
  refine P.mono ?_
  clear P
  rintro e y7 ⟨G7, rfl, hL⟩
  replace hs := Lib.hid (hs.out.step hL)
  clear hL
  go_wp2_with fail
  have P := K.flip hs.out.ha
  rw [k6, show flpH K4 = K5 from rfl] at P
  refine P.mono ?_
  clear P
  rintro e y8 ⟨G8, rfl, hL⟩
  replace hs := Lib.hid (hs.out.step hL)
  clear hL
  have hrow : ∀ wX : World, SW (wX.alloc (.cells #[.int .u32 8] 37)) (.slice (some ⟨wX.heap.size, 0, none⟩) 1 1) [8] := fun wX => sw_made wX [8] _ rfl (by simp [maxLen])
  go_wp2_with fail
  have hlt := K.lt hs.out.ha
  replace hs := Lib.hid (hs.out.keep K ((Below.refl _ _).alloc (Nat.le_refl _) (.cells #[.int .u32 8] 37)))
  have P := K.hold hs.out.ha (hrow _) (by simp) (by simp) (fun g hg hF => by simp [Value.ownBlock] at hg; subst hg; exact Nat.lt_irrefl _ (hlt _ hF))
  rw [show holdH K5 [8] = K6 from rfl] at P
  refine P.mono ?_
  clear P
  rintro e y20 ⟨G20, rfl, hL⟩
  replace hs := Lib.hid (hs.out.step hL)
  clear hL hrow hlt
  go_wp2_with fail
  have P := K.flip hs.out.ha
  rw [k7.1, k7.2] at P
  refine P.mono ?_
  clear P
  rintro e y9 ⟨G9, rfl, hL⟩
  replace hs := Lib.hid (hs.out.step hL)
  clear hL
  go_wp2_with fail
  have P := K.scan 1 hs.out.ha (by unfold i64; omega)
  rw [k8, show (scanR K6 1).2 = K8 from rfl] at P
  refine P.mono ?_
  clear P
  rintro e y10 ⟨G10, rfl, hL⟩
  replace hs := Lib.hid (hs.out.step hL)
  clear hL
  go_wp2_with fail
  have P := K.scan 99 hs.out.ha (by unfold i64; omega)
  rw [k9, show (scanR K8 99).2 = K9 from rfl] at P
  refine P.mono ?_
  clear P
  rintro e y11 ⟨G11, rfl, hL⟩
  replace hs := Lib.hid (hs.out.step hL)
  clear hL
  go_wp2_with fail
  have P := K.flip hs.out.ha
  rw [k10, show flpH K9 = K10 from rfl] at P
  refine P.mono ?_
  clear P
  rintro e y12 ⟨G12, rfl, hL⟩
  replace hs := Lib.hid (hs.out.step hL)
  clear hL
  go_wp2_with fail
  have P := K.get 4 1 hs.out.ha (by unfold i64; omega) (by unfold i64; omega)
  rw [k11.1, k11.2] at P
  refine P.mono ?_
  clear P
  rintro e y13 ⟨G13, rfl, hL⟩
  replace hs := Lib.hid (hs.out.step hL)
  clear hL
  go_wp2_with fail
  have P := K.cls 4 hs.out.ha (by unfold i64; omega)
  rw [k12] at P
  refine P.mono ?_
  clear P
  rintro e y14 ⟨G14, rfl, hL⟩
  replace hs := Lib.hid (hs.out.step hL)
  clear hL
  go_wp2_with fail
  have P := K.cls 5 hs.out.ha (by unfold i64; omega)
  rw [k13] at P
  refine P.mono ?_
  clear P
  rintro e y15 ⟨G15, rfl, hL⟩
  replace hs := Lib.hid (hs.out.step hL)
  clear hL
  go_wp2_with fail
  have P := K.fld 6 hs.out.ha (by unfold i64; omega)
  rw [k14] at P
  refine P.mono ?_
  clear P
  rintro e y16 ⟨G16, rfl, hL⟩
  replace hs := Lib.hid (hs.out.step hL)
  clear hL
  go_wp2_with fail
  refine (K.ids hs.out.ha).mono ?_
  rintro e y40 ⟨u, G40, rfl, hu, hfu, hL⟩
  rw [k15] at hu
  replace hs := Lib.hid (hs.out.step hL)
  clear hL hfu
  have hu2 := SL.keep hu ((Below.refl _ _).alloc (Nat.le_refl _) (.cells #[.int .i64 4, .int .i64 6] 3))
  have S1 := Lib.hid (same_ints [4, 6] [4, 6] u (.slice (some ⟨y40.heap.size, 0, none⟩) 2 2) _ hu2 (sl_made y40 [4, 6] #[.int .i64 4, .int .i64 6] rfl (by simp [maxLen])) (by simp) (by simp))
  replace hs := Lib.hid (hs.out.keep K ((Below.refl _ _).alloc (Nat.le_refl _) (.cells #[.int .i64 4, .int .i64 6] 3)))
  clear hu hu2
  go_wp2_with fail
  refine S1.out.mono ?_
  rintro e y41 ⟨he, q, hw3⟩
  replace he : e = .returned (.bool true) := by rw [he]; simp
  subst he hw3
  replace hs := Lib.hid (hs.out.keep K (drewN_bel _ q))
  clear S1
  go_wp2_with fail
  have P := K.done hs.out.ha
  rw [k16] at P
  refine P.mono ?_
  clear P
  rintro e y17 ⟨G17, rfl, hL⟩
  replace hs := Lib.hid (hs.out.step hL)
  clear hL
  go_wp2_with fail
  refine (K.cost hs.out.ha).mono ?_
  rintro e y42 ⟨a42, G42, rfl, hL⟩
  replace hs := Lib.hid (hs.out.step hL)
  clear hL
  go_wp2_with fail
  have P := K.col 5 hs.out.ha (by unfold i64; omega)
  rw [k17] at P
  refine P.mono ?_
  clear P
  rintro e y18 ⟨G18, rfl, hL⟩
  replace hs := Lib.hid (hs.out.step hL)
  clear hL
  go_wp2_with fail
  have P := K.put 4 2 2 hs.out.ha (by unfold i64; omega) (by unfold i64; omega) (by omega) (by omega)
  rw [k18.1, k18.2] at P
  refine P.mono ?_
  clear P
  rintro e y19 ⟨G19, rfl, hL⟩
  replace hs := Lib.hid (hs.out.step hL)
  clear hL
  go_wp2_with fail
  have P := K.put 4 0 0 hs.out.ha (by unfold i64; omega) (by unfold i64; omega) (by omega) (by omega)
  rw [k19.1, k19.2] at P
  refine P.mono ?_
  clear P
  rintro e y20 ⟨G20, rfl, hL⟩
  replace hs := Lib.hid (hs.out.step hL)
  clear hL
  go_wp2
  go_ret
  exact ⟨rfl, hs.out.bel⟩
end Wd
end Go.Proofs.YtdaojohdmidemaaGreat

/- What two identities lead to, plainly: put, swapped. -/
namespace Go.Proofs.YtdaojohdmidemaaGreat
open Go.RowKit Go.Maps
set_option linter.unusedVariables false
namespace Wd
section
variable {n : Nat → Nat} {H : Hst}
theorem upC_same {C : Pl → Int × List Int} {p : Pl} {x : Int × List Int} : upC C p x p = x := by unfold upC; rw [if_pos rfl]
theorem upC_ne {C : Pl → Int × List Int} {p q : Pl} {x : Int × List Int} (h : q ≠ p) : upC C p x q = C q := by unfold upC; rw [if_neg h]
theorem shI_T {i : Int} : (shI H i).T = H.T := by unfold shI sh; split <;> rfl
theorem shW_T {x : Int} : (shW H x).T = H.T := by unfold shW; split; exact shI_T; rfl
theorem holdH_T {l : List Int} : ∀ {H : Hst}, (holdH H l).T = H.T := by
  unfold holdH
  induction l with
  | nil => intro H; rfl
  | cons x l ih => intro H; rw [List.foldl_cons, ih, shW_T]
theorem swapH_T {a b : Int} : (swapH H a b).T = swapT H.T a b := by
  unfold swapH
  by_cases h : swapB H.T a b = true
  · rw [if_pos h]
    split
    · rw [shI_T, shI_T]; rfl
    · rfl
  · rw [if_neg h]
    unfold swapT
    rw [if_neg h]
theorem swapH_C {a b : Int} : (swapH H a b).C = H.C := by
  unfold swapH
  split
  · split
    · rw [shI_C, shI_C]; rfl
    · rfl
  · rfl
theorem odd_no {x : Int} (h : x % 2 = 1) : isOp x = false := by unfold isOp; simp; omega
theorem shW_odd {x : Int} (h : x % 2 = 1) : shW H x = H := by unfold shW; rw [odd_no h]; rfl
/-- an identity that leads to a cell -/
theorem at_id {k : Nat} {P : Pl} (hk : k < 1024) (h : H.T k = some P) : hasT H.T (k : Int) = true ∧ atP H.T (k : Int) = P ∧ clsI H k = (H.C P).1 ∧ fldI H k = (H.C P).2.length ∧ fsI H k = (H.C P).2 := by
  obtain ⟨h1, h2⟩ := atP_at h hk
  refine ⟨h2, h1, ?_, ?_, ?_⟩
  · unfold clsI; rw [if_pos h2, h1]
  · unfold fldI; rw [if_pos h2, h1]
  · unfold fsI; rw [if_pos h2, h1]
theorem put_odd {k : Nat} {P : Pl} {j : Nat} {x : Int} (hk : k < 1024) (h : H.T k = some P) (hj : j < (H.C P).2.length) (h0 : 0 < x) (hx : x % 2 = 1) :
    putB H k j x = true ∧ putH H k j x = { H with C := upC H.C P ((H.C P).1, (H.C P).2.set j x) } := by
  obtain ⟨a1, a2, a3, a4, a5⟩ := at_id hk h
  have hb : putB H k j x = true := by
    unfold putB
    rw [a5, decide_eq_true ⟨by omega, by omega⟩, decide_eq_true (by omega)]; rfl
  have e : putC H k j x = { H with C := upC H.C P ((H.C P).1, (H.C P).2.set j x) } := by unfold putC; rw [a2, a5]; simp
  refine ⟨hb, ?_⟩
  unfold putH
  rw [if_pos hb, shW_odd hx, e]
  split <;> rfl
/-- the identities 4 and 5 and what they lead to -/
structure TC2 (H : Hst) (P Q : Pl) (a b : Int × List Int) : Prop where
  t4 : H.T 4 = some P
  t5 : H.T 5 = some Q
  ne : P ≠ Q
  cp : H.C P = a
  cq : H.C Q = b
  t9 : H.T 99 = none
variable {P Q : Pl} {a b : Int × List Int}
theorem TC2.put4 (h : TC2 H P Q a b) {x : Int} (hl : 0 < a.2.length) (h0 : 0 < x) (hx : x % 2 = 1) : putB H 4 0 x = true ∧ TC2 (putH H 4 0 x) P Q (a.1, a.2.set 0 x) b := by
  obtain ⟨e1, e2⟩ := put_odd (k := 4) (j := 0) (by omega) h.t4 (by rw [h.cp]; exact hl) h0 hx
  refine ⟨e1, ?_⟩
  have e2' : putH H 4 0 x = { H with C := upC H.C P ((H.C P).1, (H.C P).2.set 0 x) } := e2
  rw [e2']
  exact ⟨h.t4, h.t5, h.ne, by show upC H.C P _ P = _; rw [upC_same, h.cp], by show upC H.C P _ Q = _; rw [upC_ne (fun e => h.ne e.symm)]; exact h.cq, h.t9⟩
theorem TC2.put5 (h : TC2 H P Q a b) {x : Int} (hl : 0 < b.2.length) (h0 : 0 < x) (hx : x % 2 = 1) : putB H 5 0 x = true ∧ TC2 (putH H 5 0 x) P Q a (b.1, b.2.set 0 x) := by
  obtain ⟨e1, e2⟩ := put_odd (k := 5) (j := 0) (by omega) h.t5 (by rw [h.cq]; exact hl) h0 hx
  refine ⟨e1, ?_⟩
  have e2' : putH H 5 0 x = { H with C := upC H.C Q ((H.C Q).1, (H.C Q).2.set 0 x) } := e2
  rw [e2']
  exact ⟨h.t4, h.t5, h.ne, by show upC H.C Q _ P = _; rw [upC_ne h.ne]; exact h.cp, by show upC H.C Q _ Q = _; rw [upC_same, h.cq], h.t9⟩
theorem swapB_at {T : Tst} {x y : Nat} {p q : Pl} (hx : T x = some p) (hy : T y = some q) (h1 : x < 1024) (h2 : y < 1024) : swapB T x y = true := (swapT_at hx hy h1 h2).1
theorem TC2.swap45 (h : TC2 H P Q a b) : swapB H.T 4 5 = true ∧ TC2 (swapH H 4 5) Q P b a := by
  obtain ⟨e1, e2⟩ := swapT_at (x := 4) (y := 5) h.t4 h.t5 (by omega) (by omega)
  have e2' : swapT H.T 4 5 = updT (updT H.T 4 (some Q)) 5 (some P) := e2
  refine ⟨e1, ?_⟩
  refine ⟨?_, ?_, fun e => h.ne e.symm, by rw [swapH_C]; exact h.cq, by rw [swapH_C]; exact h.cp, ?_⟩ <;> rw [swapH_T, e2'] <;> simp [updT, h.t9]
theorem TC2.swap54 (h : TC2 H P Q a b) : swapB H.T 5 4 = true ∧ TC2 (swapH H 5 4) Q P b a := by
  obtain ⟨e1, e2⟩ := swapT_at (x := 5) (y := 4) h.t5 h.t4 (by omega) (by omega)
  have e2' : swapT H.T 5 4 = updT (updT H.T 5 (some P)) 4 (some Q) := e2
  refine ⟨e1, ?_⟩
  refine ⟨?_, ?_, fun e => h.ne e.symm, by rw [swapH_C]; exact h.cq, by rw [swapH_C]; exact h.cp, ?_⟩ <;> rw [swapH_T, e2'] <;> simp [updT, h.t9]
theorem TC2.swap44 (h : TC2 H P Q a b) : swapB H.T 4 4 = true ∧ TC2 (swapH H 4 4) P Q a b := by
  obtain ⟨e1, e2⟩ := swapT_at (x := 4) (y := 4) h.t4 h.t4 (by omega) (by omega)
  have e2' : swapT H.T 4 4 = updT (updT H.T 4 (some P)) 4 (some P) := e2
  refine ⟨e1, ?_⟩
  refine ⟨?_, ?_, h.ne, by rw [swapH_C]; exact h.cp, by rw [swapH_C]; exact h.cq, ?_⟩ <;> rw [swapH_T, e2'] <;> simp [updT, h.t9, h.t5]
theorem TC2.swap9 (h : TC2 H P Q a b) : swapB H.T 4 99 = false ∧ swapH H 4 99 = H := by
  have h9 : hasT H.T 99 = false := by
    have : hasT H.T ((99 : Nat) : Int) = false := by rw [hasT_in (by omega)]; unfold inR; rw [h.t9]; rfl
    exact this
  have e : swapB H.T 4 99 = false := by unfold swapB; rw [h9]; simp
  exact ⟨e, by unfold swapH; rw [e]; rfl⟩
theorem TC2.v4 (h : TC2 H P Q a b) : clsI H 4 = a.1 ∧ fldI H 4 = a.2.length ∧ fsI H 4 = a.2 := by
  obtain ⟨_, _, e3, e4, e5⟩ := at_id (k := 4) (by omega) h.t4
  rw [h.cp] at e3 e4 e5
  exact ⟨e3, e4, e5⟩
theorem TC2.v5 (h : TC2 H P Q a b) : clsI H 5 = b.1 ∧ fldI H 5 = b.2.length ∧ fsI H 5 = b.2 := by
  obtain ⟨_, _, e3, e4, e5⟩ := at_id (k := 5) (by omega) h.t5
  rw [h.cq] at e3 e4 e5
  exact ⟨e3, e4, e5⟩
theorem get_0 {i : Int} {y : Int} {t : List Int} (h : fsI H i = y :: t) : getV H i 0 = y ∧ getB H i 0 = true := by
  unfold getV getB
  rw [h]
  simp
end
def nS : Nat → Nat := fun s => if s < 5 then 4 else 0
theorem row_of (m s : Nat) : (newH (fun _ => m)).M s 0 = rng m := by
  show startA _ 0 = _
  unfold startA upA
  rw [if_pos rfl]
theorem fo_pos {x : Int} (h0 : 0 ≤ x) (h1 : x ≤ 62) : ∃ s : Nat, s < 5 ∧ fo x = s := by
  rcases fo_cases x with ⟨h, e⟩ | ⟨h1, h2, e⟩ | ⟨h1, h2, e⟩ | ⟨h1, h2, e⟩ | ⟨h1, h2, e⟩ | ⟨h1, h2, e⟩
  · omega
  · exact ⟨0, by omega, e⟩
  · exact ⟨1, by omega, e⟩
  · exact ⟨2, by omega, e⟩
  · exact ⟨3, by omega, e⟩
  · exact ⟨4, by omega, e⟩
theorem free5 (p : Pl) : freeR (updT noT 4 (some p)) = some 5 := by
  unfold freeR
  refine firstIn_hit (by omega) (by omega) (fun j h1 h2 => ?_) ?_
  · have : j = 4 := by omega
    subst this
    simp [updT]
  · simp [updT, noT]
/-- two objects in a memory of four cells of each size -/
theorem two_made {n : Nat → Nat} (hi : HInv n (newH n)) (hn : ∀ s, s < 5 → n s = 4) {x y : Nat} (hx1 : x ≤ 62) (hy1 : y ≤ 62) :
    alcI (newH n) 7 x = 4 ∧ alcI (alcH (newH n) 7 x) 8 y = 5 ∧ ∃ P Q, TC2 (alcH (alcH (newH n) 7 x) 8 y) P Q (7, List.replicate x 2) (8, List.replicate y 2) := by
  obtain ⟨s, hs, es⟩ := fo_pos (x := (x : Int)) (by omega) (by omega)
  obtain ⟨t, ht, et⟩ := fo_pos (x := (y : Int)) (by omega) (by omega)
  have r0 : ∀ s, s < 5 → (newH n).M s 0 = [0, 1, 2, 3] := fun s hs => by
    show startA (n s) 0 = _
    rw [hn s hs]; rfl
  obtain ⟨a1, a2⟩ := hi.alc_at (cl := 7) (f := (x : Int)) (s := s) (k := 4) (i := 0) (Rw := [1, 2, 3]) (by omega) (by omega) es (r0 s hs) (by kernel_rfl) hs
  have i1 := hi.alc 7 x
  have fr : freeR (alcH (newH n) 7 x).T = some 5 := by rw [a2]; exact free5 _
  by_cases e : t = s
  · have r1 : (alcH (newH n) 7 x).M t 0 = [1, 2, 3] := by
      rw [a2]
      show upM _ s _ t 0 = _
      unfold upM
      rw [if_pos e]
      unfold firstA
      rw [r0 s hs]; rfl
    obtain ⟨b1, b2⟩ := i1.alc_at (cl := 8) (f := (y : Int)) (s := t) (k := 5) (i := 1) (Rw := [2, 3]) (by omega) (by omega) et r1 fr ht
    refine ⟨a1, b1, ((s : Int), 0), ((t : Int), 1), ?_⟩
    rw [b2, a2]
    refine ⟨?_, ?_, ?_, ?_, ?_, ?_⟩
    · simp [updT]
    · simp [updT]
    · intro h; have := congrArg Prod.snd h; simp at this
    · show upC (upC (newH n).C ((s : Int), 0) (7, List.replicate (x : Int).toNat 2)) ((t : Int), 1) (8, List.replicate (y : Int).toNat 2) ((s : Int), 0) = _
      rw [upC_ne (by intro h; have := congrArg Prod.snd h; simp at this), upC_same]; simp
    · show upC (upC (newH n).C ((s : Int), 0) (7, List.replicate (x : Int).toNat 2)) ((t : Int), 1) (8, List.replicate (y : Int).toNat 2) ((t : Int), 1) = _
      rw [upC_same]; simp
    · simp [updT, newH, noT]
  · have r1 : (alcH (newH n) 7 x).M t 0 = [0, 1, 2, 3] := by
      rw [a2]
      show upM _ s _ t 0 = _
      unfold upM
      rw [if_neg e]
      exact r0 t ht
    obtain ⟨b1, b2⟩ := i1.alc_at (cl := 8) (f := (y : Int)) (s := t) (k := 5) (i := 0) (Rw := [1, 2, 3]) (by omega) (by omega) et r1 fr ht
    have hne : ((s : Int), (0 : Int)) ≠ ((t : Int), (0 : Int)) := by intro h; have := congrArg Prod.fst h; simp at this; omega
    refine ⟨a1, b1, ((s : Int), 0), ((t : Int), 0), ?_⟩
    rw [b2, a2]
    refine ⟨?_, ?_, hne, ?_, ?_, ?_⟩
    · simp [updT]
    · simp [updT]
    · show upC (upC (newH n).C ((s : Int), 0) (7, List.replicate (x : Int).toNat 2)) ((t : Int), 0) (8, List.replicate (y : Int).toNat 2) ((s : Int), 0) = _
      rw [upC_ne hne, upC_same]; simp
    · show upC (upC (newH n).C ((s : Int), 0) (7, List.replicate (x : Int).toNat 2)) ((t : Int), 0) (8, List.replicate (y : Int).toNat 2) ((t : Int), 0) = _
      rw [upC_same]; simp
    · simp [updT, newH, noT]
theorem wor_odd {a : Int} (h0 : 0 ≤ a) (h1 : a ≤ 4294967295) : 0 < bits .or .u32 a 1 ∧ bits .or .u32 a 1 ≤ 4294967295 ∧ bits .or .u32 a 1 % 2 = 1 := by
  have e := u32_or a 1 h0 (by omega) (by decide) (by decide)
  have hb : (a.toNat ||| 1) < 2 ^ 32 := Nat.or_lt_two_pow (by omega) (by decide)
  have ho : (a.toNat ||| 1) % 2 = 1 := by
    rw [Nat.mod_two_eq_one_iff_testBit_zero]
    simp
  rw [e, show (1 : Int).toNat = 1 from rfl]
  omega
end Wd
end Go.Proofs.YtdaojohdmidemaaGreat

/- What is forgotten, plainly. -/
namespace Go.Proofs.YtdaojohdmidemaaGreat
open Go.RowKit Go.Maps
set_option linter.unusedVariables false
namespace Wd
/-- j cells of size s are Black, all others Free -/
structure FS (n : Nat → Nat) (H : Hst) (s j : Nat) : Prop where
  inv : HInv n H
  b1 : (H.M s 1).length = j
  o1 : ∀ t, t < 5 → t ≠ s → H.M t 1 = []
  e2 : ∀ t, t < 5 → H.M t 2 = []
  e3 : ∀ t, t < 5 → H.M t 3 = []
/-- j cells of size s are Ecru, all others Free -/
structure FS3 (n : Nat → Nat) (H : Hst) (s j : Nat) : Prop where
  inv : HInv n H
  b3 : (H.M s 3).length = j
  o3 : ∀ t, t < 5 → t ≠ s → H.M t 3 = []
  e1 : ∀ t, t < 5 → H.M t 1 = []
  e2 : ∀ t, t < 5 → H.M t 2 = []
section
variable {n : Nat → Nat} {H : Hst} {s j : Nat}
theorem FS.done (h : FS n H s j) : doneB H = true := by
  unfold doneB
  rw [all_step]
  intro t ht
  rw [h.e2 t ht]; rfl
theorem FS3.done (h : FS3 n H s j) : doneB H = true := by
  unfold doneB
  rw [all_step]
  intro t ht
  rw [h.e2 t ht]; rfl
theorem FS.alloc (h : FS n H s j) (hs : s < 5) (hn : n s = 16) (hj : j < 16) {cl f : Int} (c0 : 0 ≤ cl) (c1 : cl ≤ 4095) (hf : fo f = s) : 0 ≤ alcI H cl f ∧ FS n (alcH H cl f) s (j + 1) := by
  have hl := good_len (h.inv.good s hs)
  rw [h.b1, h.e2 s hs, h.e3 s hs, hn] at hl
  simp only [List.length_nil] at hl
  cases hR : H.M s 0 with
  | nil => rw [hR] at hl; simp at hl; omega
  | cons i R =>
    have hs' : (fo f).toNat = s := by omega
    have hb : alcB H cl f = true := by
      unfold alcB
      rw [hs', hR, decide_eq_true ⟨c0, c1⟩, decide_eq_true (show 0 ≤ fo f by omega)]
      rfl
    obtain ⟨s2, k, i2, R2, a1, a2, a3, a4, a5, a6, a7, a8, a9, a10, a11, a12⟩ := h.inv.alc_of hb
    have es : s2 = s := by omega
    subst es
    refine ⟨by omega, h.inv.alc cl f, ?_, fun t ht hts => ?_, fun t ht => ?_, fun t ht => ?_⟩ <;> rw [a12]
    · show (upM H.M s2 _ s2 1).length = _
      unfold upM
      rw [if_pos rfl]
      unfold firstA
      rw [a6]
      simp [upA, h.b1]
    · show upM H.M s2 _ t 1 = _
      unfold upM
      rw [if_neg hts]
      exact h.o1 t ht hts
    · show upM H.M s2 _ t 2 = _
      unfold upM
      split
      · rename_i e; subst e
        unfold firstA
        rw [a6]
        simp [upA, h.e2 t ht]
      · exact h.e2 t ht
    · show upM H.M s2 _ t 3 = _
      unfold upM
      split
      · rename_i e; subst e
        unfold firstA
        rw [a6]
        simp [upA, h.e3 t ht]
      · exact h.e3 t ht
theorem flipL_nil {H : Hst} (h : ∀ t, t < 5 → H.M t 3 = []) : ∀ k, k ≤ 5 → flipL H k = [] := by
  intro k hk
  induction k with
  | zero => rfl
  | succ k ih =>
    rw [flipL_succ, ih (by omega)]
    unfold flipS flipR
    rw [h k (by omega)]
    split <;> rfl
theorem FS.flip (h : FS n H s j) (hs : s < 5) : flpI H = 0 ∧ FS3 n (flpH H) s j := by
  have hd := h.done
  refine ⟨?_, h.inv.flp, ?_, fun t ht hts => ?_, fun t ht => ?_, fun t ht => ?_⟩
  · unfold flpI flpX
    rw [if_pos hd, flipL_nil h.e3 5 (by omega)]; rfl
  · rw [flpH_M hd hs]; simp [upA, h.b1]
  · rw [flpH_M hd ht]; simp [upA, h.o1 t ht hts]
  · rw [flpH_M hd ht]; simp [upA]
  · rw [flpH_M hd ht]; simp [upA, h.e2 t ht]
theorem flipL_one {H : Hst} {s : Nat} (hs : s < 5) (hd : doneB H = true) (h : ∀ t, t < 5 → t ≠ s → H.M t 3 = []) : flipL H 5 = (H.M s 3).map (fun c => ((s : Int), c)) := by
  have hS : ∀ t, t < 5 → flipS H t = (H.M t 3).map (fun c => ((t : Int), c)) := fun t ht => by
    unfold flipS flipR
    rw [if_pos (done_of hd t ht)]
  have e : flipL H 5 = flipS H 0 ++ (flipS H 1 ++ (flipS H 2 ++ (flipS H 3 ++ flipS H 4))) := by
    rw [flipL_succ, flipL_succ, flipL_succ, flipL_succ, flipL_succ]
    simp [flipL]
  rw [e, hS 0 (by omega), hS 1 (by omega), hS 2 (by omega), hS 3 (by omega), hS 4 (by omega)]
  rcases (show s = 0 ∨ s = 1 ∨ s = 2 ∨ s = 3 ∨ s = 4 by omega) with rfl | rfl | rfl | rfl | rfl
  · rw [h 1 (by omega) (by omega), h 2 (by omega) (by omega), h 3 (by omega) (by omega), h 4 (by omega) (by omega)]; simp
  · rw [h 0 (by omega) (by omega), h 2 (by omega) (by omega), h 3 (by omega) (by omega), h 4 (by omega) (by omega)]; simp
  · rw [h 0 (by omega) (by omega), h 1 (by omega) (by omega), h 3 (by omega) (by omega), h 4 (by omega) (by omega)]; simp
  · rw [h 0 (by omega) (by omega), h 1 (by omega) (by omega), h 2 (by omega) (by omega), h 4 (by omega) (by omega)]; simp
  · rw [h 0 (by omega) (by omega), h 1 (by omega) (by omega), h 2 (by omega) (by omega), h 3 (by omega) (by omega)]; simp
theorem ids_none {T : Tst} (h : ∀ k, T k = none) : idsT T = [] := by
  unfold idsT
  rw [List.filter_eq_nil_iff.2 (fun k _ => by rw [h k]; simp)]
  rfl
theorem FS3.flip (h : FS3 n H s j) (hs : s < 5) : flpI H = j ∧ FS n (flpH H) s 0 ∧ idsT (flpH H).T = [] := by
  have hd := h.done
  have hi := h.inv.flp
  have r1 : ∀ t, t < 5 → (flpH H).M t 1 = [] := fun t ht => by rw [flpH_M hd ht]; simp [upA]
  have r2 : ∀ t, t < 5 → (flpH H).M t 2 = [] := fun t ht => by rw [flpH_M hd ht]; simp [upA, h.e2 t ht]
  have r3 : ∀ t, t < 5 → (flpH H).M t 3 = [] := fun t ht => by rw [flpH_M hd ht]; simp [upA, h.e1 t ht]
  refine ⟨?_, ⟨hi, by rw [r1 s hs]; rfl, fun t ht _ => r1 t ht, r2, r3⟩, ids_none fun k => ?_⟩
  · unfold flpI flpX
    rw [if_pos hd, flipL_one hs hd h.o3]
    have hn3 := nd3 (h.inv.good s hs)
    rw [fold_count h.inv.inv 0 (nodup_map_on _ hn3 (fun a _ b _ e => by have := congrArg Prod.snd e; exact this)) (fun p hp => ?_)]
    · simp [h.b3]
    · obtain ⟨c, hc, rfl⟩ := List.mem_map.1 hp
      have hin := (good_mem (h.inv.good s hs)).1 (show c ∈ LL (H.M s) by unfold LL; simp [hc])
      exact h.inv.full s c hs hin.1 hin.2 (fun h0 => by have := good_apart (h.inv.good s hs) (x := 0) (y := 3) (by omega) (by omega) h0 hc; omega)
  · cases hT : (flpH H).T k with
    | none => rfl
    | some p =>
      exfalso
      obtain ⟨t, t1, t2, t3, t4, t5⟩ := hi.pl k p hT
      have hm := (good_mem (hi.good t t1)).2 ⟨t3, t4⟩
      unfold LL at hm
      rw [r1 t t1, r2 t t1, r3 t t1] at hm
      simp at hm
      exact t5 hm
end
end Wd
end Go.Proofs.YtdaojohdmidemaaGreat

/- One object that is held, plainly: what is put is there, whatever is made, put, swapped back, scanned, given back. -/
namespace Go.Proofs.YtdaojohdmidemaaGreat
open Go.RowKit Go.Maps
set_option linter.unusedVariables false
namespace Wd
/-- the identity 4 leads to P, of the class 5, its fields are L -/
structure Q4 (n : Nat → Nat) (H : Hst) (P : Pl) (L : List Int) : Prop where
  inv : HInv n H
  t : H.T 4 = some P
  c : H.C P = (5, L)
section
variable {n : Nat → Nat} {H : Hst} {P : Pl} {L : List Int}
theorem Q4.put (h : Q4 n H P L) {j : Nat} {x : Int} (hj : j < L.length) (h0 : 0 < x) (h1 : x ≤ 4294967295) (hx : x % 2 = 1) : putB H 4 j x = true ∧ Q4 n (putH H 4 j x) P (L.set j x) := by
  obtain ⟨e1, e2⟩ := put_odd (k := 4) (j := j) (x := x) (by omega) h.t (by rw [h.c]; exact hj) h0 hx
  have e2' : putH H 4 j x = { H with C := upC H.C P ((H.C P).1, (H.C P).2.set j x) } := e2
  refine ⟨e1, h.inv.put 4 j x (by omega), ?_, ?_⟩
  · rw [e2']; exact h.t
  · rw [e2']
    show upC H.C P _ P = _
    rw [upC_same, h.c]
theorem Q4.alloc (h : Q4 n H P L) (cl f : Int) : Q4 n (alcH H cl f) P L ∧ (alcI H cl f = -1 ∨ ∃ k : Nat, alcI H cl f = k ∧ 4 ≤ k ∧ k < 1024 ∧ k ≠ 4 ∧ ∃ Q, (alcH H cl f).T k = some Q) := by
  cases hb : alcB H cl f with
  | false =>
    have e1 : alcI H cl f = -1 := by unfold alcI; rw [hb]; rfl
    have e2 : alcH H cl f = H := by unfold alcH; rw [hb]; rfl
    rw [e1, e2]
    exact ⟨h, Or.inl rfl⟩
  | true =>
    obtain ⟨s, k, i, R, a1, a2, a3, a4, a5, a6, a7, a8, a9, a10, a11, a12⟩ := h.inv.alc_of hb
    have hk4 : k ≠ 4 := fun e => by subst e; rw [h.t] at a9; cases a9
    have hP : P ≠ ((s : Int), i) := fun e => by
      have hm := h.inv.miss (s := s) (i := i) a1 (by rw [a6]; simp)
      have := ofR_none h.inv.inv hm 4
      rw [h.t, e] at this
      exact this rfl
    refine ⟨⟨h.inv.alc cl f, ?_, ?_⟩, Or.inr ⟨k, a11, a7, a8, hk4, ((s : Int), i), ?_⟩⟩ <;> rw [a12]
    · show updT H.T k _ 4 = _
      unfold updT
      rw [if_neg (fun e => hk4 e.symm)]
      exact h.t
    · show upC H.C _ _ P = _
      rw [upC_ne hP]
      exact h.c
    · show updT H.T k _ k = _
      exact updT_self _
theorem Q4.swaps (h : Q4 n H P L) {k : Nat} (hk : k < 1024) (hk4 : k ≠ 4) {Q : Pl} (hQ : H.T k = some Q) : swapB H.T 4 k = true ∧ swapB (swapH H 4 k).T k 4 = true ∧ Q4 n (swapH (swapH H 4 k) k 4) P L := by
  obtain ⟨e1, e2⟩ := swapT_at (x := 4) (y := k) h.t hQ (by omega) hk
  have e2' : swapT H.T 4 k = updT (updT H.T 4 (some Q)) k (some P) := e2
  have t1 : (swapH H 4 k).T k = some P := by rw [swapH_T, e2']; simp [updT]
  have t2 : (swapH H 4 k).T 4 = some Q := by rw [swapH_T, e2']; simp only [updT]; rw [if_neg (fun e => hk4 e.symm)]; simp
  obtain ⟨e3, e4⟩ := swapT_at (x := k) (y := 4) t1 t2 hk (by omega)
  have e4' : swapT (swapH H 4 k).T k 4 = updT (updT (swapH H 4 k).T k (some Q)) 4 (some P) := e4
  refine ⟨e1, e3, (h.inv.swap 4 k).swap k 4, ?_, ?_⟩
  · rw [swapH_T, e4']; simp [updT]
  · rw [swapH_C, swapH_C]; exact h.c
theorem Q4.hold (h : Q4 n H P L) (l : List Int) : Q4 n (holdH H l) P L := ⟨h.inv.hold l, by rw [holdH_T]; exact h.t, by rw [holdH_C]; exact h.c⟩
theorem scanN_TC : ∀ (k : Nat) (w d : Int) (H : Hst), (scanN k w d H).2.T = H.T ∧ (scanN k w d H).2.C = H.C
  | 0, _, _, _ => ⟨rfl, rfl⟩
  | k + 1, w, d, H => by
    unfold scanN
    split
    · split
      · rename_i s _
        obtain ⟨h1, h2⟩ := scanN_TC k w (d + wd s) (scan1 H s)
        rw [h1, h2]
        unfold scan1
        rw [holdH_T, holdH_C]
        exact ⟨rfl, rfl⟩
      · exact ⟨rfl, rfl⟩
    · exact ⟨rfl, rfl⟩
theorem HInv.scanR (h : HInv n H) (x : Int) : HInv n (scanR H x).2 := HInv.scanN _ _ _ h
theorem Q4.scan (h : Q4 n H P L) (x : Int) : Q4 n (scanR H x).2 P L := by
  obtain ⟨h1, h2⟩ := scanN_TC 262145 (clampW x) 0 H
  exact ⟨h.inv.scanR x, by show (scanN _ _ _ _).2.T 4 = _; rw [h1]; exact h.t, by show (scanN _ _ _ _).2.C P = _; rw [h2]; exact h.c⟩
/-- what is shaded is not Ecru -/
theorem shade_not {A : Mst} (i : Int) : colorR (shadeA A i) i ≠ 3 := by
  unfold shadeA
  split
  · intro h
    have h2 : i ∈ upA (upA A 3 ((A 3).filter (· ≠ i))) 2 (A 2 ++ [i]) 2 := by simp [upA]
    unfold colorR at h
    by_cases m0 : i ∈ upA (upA A 3 ((A 3).filter (· ≠ i))) 2 (A 2 ++ [i]) 0
    · rw [if_pos m0] at h; omega
    · rw [if_neg m0] at h
      by_cases m1 : i ∈ upA (upA A 3 ((A 3).filter (· ≠ i))) 2 (A 2 ++ [i]) 1
      · rw [if_pos m1] at h; omega
      · rw [if_neg m1, if_pos h2] at h; omega
  · rename_i h
    exact h
theorem HInv.held (h : HInv n H) {k : Nat} {p : Pl} (hk : k < 1024) (ht : H.T k = some p) : colI (Wd.shI H k) k ≠ 3 := by
  obtain ⟨h1, h2⟩ := atP_at ht hk
  have e : Wd.shI H k = Wd.sh H p := by unfold Wd.shI; rw [if_pos h2, h1]
  rw [e]
  have hT : (Wd.sh H p).T = H.T := rfl
  unfold colI
  rw [hT, if_pos h2, h1]
  unfold colP
  show colorR (upM H.M (szP p) _ (szP p)) p.2 ≠ 3
  unfold upM
  rw [if_pos rfl]
  exact shade_not _
theorem Q4.held (h : Q4 n H P L) : colI (holdH H [8]) 4 ≠ 3 := by
  have e : holdH H [8] = shI H ((4 : Nat) : Int) := rfl
  rw [e]
  exact h.inv.held (by omega) h.t
/-- what is not Ecru stays -/
theorem HInv.stays (h : HInv n H) (hd : doneB H = true) {k : Nat} {p : Pl} (hk : k < 1024) (ht : H.T k = some p) (hc : colI H k ≠ 3) : (flpH H).T k = some p := by
  rw [h.flp_at hd k, if_neg]
  · exact ht
  · rintro ⟨s, hs, c, hc3, e⟩
    apply hc
    rw [ht] at e
    have e2 := Option.some.inj e
    obtain ⟨h1, h2⟩ := atP_at ht hk
    unfold colI
    rw [if_pos h2, h1, e2]
    unfold colP szP
    show colorR (H.M (((s : Int)).toNat)) c = 3
    rw [show ((s : Int)).toNat = s by simp]
    exact good_color (h.good s hs) (x := 3) (by omega) hc3
theorem Q4.flip (h : Q4 n H P L) (hd : doneB H = true) (hc : colI H 4 ≠ 3) : Q4 n (flpH H) P L :=
  ⟨h.inv.flp, h.inv.stays hd (k := 4) (by omega) h.t hc, by rw [flpH_C]; exact h.c⟩
theorem Q4.val (h : Q4 n H P L) {j : Nat} (hj : j < L.length) : getV H 4 j = L.getD j 0 ∧ getB H 4 j = true := by
  obtain ⟨_, _, _, _, e5⟩ := at_id (k := 4) (by omega) h.t
  have e5' : fsI H 4 = L := by rw [h.c] at e5; exact e5
  unfold getV getB
  rw [e5', if_pos ⟨by omega, by omega⟩, decide_eq_true ⟨by omega, by omega⟩]
  simp
theorem Q4.cf (h : Q4 n H P L) : clsI H 4 = 5 ∧ fldI H 4 = L.length := by
  obtain ⟨_, _, e3, e4, _⟩ := at_id (k := 4) (by omega) h.t
  rw [h.c] at e3 e4
  exact ⟨e3, e4⟩
def nI : Nat → Nat := fun s => if s = 0 then 20 else if s = 1 then 20 else if s = 2 then 10 else if s = 3 then 4 else if s = 4 then 2 else 0
theorem nI_inv : HInv nI (newH nI) := HInv.new nI (fun s hs => by rcases (show s = 0 ∨ s = 1 ∨ s = 2 ∨ s = 3 ∨ s = 4 by omega) with rfl | rfl | rfl | rfl | rfl <;> decide) (by decide)
theorem q4_start : alcI (newH nI) 5 4 = 4 ∧ Q4 nI (alcH (newH nI) 5 4) (1, 0) [2, 2, 2, 2] := by
  obtain ⟨a1, a2⟩ := nI_inv.alc_at (cl := 5) (f := 4) (s := 1) (k := 4) (i := 0) (Rw := (rng 20).tail) (by omega) (by omega) (by decide) (by kernel_rfl) (by kernel_rfl) (by omega)
  refine ⟨a1, nI_inv.alc 5 4, ?_, ?_⟩
  · rw [a2]; simp [updT]
  · rw [a2]
    show upC (newH nI).C ((1 : Int), 0) (5, List.replicate (4 : Int).toNat 2) ((1 : Int), 0) = _
    rw [upC_same]
    rfl
end
end Wd
end Go.Proofs.YtdaojohdmidemaaGreat

/- What the laws ask of a memory, whoever keeps it: HeapFields. -/
namespace Go.Proofs.YtdaojohdmidemaaGreat
open Go.RowKit Go.Maps
set_option linter.unusedVariables false
namespace Wd
theorem msk3 (n : Int) : bits .and .i64 n 3 = n % 4 := by
  have h127 : (BitVec.ofInt 64 3).toNat = 2 ^ 2 - 1 := by decide
  have key : (BitVec.ofInt 64 n &&& BitVec.ofInt 64 3).toNat = (n % ((2 ^ 64 : Nat) : Int)).toNat % 2 ^ 2 := by
    rw [BitVec.toNat_and, BitVec.toNat_ofInt, h127, Nat.and_two_pow_sub_one_eq_mod]
  show IntKind.i64.wrap ((BitVec.ofInt 64 n &&& BitVec.ofInt 64 3).toNat : Nat) = n % 4
  rw [key, IntKind.wrap_i64]
  omega
theorem msk7 (n : Int) : bits .and .i64 n 7 = n % 8 := by
  have h127 : (BitVec.ofInt 64 7).toNat = 2 ^ 3 - 1 := by decide
  have key : (BitVec.ofInt 64 n &&& BitVec.ofInt 64 7).toNat = (n % ((2 ^ 64 : Nat) : Int)).toNat % 2 ^ 3 := by
    rw [BitVec.toNat_and, BitVec.toNat_ofInt, h127, Nat.and_two_pow_sub_one_eq_mod]
  show IntKind.i64.wrap ((BitVec.ofInt 64 n &&& BitVec.ofInt 64 7).toNat : Nat) = n % 8
  rw [key, IntKind.wrap_i64]
  omega
theorem msk15 (n : Int) : bits .and .i64 n 15 = n % 16 := by
  have h127 : (BitVec.ofInt 64 15).toNat = 2 ^ 4 - 1 := by decide
  have key : (BitVec.ofInt 64 n &&& BitVec.ofInt 64 15).toNat = (n % ((2 ^ 64 : Nat) : Int)).toNat % 2 ^ 4 := by
    rw [BitVec.toNat_and, BitVec.toNat_ofInt, h127, Nat.and_two_pow_sub_one_eq_mod]
  show IntKind.i64.wrap ((BitVec.ofInt 64 n &&& BitVec.ofInt 64 15).toNat : Nat) = n % 16
  rw [key, IntKind.wrap_i64]
  omega
theorem msk63 (n : Int) : bits .and .i64 n 63 = n % 64 := by
  have h127 : (BitVec.ofInt 64 63).toNat = 2 ^ 6 - 1 := by decide
  have key : (BitVec.ofInt 64 n &&& BitVec.ofInt 64 63).toNat = (n % ((2 ^ 64 : Nat) : Int)).toNat % 2 ^ 6 := by
    rw [BitVec.toNat_and, BitVec.toNat_ofInt, h127, Nat.and_two_pow_sub_one_eq_mod]
  show IntKind.i64.wrap ((BitVec.ofInt 64 n &&& BitVec.ofInt 64 63).toNat : Nat) = n % 64
  rw [key, IntKind.wrap_i64]
  omega
theorem msk127 (n : Int) : bits .and .i64 n 127 = n % 128 := by
  have h127 : (BitVec.ofInt 64 127).toNat = 2 ^ 7 - 1 := by decide
  have key : (BitVec.ofInt 64 n &&& BitVec.ofInt 64 127).toNat = (n % ((2 ^ 64 : Nat) : Int)).toNat % 2 ^ 7 := by
    rw [BitVec.toNat_and, BitVec.toNat_ofInt, h127, Nat.and_two_pow_sub_one_eq_mod]
  show IntKind.i64.wrap ((BitVec.ofInt 64 n &&& BitVec.ofInt 64 127).toNat : Nat) = n % 128
  rw [key, IntKind.wrap_i64]
  omega
theorem msk1023 (n : Int) : bits .and .i64 n 1023 = n % 1024 := by
  have h127 : (BitVec.ofInt 64 1023).toNat = 2 ^ 10 - 1 := by decide
  have key : (BitVec.ofInt 64 n &&& BitVec.ofInt 64 1023).toNat = (n % ((2 ^ 64 : Nat) : Int)).toNat % 2 ^ 10 := by
    rw [BitVec.toNat_and, BitVec.toNat_ofInt, h127, Nat.and_two_pow_sub_one_eq_mod]
  show IntKind.i64.wrap ((BitVec.ofInt 64 n &&& BitVec.ofInt 64 1023).toNat : Nat) = n % 1024
  rw [key, IntKind.wrap_i64]
  omega
/-- one object in the package's memory, of the call's own; what it should hold, in the box at bw -/
structure FI (HA : HAt) (w0 wr : World) (p bw : Nat) (H : Hst) (F : Nat → Prop) (L1 L2 : List Int) : Prop where
  ph : PH HA w0 wr p nI H F
  q : Q4 nI H (1, 0) L1
  bc : ∀ k, k < 4 → wr.cell? ⟨bw, k, none⟩ = some (.int .u32 (L2.getD k 0))
  bz : ∀ k, wr.frozen? ⟨bw, k, none⟩ = false
  nb : ¬ F bw
  nw : w0.heap.size ≤ bw
  l1 : L1.length = 4
  l2 : L2.length = 4
section
variable {HA : HAt} {w0 wr w1 : World} {p bw : Nat} {H H' : Hst} {F F' : Nat → Prop} {L1 L2 L3 : List Int}
theorem FI.blt (h : FI HA w0 wr p bw H F L1 L2) : bw < wr.heap.size := World.block_lt_of_cell? wr _ (h.bc 0 (by omega))
theorem FI.keep (K : HeapK HA) (h : FI HA w0 wr p bw H F L1 L2) (g : Below wr.heap.size wr w1) : FI HA w0 w1 p bw H F L1 L2 :=
  ⟨h.ph.keep K g, h.q, fun k hk => (g.cell (by exact h.blt)).trans (h.bc k hk), fun k => (g.frozen (by exact h.blt)).trans (h.bz k), h.nb, h.nw, h.l1, h.l2⟩
theorem FI.step (h : FI HA w0 wr p bw H F L1 L2) (l : Left HA wr w1 p nI H' F F') (q : Q4 nI H' (1, 0) L3) (hl : L3.length = 4) : FI HA w0 w1 p bw H' F' L3 L2 := by
  have hb := h.blt
  have e := l.2.1.block bw hb h.nb
  refine ⟨h.ph.step l, q, fun k hk => (World.cell?_of_block (a := ⟨bw, k, none⟩) e).trans (h.bc k hk), fun k => (World.frozen?_of_block (a := ⟨bw, k, none⟩) e).trans (h.bz k), fun hF => ?_, h.nw, hl, h.l2⟩
  rcases l.2.2 bw hF with h1 | h1
  · exact h.nb h1
  · omega
theorem FI.store (K : HeapK HA) (h : FI HA w0 wr p bw H F L1 L2) {k : Nat} (hk : k < 4) (v : Int) : FI HA w0 (wr.setCell ⟨bw, k, none⟩ (.int .u32 v)) p bw H F L1 (L2.set k v) := by
  have hb := h.blt
  refine ⟨⟨K.keep h.ph.ha (by rw [World.size_setCell]; exact Nat.le_refl _) (fun g hg => Below.heap_setCell _ _ _ _ (fun e => h.nb (by rw [← show g = bw from e]; exact hg))), below_set h.ph.bel h.nw _, h.ph.fF⟩, h.q, fun j hj => ?_, fun j => by rw [World.frozen?_setCell]; exact h.bz j, h.nb, h.nw, h.l1, by simp [h.l2]⟩
  by_cases e : j = k
  · subst e
    rw [World.cell?_setCell_same _ _ _ (h.bc j hj)]
    simp [List.getD, h.l2, hj]
  · rw [World.cell?_setCell_other _ _ _ _ (by intro e2; cases e2; exact e rfl), h.bc j hj]
    simp [List.getD, show k ≠ j from fun e2 => e e2.symm]
end
end Wd
end Go.Proofs.YtdaojohdmidemaaGreat

/- Two rows of asks of the call's own, beside an array. -/
namespace Go.Proofs.YtdaojohdmidemaaGreat
open Go.RowKit Go.Maps
set_option linter.unusedVariables false
namespace Wd
abbrev Ak := Int × Int × Int × Int
def quad : List Ak → List Value
  | [] => []
  | t :: T => .int .i64 t.1 :: .int .i64 t.2.1 :: .int .i64 t.2.2.1 :: .int .i64 t.2.2.2 :: quad T
theorem quad_app : ∀ (A B : List Ak), quad (A ++ B) = quad A ++ quad B
  | [], _ => rfl
  | t :: A, B => by simp [quad, quad_app A B]
theorem quad_len : ∀ (A : List Ak), (quad A).length = A.length * 4
  | [] => rfl
  | t :: A => by simp only [quad, List.length_cons, quad_len A]; omega
theorem quad_get : ∀ (T : List Ak) (k : Nat) (t : Ak), T[k]? = some t → (quad T)[k * 4]? = some (.int .i64 t.1) ∧ (quad T)[k * 4 + 1]? = some (.int .i64 t.2.1) ∧ (quad T)[k * 4 + 2]? = some (.int .i64 t.2.2.1) ∧ (quad T)[k * 4 + 3]? = some (.int .i64 t.2.2.2)
  | [], k, t, h => by simp at h
  | s :: T, 0, t, h => by simp at h; subst h; simp [quad]
  | s :: T, k + 1, t, h => by
    have := quad_get T k t (by simpa using h)
    rw [show (k + 1) * 4 = k * 4 + 4 by omega]
    simpa [quad] using this
theorem quad_one : ∀ (T : List Ak), ∀ u ∈ quad T, u.oneCell' = true
  | [], u, h => by cases h
  | t :: T, u, h => by
    simp only [quad, List.mem_cons] at h
    rcases h with rfl | rfl | rfl | rfl | h
    · rfl
    · rfl
    · rfl
    · rfl
    · exact quad_one T u h
def akB (t : Ak) : Prop := i64 t.1 ∧ i64 t.2.1 ∧ i64 t.2.2.1 ∧ i64 t.2.2.2
theorem asks_own {w : World} {base k : Nat} {v : Value} {T : List Ak} (h : w.ownsRow base 24 4 v k (quad T)) (hk : T.length = k) (hb : ∀ t, t ∈ T → akB t) :
    ∃ ad cap, v = .slice ad k cap ∧ Asks w ad k := by
  rcases h.2 with ⟨rfl, h0⟩ | ⟨g, cap, cur, rfl, h1, h2, h3⟩
  · exact ⟨_, _, by rw [h0], fun _ _ q hq => by omega⟩
  · refine ⟨_, _, rfl, fun wr hbl q hq => ?_⟩
    obtain ⟨t, ht⟩ : ∃ t, T[q]? = some t := ⟨T[q]'(by omega), by simp⟩
    obtain ⟨c0, c1, c2, c3⟩ := quad_get T q t ht
    obtain ⟨b0, b1, b2, b3⟩ := hb t (List.mem_of_getElem? ht)
    refine ⟨g, 0, t.1, t.2.1, t.2.2.1, t.2.2.2, rfl, b0, b1, b2, b3, ?_, ?_, ?_, ?_⟩
    · rw [Nat.zero_add]; exact cell_up hbl ((h.cellAt (q * 4) (by omega)).trans c0)
    · rw [Nat.zero_add]; exact cell_up hbl ((h.cellAt (q * 4 + 1) (by omega)).trans c1)
    · rw [Nat.zero_add]; exact cell_up hbl ((h.cellAt (q * 4 + 2) (by omega)).trans c2)
    · rw [Nat.zero_add]; exact cell_up hbl ((h.cellAt (q * 4 + 3) (by omega)).trans c3)
theorem Asks.up {w0 w1 : World} {ad : Option Addr} {len : Nat} (h : Asks w0 ad len) (b : Below w0.heap.size w0 w1) : Asks w1 ad len := fun wr g k hk => h wr (b.trans (g.mono b.size)) k hk
theorem infoA9 : (Tryz.prog.info? 24).map (fun i => (i.zero, i.size, i.bytes)) = some (some (.agg #[.int .i64 0, .int .i64 0, .int .i64 0, .int .i64 0]), 4, 32) := by kernel_rfl
/-- two rows of asks; at s0 + 1 an array of five -/
structure TW (w wr : World) (s0 : Nat) (m : Nat → Int) (k7 : Nat) (v7 : Value) (T7 : List Ak) (k8 : Nat) (v8 : Value) (T8 : List Ak) : Prop where
  o7 : wr.ownsRow (s0 + 2) 24 4 v7 k7 (quad T7)
  o8 : wr.ownsRow (s0 + 2) 24 4 v8 k8 (quad T8)
  l7 : T7.length = k7
  l8 : T8.length = k8
  b7 : ∀ t, t ∈ T7 → akB t
  b8 : ∀ t, t ∈ T8 → akB t
  bel : Below s0 w wr
  size : s0 + 2 ≤ wr.heap.size
  cm : ∀ j, j < 5 → wr.cell? ⟨s0 + 1, j, none⟩ = some (.int .i64 (m j))
  ap : ∀ g, v7.ownBlock = some g → v8.ownBlock ≠ some g
section
variable {w wr wX w1 : World} {s0 : Nat} {m : Nat → Int} {k7 k8 : Nat} {v7 v8 : Value} {T7 T8 : List Ak}
theorem TW.keep (h : TW w wr s0 m k7 v7 T7 k8 v8 T8) (b : Below wr.heap.size wr wX) : TW w wX s0 m k7 v7 T7 k8 v8 T8 :=
  ⟨World.ownsRow.kept h.o7 ⟨b.os, b.tape, b.output, b.size, fun k hk _ => b.block k hk⟩ (row := none) (by cases v7.ownBlock <;> simp),
   World.ownsRow.kept h.o8 ⟨b.os, b.tape, b.output, b.size, fun k hk _ => b.block k hk⟩ (row := none) (by cases v8.ownBlock <;> simp),
   h.l7, h.l8, h.b7, h.b8, h.bel.trans (b.mono (by have := h.size; omega)), Nat.le_trans h.size b.size, fun j hj => (b.cell (by have := h.size; show s0 + 1 < wr.heap.size; omega)).trans (h.cm j hj), h.ap⟩
theorem TW.add8 (h : TW w wX s0 m k7 v7 T7 k8 v8 T8) {t : Ak} (ht : akB t) {g cap : Nat} (hown : w1.ownsRow (s0 + 2) 24 4 (.slice (some ⟨g, 0, none⟩) (k8 + 1) cap) (k8 + 1) (quad T8 ++ quad [t])) (hg : wX.grownBy w1 v8.ownBlock) (hat : v8.ownBlock = some g ∨ g = wX.heap.size) :
    TW w w1 s0 m k7 v7 T7 (k8 + 1) (.slice (some ⟨g, 0, none⟩) (k8 + 1) cap) (T8 ++ [t]) := by
  have hs := h.size
  have n8 : ∀ q, v8.ownBlock = some q → s0 + 2 ≤ q := fun q hq => (h.o8.lt q hq).1
  refine ⟨World.ownsRow.kept h.o7 hg (row := v8.ownBlock) ?_, by rw [quad_app]; exact hown, h.l7, by simp [h.l8], h.b7, fun s hs => ?_, below_grown h.bel hg (fun q hq => by have := n8 q hq; omega) (by omega), Nat.le_trans h.size hg.size, fun j hj => ?_, fun q hq e => ?_⟩
  · cases h7 : v7.ownBlock with
    | none => simp
    | some q =>
      have := h.ap q h7
      first
        | (intro e; exact this e.symm)
        | (right; intro e; exact this e.symm)
        | (simp; intro e; exact this e.symm)
  · rcases List.mem_append.1 hs with hs | hs
    · exact h.b8 s hs
    · simp only [List.mem_singleton] at hs; subst hs; exact ht
  · exact (World.cell?_of_block (a := ⟨s0 + 1, j, none⟩) (hg.block (s0 + 1) (by omega) (fun e => by have := n8 _ e.symm; omega))).trans (h.cm j hj)
  · have eq : g = q := by injection e
    subst eq
    rcases hat with hat | hat
    · exact h.ap g hq hat
    · have := (h.o7.lt g hq).2; omega
theorem TW.add7 (h : TW w wX s0 m k7 v7 T7 k8 v8 T8) {t : Ak} (ht : akB t) {g cap : Nat} (hown : w1.ownsRow (s0 + 2) 24 4 (.slice (some ⟨g, 0, none⟩) (k7 + 1) cap) (k7 + 1) (quad T7 ++ quad [t])) (hg : wX.grownBy w1 v7.ownBlock) (hat : v7.ownBlock = some g ∨ g = wX.heap.size) :
    TW w w1 s0 m (k7 + 1) (.slice (some ⟨g, 0, none⟩) (k7 + 1) cap) (T7 ++ [t]) k8 v8 T8 := by
  have h' : TW w wX s0 m k8 v8 T8 k7 v7 T7 := ⟨h.o8, h.o7, h.l8, h.l7, h.b8, h.b7, h.bel, h.size, h.cm, fun g h8 h7 => h.ap g h7 h8⟩
  have r := h'.add8 ht hown hg hat
  exact ⟨r.o8, r.o7, r.l8, r.l7, r.b8, r.b7, r.bel, r.size, r.cm, fun g h8 h7 => r.ap g h7 h8⟩
end
end Wd
end Go.Proofs.YtdaojohdmidemaaGreat

/- What the laws ask of a memory, whoever keeps it: HeapPlays. -/
namespace Go.Proofs.YtdaojohdmidemaaGreat
open Go.RowKit Go.Maps
set_option linter.unusedVariables false
namespace Wd
/-- while the array is filled -/
structure AB (w wr : World) (s0 : Nat) (e : Nat → Int) (m : Nat → Nat) (k : Nat) : Prop where
  bel : Below s0 w wr
  size : s0 + 2 ≤ wr.heap.size
  cf : ∀ j, j < 5 → wr.cell? ⟨s0, j, none⟩ = some (.int .i64 (e j))
  cm : ∀ j, j < 5 → wr.cell? ⟨s0 + 1, j, none⟩ = some (.int .i64 (if j < k then (m j : Int) else 0))
  cz : ∀ j, wr.frozen? ⟨s0 + 1, j, none⟩ = false
theorem AB.next {w wr : World} {s0 : Nat} {e : Nat → Int} {m : Nat → Nat} {k : Nat} (h : AB w wr s0 e m k) (hk : k < 5) : AB w (wr.setCell ⟨s0 + 1, k, none⟩ (.int .i64 (m k : Int))) s0 e m (k + 1) := by
  refine ⟨below_set h.bel (by show s0 ≤ s0 + 1; omega) _, by rw [World.size_setCell]; exact h.size, fun j hj => (World.cell?_setCell_far _ _ _ _ (by show s0 + 1 ≠ s0; omega)).trans (h.cf j hj), fun j hj => ?_, fun j => by rw [World.frozen?_setCell]; exact h.cz j⟩
  by_cases c : j = k
  · subst c
    rw [if_pos (by omega)]
    exact World.cell?_setCell_same _ _ _ (h.cm j hj)
  · rw [World.cell?_setCell_other _ _ _ _ (by intro e; cases e; exact c rfl), h.cm j hj]
    by_cases d : j < k
    · rw [if_pos d, if_pos (by omega)]
    · rw [if_neg d, if_neg (by omega)]
set_option maxHeartbeats 32000000 in
set_option maxRecDepth 20000 in
theorem plays_e {HA : HAt} (K : HeapK HA) (e : Nat → Int) (ad : Option Addr) (len cap : Nat) (w : World) (HN : Asks w ad len) (hlen : len * 32 ≤ 140737488351232) :
    Calls Tryz.prog 4 #[.agg #[.int .i64 (e 0), .int .i64 (e 1), .int .i64 (e 2), .int .i64 (e 3), .int .i64 (e 4)], .slice ad len cap] w fun e w' => e = .returned (.bool true) ∧ Below w.heap.size w w' := by
  obtain ⟨i0, hi0, hz0, hz1, hz2⟩ := info_parts infoA9
  have hmx : Hid (len + 1 ≤ maxLen) := Lib.hid (by simp only [maxLen]; omega)
  replace HN := Lib.hid HN
  obtain ⟨m, hm⟩ : ∃ m : Nat → Nat, ∀ j, bits .and .i64 (e j) 15 = (m j : Int) ∧ m j < 16 := ⟨fun j => (e j % 16).toNat, fun j => ⟨by rw [msk15]; show e j % 16 = (((e j % 16).toNat : Nat) : Int); omega, by show (e j % 16).toNat < 16; omega⟩⟩
  replace hm := Lib.hid hm
  have S0 : Hid (AB w ((w.alloc (.cells #[.int .i64 (e 0), .int .i64 (e 1), .int .i64 (e 2), .int .i64 (e 3), .int .i64 (e 4)] 26)).alloc (.cells #[.int .i64 0, .int .i64 0, .int .i64 0, .int .i64 0, .int .i64 0] 26)) w.heap.size e m 0) :=
    Lib.hid ⟨((Below.refl _ _).alloc (Nat.le_refl _) _).alloc (by simp) _, by simp, fun j hj => by rcases (show j = 0 ∨ j = 1 ∨ j = 2 ∨ j = 3 ∨ j = 4 by omega) with rfl | rfl | rfl | rfl | rfl <;> simp, fun j hj => by rcases (show j = 0 ∨ j = 1 ∨ j = 2 ∨ j = 3 ∨ j = 4 by omega) with rfl | rfl | rfl | rfl | rfl <;> simp, fun j => by simp⟩
  obtain ⟨s0, hs0⟩ : ∃ s0, w.heap.size = s0 := ⟨_, rfl⟩
  go_enter Tryz.func4, Tryz.ntmps4
  go_wp2
  rw [hs0] at S0
  generalize (w.alloc (.cells #[.int .i64 (e 0), .int .i64 (e 1), .int .i64 (e 2), .int .i64 (e 3), .int .i64 (e 4)] 26)).alloc (.cells #[.int .i64 0, .int .i64 0, .int .i64 0, .int .i64 0, .int .i64 0] 26) = w0 at *
  replace hs0 := Lib.hid hs0
  go_loopw [11] (fun i wr => ∃ k : Nat, k ≤ 5 ∧ i = .int .i64 k ∧ Hid (AB w wr s0 e m k)) (fun i _ => 5 - (intOf i).toNat)
  case atStart => exact ⟨0, by omega, rfl, S0⟩
  case round =>
    obtain ⟨k, hk, rfl, hq⟩ := hrel
    clear S0
    by_cases hlt : k < 5
    · have hlt' : decide ((k : Int) < 5) = true := by simp; omega
      have hlt2 : (k : Int) < 5 := by omega
      have hw : IntKind.i64.wrap ((k : Int) + 1) = (k : Int) + 1 := by rw [IntKind.wrap_i64]; omega
      have hcf := hq.out.cf k hlt
      have hcm := hq.out.cm k hlt
      have hcz := hq.out.cz k
      have hmk := (hm.out k).1
      have hN := Lib.hid (hq.out.next hlt)
      clear hq
      generalize e k = ek at *
      go_wp2
      go_roundw
      case rel => exact ⟨k + 1, by omega, by go_num, hN⟩
      case measure => simp [intOf]; omega
    · have e5 : k = 5 := by omega
      have hd5 : decide ((k : Int) < 5) = false := by simp; omega
      have hm0 := (hm.out 0).2
      have c0 : wr.cell? ⟨s0 + 1, 0, none⟩ = some (.int .i64 (m 0 : Int)) := by have := hq.out.cm 0 (by omega); rw [if_pos (by omega)] at this; exact this
      have z0 := hq.out.cz 0
      have hw0 : IntKind.i64.wrap ((m 0 : Int) + 1) = (m 0 : Int) + 1 := by rw [IntKind.wrap_i64]; omega
      have st0 : Hid (TW w (wr.setCell ⟨s0 + 1, 0, none⟩ (.int .i64 ((m 0 : Int) + 1))) s0 (fun j => if j = 0 then (m 0 : Int) + 1 else (m j : Int)) 0 (.slice none 0 0) [] 0 (.slice none 0 0) []) :=
        Lib.hid ⟨World.ownsRow_nil _ _ _ _, World.ownsRow_nil _ _ _ _, rfl, rfl, fun _ h => (by cases h), fun _ h => (by cases h), below_set hq.out.bel (by show s0 ≤ s0 + 1; omega) _, by rw [World.size_setCell]; exact hq.out.size, fun j hj => by
          by_cases c : j = 0
          · subst c; simp only [if_true]; exact World.cell?_setCell_same _ _ _ c0
          · rw [World.cell?_setCell_other _ _ _ _ (by intro e; cases e; exact c rfl), hq.out.cm j hj, if_pos (by omega)]
            simp only [if_neg c], fun g h => by cases h⟩
      replace e5 := Lib.hid e5
      clear hq
      go_wp2
      generalize hwz : wr.setCell ⟨s0 + 1, 0, none⟩ (.int .i64 ((m 0 : Int) + 1)) = wz at *
      generalize hmf : (fun j => if j = 0 then (m 0 : Int) + 1 else (m j : Int)) = mf at st0
      replace hmf := Lib.hid hmf
      clear hwz c0 z0 hw0
      go_loopw [7, 8, 27] (fun v7 v8 i wr => ∃ k : Nat, k ≤ len ∧ i = .int .i64 k ∧ ∃ vv7 T7 vv8 T8, v7 = vv7 ∧ v8 = vv8 ∧ Hid (TW w wr s0 mf k vv7 T7 k vv8 T8)) (fun _ _ i _ => len - (intOf i).toNat)
      case atStart => exact ⟨0, by omega, rfl, _, [], _, [], rfl, rfl, st0⟩
      case round =>
        clear st0
        obtain ⟨k, hk, rfl, vv7, T7, vv8, T8, rfl, rfl, hst⟩ := hrel
        by_cases hlt : k < len
        · have hbel0 := Lib.hid (hst.out.bel.mono (show w.heap.size ≤ s0 by have := hs0.out; omega))
          obtain ⟨g, off, x, y, z, v, rfl, hx, hy, hz, hv, cx, cy, cz, cv⟩ := HN.out wr hbel0.out k hlt
          have d1 : decide ((k : Int) < (len : Int)) = true := by simp; omega
          obtain ⟨y1, hy1, y10, y11⟩ : ∃ y1, bits .and .i64 y 1023 = y1 ∧ 0 ≤ y1 ∧ y1 < 1024 := ⟨_, rfl, by rw [msk1023]; omega, by rw [msk1023]; omega⟩
          obtain ⟨z1, hz1', z10, z11⟩ : ∃ z1, bits .and .i64 z 63 = z1 ∧ 0 ≤ z1 ∧ z1 < 64 := ⟨_, rfl, by rw [msk63]; omega, by rw [msk63]; omega⟩
          obtain ⟨v1, hv1, v10, v11⟩ : ∃ v1, bits .and .i64 v 1023 = v1 ∧ 0 ≤ v1 ∧ v1 < 1024 := ⟨_, rfl, by rw [msk1023]; omega, by rw [msk1023]; omega⟩
          obtain ⟨y2, hy2, y20, y21⟩ : ∃ y2, bits .and .i64 y1 127 = y2 ∧ 0 ≤ y2 ∧ y2 < 128 := ⟨_, rfl, by rw [msk127]; omega, by rw [msk127]; omega⟩
          obtain ⟨z2, hz2', z20, z21⟩ : ∃ z2, bits .and .i64 z1 7 = z2 ∧ 0 ≤ z2 ∧ z2 < 8 := ⟨_, rfl, by rw [msk7]; omega, by rw [msk7]; omega⟩
          obtain ⟨v2, hv2, v20, v21⟩ : ∃ v2, bits .and .i64 v1 127 = v2 ∧ 0 ≤ v2 ∧ v2 < 128 := ⟨_, rfl, by rw [msk127]; omega, by rw [msk127]; omega⟩
          have tb8 : Hid (akB (x, y1, z1, v1)) := Lib.hid ⟨hx, ⟨by show -9223372036854775808 ≤ y1; omega, by show y1 ≤ 9223372036854775807; omega⟩, ⟨by show -9223372036854775808 ≤ z1; omega, by show z1 ≤ 9223372036854775807; omega⟩, ⟨by show -9223372036854775808 ≤ v1; omega, by show v1 ≤ 9223372036854775807; omega⟩⟩
          have wb := within_bd x 0 10 (by omega)
          have tb7 : Hid (akB (within x 0 10, y2, z2, v2)) := Lib.hid ⟨⟨by show -9223372036854775808 ≤ within x 0 10; omega, by show within x 0 10 ≤ 9223372036854775807; omega⟩, ⟨by show -9223372036854775808 ≤ y2; omega, by show y2 ≤ 9223372036854775807; omega⟩, ⟨by show -9223372036854775808 ≤ z2; omega, by show z2 ≤ 9223372036854775807; omega⟩, ⟨by show -9223372036854775808 ≤ v2; omega, by show v2 ≤ 9223372036854775807; omega⟩⟩
          clear wb
          obtain ⟨x0, x1⟩ := hx
          have st2 : Hid (TW w ((wr.alloc (.cells #[.int .i64 x, .int .i64 y1, .int .i64 z1, .int .i64 v1] 24)).alloc (.cells #[.int .i64 x, .int .i64 y1, .int .i64 z1, .int .i64 v1] 24)) s0 mf k u7 T7 k u8 T8) := Lib.hid (hst.out.keep (((Below.refl _ _).alloc (Nat.le_refl _) _).alloc (by simp) _))
          have B0 : Hid (Box4 ((wr.alloc (.cells #[.int .i64 x, .int .i64 y1, .int .i64 z1, .int .i64 v1] 24)).alloc (.cells #[.int .i64 x, .int .i64 y1, .int .i64 z1, .int .i64 v1] 24)) wr.heap.size x y1 z1 v1) := Lib.hid ⟨by simp, by simp, by simp, by simp⟩
          have nw8 : Hid (∀ j u, (quad [(x, y1, z1, v1)])[j]? = some u → ((wr.alloc (.cells #[.int .i64 x, .int .i64 y1, .int .i64 z1, .int .i64 v1] 24)).alloc (.cells #[.int .i64 x, .int .i64 y1, .int .i64 z1, .int .i64 v1] 24)).cell? ((⟨wr.heap.size + 1, 0, none⟩ : Addr).add j) = some u) := Lib.hid (World.news_of_block (by have := heap_alloc_new (wr.alloc (.cells #[.int .i64 x, .int .i64 y1, .int .i64 z1, .int .i64 v1] 24)) (.cells #[.int .i64 x, .int .i64 y1, .int .i64 z1, .int .i64 v1] 24); rw [World.size_alloc] at this; exact this))
          have n8 : Hid (some wr.heap.size ≠ u8.ownBlock) := Lib.hid (fun e => by have := (hst.out.o8.lt _ e.symm).2; omega)
          have n7 : Hid (some wr.heap.size ≠ u7.ownBlock) := Lib.hid (fun e => by have := (hst.out.o7.lt _ e.symm).2; omega)
          have hu : Hid (s0 ≤ wr.heap.size) := Lib.hid (by have := hst.out.size; omega)
          clear hst hy hz hv
          go_wp2_with (first | (at_builtin; refine wpList_append_lies _ rfl (.tmp 46) (.tmp 48) 22 rfl (s0 + 2) 24 i0 (.agg #[.int .i64 0, .int .i64 0, .int .i64 0, .int .i64 0]) 4 32 Tryz.underlying22 hi0 hz0 hz1 hz2 rfl (by decide) u8 k _ (by simp [Act.eval]) st2.out.o8 ⟨wr.heap.size + 1, 0, none⟩ 1 1 (quad [(x, y1, z1, v1)]) (by simp [Act.eval]) rfl nw8.out (quad_one _) (by omega) (by have := hmx.out; omega) (by omega) (by have := st2.out.size; omega) _ rfl ?_; intro g3 cap3 w3 hown8 hgrow8 hat8 hlt8) | fail)
          have st3 := Lib.hid (st2.out.add8 tb8.out hown8 hgrow8 hat8)
          have c0 := hgrow8.cell B0.out.1 n8.out
          have c1 := hgrow8.cell B0.out.2.1 n8.out
          have c2 := hgrow8.cell B0.out.2.2.1 n8.out
          have c3 := hgrow8.cell B0.out.2.2.2 n8.out
          clear st2 B0 nw8 n8 hown8 hgrow8 hat8 cx cy cz cv hu tb8 hlt8 y10 y11 z10 z11 v10 v11 y20 y21 z20 z21 v20 v21
          generalize wr.heap.size = B at *
          have gA : Below w3.heap.size w3 (w3.alloc (.cells #[.int .i64 (within x 0 10), .int .i64 y2, .int .i64 z2, .int .i64 v2] 24)).drew := ((Below.refl _ _).alloc (Nat.le_refl _) _).drew
          have hnw : Hid (∀ j u, (quad [(within x 0 10, y2, z2, v2)])[j]? = some u → (w3.alloc (.cells #[.int .i64 (within x 0 10), .int .i64 y2, .int .i64 z2, .int .i64 v2] 24)).drew.cell? ((⟨w3.heap.size, 0, none⟩ : Addr).add j) = some u) := Lib.hid (World.news_of_block (heap_alloc_new w3 _))
          have st4 : Hid (TW w (w3.alloc (.cells #[.int .i64 (within x 0 10), .int .i64 y2, .int .i64 z2, .int .i64 v2] 24)).drew s0 mf k u7 T7 (k + 1) (.slice (some ⟨g3, 0, none⟩) (k + 1) cap3) (T8 ++ [(x, y1, z1, v1)])) := Lib.hid (st3.out.keep gA)
          have hgv := n7.out
          clear st3 n7
          go_region_held3 (fun w' => w'.cell? ⟨B, 0, none⟩ = some (.int .i64 x) ∧ w'.cell? ⟨B, 1, none⟩ = some (.int .i64 y1) ∧ w'.cell? ⟨B, 2, none⟩ = some (.int .i64 z1) ∧ w'.cell? ⟨B, 3, none⟩ = some (.int .i64 v1)) (first | assumption | exact ⟨c0, c1, c2, c3⟩ | exact ⟨cell_up gA c0, cell_up gA c1, cell_up gA c2, cell_up gA c3⟩ | exact ⟨hgrow.cell (cell_up gA c0) hgv, hgrow.cell (cell_up gA c1) hgv, hgrow.cell (cell_up gA c2) hgv, hgrow.cell (cell_up gA c3) hgv⟩) (first
            | (refine step_append_lies _ rfl (.tmp 50) (.tmp 64) 22 rfl (s0 + 2) 24 i0 (.agg #[.int .i64 0, .int .i64 0, .int .i64 0, .int .i64 0]) 4 32 Tryz.underlying22 hi0 hz0 hz1 hz2 rfl (by decide) u7 k _ (by simp [Act.eval]) st4.out.o7 ⟨w3.heap.size, 0, none⟩ 1 1 (quad [(within x 0 10, y2, z2, v2)]) (by simp [Act.eval]) rfl hnw.out (quad_one _) (by omega) (by have := hmx.out; omega) (by omega) (by have := st4.out.size; omega) _ rfl ?_; intro g2 cap2 w5 hown hgrow hat hlt2)
            | (go_at_call 8; ((with_reducible refine (within_c _ _ _ (by assumption) (by assumption) (by omega) (by omega) (by omega) _).mono ?_); rintro e w' ⟨rfl, rfl⟩)))
          clear c0 c1 c2 c3 gA hgv hnw
          go_wp2
          go_roundw
          case rel => exact ⟨k + 1, by omega, by go_num, _, _, _, _, rfl, rfl, Lib.hid (st4.out.add7 tb7.out hown hgrow hat)⟩
          case measure => simp [intOf]; omega
        · have d1 : decide ((k : Int) < (len : Int)) = false := by simp; omega
          obtain ⟨nn, hnn, few, one, sum⟩ : ∃ nn : Nat → Nat, (∀ j, mf j = (nn j : Int)) ∧ (∀ s, s < 5 → nn s ≤ 512) ∧ 1 ≤ nn 0 + (nn 1 + (nn 2 + (nn 3 + nn 4))) ∧ nn 0 + (nn 1 + (nn 2 + (nn 3 + nn 4))) ≤ 1020 := by
            have b0 := (hm.out 0).2
            have b1 := (hm.out 1).2
            have b2 := (hm.out 2).2
            have b3 := (hm.out 3).2
            have b4 := (hm.out 4).2
            refine ⟨fun j => if j = 0 then m 0 + 1 else m j, fun j => ?_, fun s hs => ?_, ?_, ?_⟩
            · rw [← hmf.out]; by_cases c : j = 0 <;> simp [c]
            · have bs := (hm.out s).2
              show (if s = 0 then m 0 + 1 else m s) ≤ 512
              split <;> omega
            · show 1 ≤ (m 0 + 1) + (m 1 + (m 2 + (m 3 + m 4))); omega
            · show (m 0 + 1) + (m 1 + (m 2 + (m 3 + m 4))) ≤ 1020; omega
          replace few := Lib.hid few
          obtain ⟨ad7, cap7, e7, A7⟩ := asks_own hst.out.o7 hst.out.l7 hst.out.b7
          obtain ⟨ad8, cap8, e8, A8⟩ := asks_own hst.out.o8 hst.out.l8 hst.out.b8
          subst e7
          subst e8
          have hbel := Lib.hid (hst.out.bel.mono (show w.heap.size ≤ s0 by have := hs0.out; omega))
          have hz : s0 + 1 < wr.heap.size := by have := hst.out.size; omega
          have q0 : wr.cell? ⟨s0 + 1, 0, none⟩ = some (.int .i64 (nn 0)) := by rw [← hnn 0]; exact hst.out.cm 0 (by omega)
          have q1 : wr.cell? ⟨s0 + 1, 1, none⟩ = some (.int .i64 (nn 1)) := by rw [← hnn 1]; exact hst.out.cm 1 (by omega)
          have q2 : wr.cell? ⟨s0 + 1, 2, none⟩ = some (.int .i64 (nn 2)) := by rw [← hnn 2]; exact hst.out.cm 2 (by omega)
          have q3 : wr.cell? ⟨s0 + 1, 3, none⟩ = some (.int .i64 (nn 3)) := by rw [← hnn 3]; exact hst.out.cm 3 (by omega)
          have q4 : wr.cell? ⟨s0 + 1, 4, none⟩ = some (.int .i64 (nn 4)) := by rw [← hnn 4]; exact hst.out.cm 4 (by omega)
          clear hnn hst hmf
          replace A7 := Lib.hid A7
          replace A8 := Lib.hid A8
          go_wp2_with fail
          refine (play_any K nn few.out one sum ad7 k cap7 wr A7.out (by omega)).mono ?_
          rintro e w5 ⟨rfl, hd⟩
          have q0 := cell_up hd q0
          have q1 := cell_up hd q1
          have q2 := cell_up hd q2
          have q3 := cell_up hd q3
          have q4 := cell_up hd q4
          replace A8 := Lib.hid (A8.out.up hd)
          replace hbel := Lib.hid (hbel.out.trans (hd.mono hbel.out.size))
          clear hd
          go_wp2_with fail
          refine (play_any K nn few.out one sum ad8 k cap8 w5 A8.out (by omega)).mono ?_
          rintro e w6 ⟨rfl, hd⟩
          replace hbel := Lib.hid (hbel.out.trans (hd.mono hbel.out.size))
          clear hd
          go_wp2_with fail
          refine (known_c K w6).mono ?_
          rintro e w7 ⟨rfl, hd⟩
          replace hbel := Lib.hid (hbel.out.trans (hd.mono hbel.out.size))
          clear hd
          go_wp2
          go_ret
          exact ⟨rfl, hbel.out⟩
end Wd
end Go.Proofs.YtdaojohdmidemaaGreat

/- A slice of integers that came in, as the form reads it: opened. -/
namespace Go.Proofs.YtdaojohdmidemaaGreat
open Go.ChangeShapes Go.WideShapes Go.ChangeAt Go.RowKit
set_option linter.unusedVariables false
set_option maxRecDepth 100000
namespace Wd
theorem laidOut : laidOutB Tryz.prog = true := by kernel_rfl
theorem cellsI : Tryz.prog.cellsOf 3 = 1 := by kernel_rfl
theorem cellsAsk : Tryz.prog.cellsOf 24 = 4 := by kernel_rfl
theorem bytesAsk : Tryz.prog.bytesOf 24 = 32 := by kernel_rfl
theorem list4 {α : Type} (l : List α) (h : l.length = 4) : ∃ a b c d, l = [a, b, c, d] := by
  match l, h with
  | [a, b, c, d], _ => exact ⟨a, b, c, d, rfl⟩
theorem asks_of {H : Type} {enc : TypeId × Value → H} {W : World} {base : Nat} {v : Value} {d : DataW H} {p : List MemPlace}
    (hv : Value.okWide Tryz.prog W .any base 22 v) (h : DataW.Trod enc Tryz.prog W 0 (fun _ => true) true 22 v d p) :
    ∃ ad len cap, v = .slice ad len cap ∧ Asks W ad len ∧ ((d = .nil ∧ len = 0) ∨ ∃ elems spare, d = .slice elems spare ∧ len ≤ elems.length) := by
  obtain ⟨a0, len, cap, rfl⟩ := okWide_slice Tryz.underlying22 hv
  obtain ⟨fuel, hf⟩ := h
  rcases DataW.trod_slice Tryz.underlying22 hf with ⟨hcs, hx⟩ | ⟨a, len', cap', elems, rest, n, _, hcs, hx, hb, hl, hm, hlen, hel, _, _⟩
  · simp [Value.cells] at hcs
    obtain ⟨rfl, rfl, rfl⟩ := hcs
    simp only [Prod.mk.injEq] at hx
    exact ⟨none, 0, 0, rfl, fun _ _ k hk => absurd hk (by omega), Or.inl ⟨hx.1, rfl⟩⟩
  · simp [Value.cells] at hcs
    obtain ⟨rfl, rfl, rfl⟩ := hcs
    simp only [Prod.mk.injEq] at hx
    refine ⟨some a, len, cap, rfl, fun wr hbl k hk => ?_, Or.inr ⟨_, _, hx.1, by simp; omega⟩⟩
    obtain ⟨y, hy⟩ : ∃ y, elems[k]? = some y := ⟨elems[k]'(by omega), by simp⟩
    have hk1 := hel k hk
    rw [hy, cellsAsk, Option.bind_eq_some_iff] at hk1
    obtain ⟨cs, hc, ht⟩ := hk1
    obtain ⟨_, hcl, hcc⟩ := World.cells?_some hc
    obtain ⟨xs, n', _, _, _, hxl, hg⟩ := DataW.trod_struct Tryz.underlying24 ht
    obtain ⟨y0, y1, y2, y3, rfl⟩ := list4 xs hxl
    obtain ⟨c0, c1, c2, c3, rfl⟩ := list4 cs hcl
    have g0 : DataW.trod enc Tryz.prog W 0 (fun _ => true) true n' 3 (([c0, c1, c2, c3].drop 0).take (Tryz.prog.cellsOf 3)) = some y0 := hg 0 _ rfl
    have g1 : DataW.trod enc Tryz.prog W 0 (fun _ => true) true n' 3 (([c0, c1, c2, c3].drop 1).take (Tryz.prog.cellsOf 3)) = some y1 := hg 1 _ rfl
    have g2 : DataW.trod enc Tryz.prog W 0 (fun _ => true) true n' 3 (([c0, c1, c2, c3].drop 2).take (Tryz.prog.cellsOf 3)) = some y2 := hg 2 _ rfl
    have g3 : DataW.trod enc Tryz.prog W 0 (fun _ => true) true n' 3 (([c0, c1, c2, c3].drop 3).take (Tryz.prog.cellsOf 3)) = some y3 := hg 3 _ rfl
    rw [cellsI] at g0 g1 g2 g3
    obtain ⟨x, e0, _, w0⟩ := DataW.trod_int Tryz.underlying3 g0
    obtain ⟨y, e1, _, w1⟩ := DataW.trod_int Tryz.underlying3 g1
    obtain ⟨z, e2, _, w2⟩ := DataW.trod_int Tryz.underlying3 g2
    obtain ⟨q, e3, _, w3⟩ := DataW.trod_int Tryz.underlying3 g3
    simp at e0 e1 e2 e3
    subst e0 e1 e2 e3
    have h0 := hcc 0 (by omega)
    have h1 := hcc 1 (by omega)
    have h2 := hcc 2 (by omega)
    have h3 := hcc 3 (by omega)
    obtain ⟨b, off, spot⟩ := a
    have hspot : spot = none := by
      obtain ⟨y', hy'⟩ : ∃ y, elems[0]? = some y := ⟨elems[0]'(by omega), by simp⟩
      have hk0 := hel 0 (by omega)
      rw [hy', cellsAsk, Option.bind_eq_some_iff] at hk0
      obtain ⟨cs0, hc0, _⟩ := hk0
      obtain ⟨u0, u1, u2, u3, rfl⟩ := list4 cs0 (World.cells?_some hc0).2.1
      have := World.cell?_spot (((World.cells?_some hc0).2.2 0 (by omega)).trans (show [u0, u1, u2, u3][0]? = some u0 from rfl))
      simpa [Addr.add] using this
    subst hspot
    simp only [Addr.add_lit, Nat.add_zero] at h0 h1 h2 h3
    exact ⟨b, off, x, y, z, q, rfl, bounds_i64 w0, bounds_i64 w1, bounds_i64 w2, bounds_i64 w3, cell_up hbl h0, cell_up hbl h1, cell_up hbl h2, cell_up hbl h3⟩
theorem cellsA : Tryz.prog.cellsOf 26 = 5 := by kernel_rfl
theorem list5 {α : Type} (l : List α) (h : (⟨l⟩ : Array α).size = 5) : ∃ a b c d e, l = [a, b, c, d, e] := by
  match l, h with
  | [a, b, c, d, e], _ => exact ⟨a, b, c, d, e, rfl⟩
theorem list5' {α : Type} (l : List α) (h : l.length = 5) : ∃ a b c d e, l = [a, b, c, d, e] := by
  match l, h with
  | [a, b, c, d, e], _ => exact ⟨a, b, c, d, e, rfl⟩
theorem open5 {H : Type} {enc : TypeId × Value → H} {W : World} {base b' : Nat} {sp : Nat → Bool} {held : Bool} {v : Value} {d : DataW H} {p : List MemPlace}
    (hv : Value.okWide Tryz.prog W .any base 26 v) (h : DataW.Trod enc Tryz.prog W b' sp held 26 v d p) :
    ∃ x0 x1 x2 x3 x4 : Int, v = .agg #[.int .i64 x0, .int .i64 x1, .int .i64 x2, .int .i64 x3, .int .i64 x4] ∧ d = .agg [.lit (.int .i64 x0), .lit (.int .i64 x1), .lit (.int .i64 x2), .lit (.int .i64 x3), .lit (.int .i64 x4)] ∧ p = [] ∧
      (Lit.int .i64 x0).wf = true ∧ (Lit.int .i64 x1).wf = true ∧ (Lit.int .i64 x2).wf = true ∧ (Lit.int .i64 x3).wf = true ∧ (Lit.int .i64 x4).wf = true := by
  obtain ⟨cs, rfl, hsz, _⟩ : ∃ cs, v = .agg cs ∧ cs.size = Tryz.prog.cellsOf 26 ∧ Row.okWide Tryz.prog W .any base 26 cs := by
    simpa [Value.okWide, Tryz.underlying26] using hv
  rw [cellsA] at hsz
  obtain ⟨l⟩ := cs
  obtain ⟨c0, c1, c2, c3, c4, rfl⟩ := list5 l hsz
  obtain ⟨fuel, hf⟩ := h
  obtain ⟨xs, m, _, hx, _, hl, hg⟩ := DataW.trod_array Tryz.underlying26 hf
  obtain ⟨y0, y1, y2, y3, y4, rfl⟩ := list5' xs hl
  have g0 := hg 0 (by omega)
  have g1 := hg 1 (by omega)
  have g2 := hg 2 (by omega)
  have g3 := hg 3 (by omega)
  have g4 := hg 4 (by omega)
  rw [cellsI] at g0 g1 g2 g3 g4
  obtain ⟨x0, e0, rfl, w0⟩ := DataW.trod_int Tryz.underlying3 g0
  obtain ⟨x1, e1, rfl, w1⟩ := DataW.trod_int Tryz.underlying3 g1
  obtain ⟨x2, e2, rfl, w2⟩ := DataW.trod_int Tryz.underlying3 g2
  obtain ⟨x3, e3, rfl, w3⟩ := DataW.trod_int Tryz.underlying3 g3
  obtain ⟨x4, e4, rfl, w4⟩ := DataW.trod_int Tryz.underlying3 g4
  simp [Value.cells] at e0 e1 e2 e3 e4
  subst e0 e1 e2 e3 e4
  simp only [Prod.mk.injEq] at hx
  obtain ⟨rfl, rfl⟩ := hx
  exact ⟨x0, x1, x2, x3, x4, rfl, rfl, rfl, w0, w1, w2, w3, w4⟩
theorem shut5 {H : Type} {enc : TypeId × Value → H} {W : World} {b' : Nat} {sp : Nat → Bool} {held : Bool} {x0 x1 x2 x3 x4 : Int}
    (w0 : (Lit.int .i64 x0).wf = true) (w1 : (Lit.int .i64 x1).wf = true) (w2 : (Lit.int .i64 x2).wf = true) (w3 : (Lit.int .i64 x3).wf = true) (w4 : (Lit.int .i64 x4).wf = true) :
    DataW.Trod enc Tryz.prog W b' sp held 26 (.agg #[.int .i64 x0, .int .i64 x1, .int .i64 x2, .int .i64 x3, .int .i64 x4]) (.agg [.lit (.int .i64 x0), .lit (.int .i64 x1), .lit (.int .i64 x2), .lit (.int .i64 x3), .lit (.int .i64 x4)]) [] :=
  ⟨2, by simp [DataW.trod, Value.cells, Tryz.underlying26, Tryz.underlying3, cellsA, cellsI, w0, w1, w2, w3, w4, show List.range 5 = [0, 1, 2, 3, 4] from rfl]⟩
theorem plays_any {HA : HAt} (K : HeapK HA) (a0 a1 a2 a3 a4 : Int) (ad : Option Addr) (len cap : Nat) (w : World) (HN : Asks w ad len) (hlen : len * 32 ≤ 140737488351232) :
    Calls Tryz.prog 4 #[.agg #[.int .i64 a0, .int .i64 a1, .int .i64 a2, .int .i64 a3, .int .i64 a4], .slice ad len cap] w fun e w' => e = .returned (.bool true) ∧ Below w.heap.size w w' :=
  plays_e K (fun j => if j = 0 then a0 else if j = 1 then a1 else if j = 2 then a2 else if j = 3 then a3 else a4) ad len cap w HN hlen
end Wd
end Go.Proofs.YtdaojohdmidemaaGreat

/- What the laws ask of a mill, whoever keeps it. -/
namespace Go.Proofs.YtdaojohdmidemaaGreat
set_option maxRecDepth 20000
open Go.RowKit
set_option linter.unusedVariables false
namespace Wd
abbrev MAt := World → Nat → Nat → Mst → (Nat → Prop) → Prop
/-- what the laws ask of the package's mill: 'MA w p n A F': at block p lies a mill of n cells, its rows are A; it lies in the blocks F -/
structure MillK (MA : MAt) : Prop where
  lt : ∀ {w p n A F}, MA w p n A F → ∀ k, F k → k < w.heap.size
  keep : ∀ {w w' p n A F}, MA w p n A F → (∀ k, F k → w'.heap[k]? = w.heap[k]?) → MA w' p n A F
  alloc : ∀ {w p n A F}, MA w p n A F → Calls Tryz.prog 45 #[.pointer (some ⟨p, 0, none⟩)] w fun e w' => ∃ F', e = .returned (.int .i64 (firstR A 0)) ∧ MA w' p n (firstA A 0 1) F' ∧ Ch F w w' ∧ Newer F F' w.heap.size
  scan : ∀ {w p n A F}, MA w p n A F → Calls Tryz.prog 64 #[.pointer (some ⟨p, 0, none⟩)] w fun e w' => ∃ F', e = .returned (.int .i64 (firstR A 2)) ∧ MA w' p n (firstA A 2 1) F' ∧ Ch F w w' ∧ Newer F F' w.heap.size
  shade : ∀ {w p n A F} (i : Int), MA w p n A F → (-9223372036854775808 ≤ i) → (i ≤ 9223372036854775807) → Calls Tryz.prog 97 #[.pointer (some ⟨p, 0, none⟩), .int .i64 i] w fun e w' => ∃ F', e = .returned (.bool (decide (colorR A i = 3))) ∧ MA w' p n (shadeA A i) F' ∧ Ch F w w' ∧ Newer F F' w.heap.size
  flip : ∀ {w p n A F}, MA w p n A F → Calls Tryz.prog 68 #[.pointer (some ⟨p, 0, none⟩)] w fun e w' => ∃ u F', e = .returned u ∧ MA w' p n (flipA A) F' ∧ Ch F w w' ∧ Newer F F' w.heap.size ∧ SL w' 3 u (flipR A) ∧ (∀ g, u.ownBlock = some g → w.heap.size ≤ g ∧ ¬ F' g)
  color : ∀ {w p n A F} (i : Int), MA w p n A F → (-9223372036854775808 ≤ i) → (i ≤ 9223372036854775807) → Calls Tryz.prog 84 #[.pointer (some ⟨p, 0, none⟩), .int .i64 i] w fun e w' => e = .returned (.int .i64 (colorR A i)) ∧ Below w.heap.size w w'
  count : ∀ {w p n A F} (c : Int), MA w p n A F → (-9223372036854775808 ≤ c) → (c ≤ 9223372036854775807) → Calls Tryz.prog 98 #[.pointer (some ⟨p, 0, none⟩), .int .i64 c] w fun e w' => e = .returned (.int .i64 (rowA A c).length) ∧ Below w.heap.size w w'
  list : ∀ {w p n A F} (c : Int), MA w p n A F → (-9223372036854775808 ≤ c) → (c ≤ 9223372036854775807) → Calls Tryz.prog 99 #[.pointer (some ⟨p, 0, none⟩), .int .i64 c] w fun e w' => ∃ u, e = .returned u ∧ SL w' 3 u (rowA A c) ∧ Below w.heap.size w w' ∧ (∀ g, u.ownBlock = some g → w.heap.size ≤ g)
  new : ∀ {w} (n : Nat), 1 ≤ n → n ≤ 512 → Calls Tryz.prog 40 #[.int .i64 n] w fun e w' => ∃ p F, e = .returned (.pointer (some ⟨p, 0, none⟩)) ∧ MA w' p n (startA n) F ∧ (∀ k, F k → w.heap.size ≤ k) ∧ Below w.heap.size w w'
  none : ∀ {w} (n : Int), (-9223372036854775808 ≤ n) → (n ≤ 9223372036854775807) → (n < 1 ∨ 512 < n) → Calls Tryz.prog 40 #[.int .i64 n] w fun e w' => e = .returned (.pointer .none) ∧ Below w.heap.size w w'
section
variable {MA : MAt} {w0 wr wA w1 w2 : World} {p b n : Nat} {A A' : Mst} {F F' : Nat → Prop} {V V' : Nat → Value}
end
/-- a mill of the package's, of the call's own -/
structure PM (MA : MAt) (w0 wr : World) (p n : Nat) (A : Mst) (F : Nat → Prop) : Prop where
  ma : MA wr p n A F
  bel : Below w0.heap.size w0 wr
  fF : ∀ k, F k → w0.heap.size ≤ k
  good : Good n A
section
variable {MA : MAt} {w0 wr wA w1 : World} {p n : Nat} {A A' : Mst} {F F' : Nat → Prop}
theorem PM.keep (K : MillK MA) (h : PM MA w0 wr p n A F) (g : Below wr.heap.size wr wA) : PM MA w0 wA p n A F :=
  ⟨K.keep h.ma (fun k hk => g.block k (K.lt h.ma k hk)), h.bel.trans (g.mono h.bel.size), h.fF, h.good⟩
theorem PM.step (h : PM MA w0 wr p n A F) (hm : MA w1 p n A' F') (c : Ch F wr w1) (hn : Newer F F' wr.heap.size) (good : Good n A') : PM MA w0 w1 p n A' F' := by
  refine ⟨hm, h.bel.trans ⟨c.os, c.tape, c.output, c.size, fun k hk => c.block k (Nat.lt_of_lt_of_le hk h.bel.size) (fun hF => by have := h.fF k hF; omega)⟩, fun k hk => ?_, good⟩
  rcases hn k hk with h' | h'
  · exact h.fF k h'
  · exact Nat.le_trans h.bel.size h'
end
end Wd
end Go.Proofs.YtdaojohdmidemaaGreat
