/- The package's ring: it may be told from anywhere on; one is taken out of the middle, and put in there. -/
import Derived.Test.YtjobeomadkaeoaaNOut
import Derived.Test.YtjobeomadkaeoaaNIn
import Derived.Test.YtjobeomadkaeoaaNNew
namespace Go.Proofs.Ytjobeomadkaeoaa
open Go.RowKit
namespace Wd
theorem RL.rot {n : Nat} {X Y : List Int} {f h : Nat → Int} (r : RL n (X ++ Y) f h) : RL n (Y ++ X) f h :=
  ⟨r.n1, r.n2, nd_rot r.nd, fun x hx => r.bd x (by simpa [or_comm] using hx), fun k hk => (r.ef k hk).trans (nxt_rot X Y r.nd k).symm, fun k hk => (r.eh k hk).trans (prv_rot X Y r.nd k).symm⟩
/-- a ring may be told from anywhere on -/
theorem RA.rot {w : World} {p n : Nat} {X Y : List Int} {F : Nat → Prop} (h : RA w p n (X ++ Y) F) : RA w p n (Y ++ X) F := by
  obtain ⟨g1, g2, f, g, hF, hB, hL⟩ := h
  refine ⟨g1, g2, f, g, hF, ?_, hL.rot⟩
  rw [show (Y ++ X).length = (X ++ Y).length by simp [Nat.add_comm]]
  exact hB
theorem RA.nd {w : World} {p n : Nat} {L : List Int} {F : Nat → Prop} (h : RA w p n L F) : L.Nodup := by
  obtain ⟨_, _, _, _, _, _, hL⟩ := h
  exact hL.nd
theorem RA.mem {w : World} {p n : Nat} {L : List Int} {F : Nat → Prop} (h : RA w p n L F) {i : Int} (hi : i ∈ L) : 0 ≤ i ∧ i < n := by
  obtain ⟨_, _, _, _, _, _, hL⟩ := h
  exact hL.bd i hi
theorem idxOf_mid {X Y : List Int} {i : Int} (h : i ∉ X) : (X ++ i :: Y).idxOf i = X.length := by
  rw [List.idxOf_append, if_neg h]
  simp
theorem outL_mid {X Y : List Int} {i : Int} (h : i ∉ X) : outL (X ++ i :: Y) i = X ++ Y := by
  unfold outL
  rw [if_pos (by simp), idxOf_mid h]
  simp
theorem inL_mid {X Y : List Int} {i a : Int} (h : a ∉ X) : inL (X ++ a :: Y) i a = X ++ [i] ++ a :: Y := by
  unfold inL
  rw [if_pos (by simp), idxOf_mid h]
  simp
theorem frm_mid {X Y : List Int} {i : Int} (h : i ∉ X) : frm (X ++ i :: Y) i = i :: Y ++ X := by
  unfold frm
  rw [if_pos (by simp), idxOf_mid h]
  simp
theorem nxt_mid {X Y : List Int} {i j : Int} (h : (X ++ i :: j :: Y).Nodup) : nxt (X ++ i :: j :: Y) i = j := by
  have hn : i ∉ X := fun hi => (List.nodup_append.1 h).2.2 i hi i (by simp) rfl
  unfold nxt
  rw [if_pos (by simp), idxOf_mid hn]
  have : (X.length + 1) % (X ++ i :: j :: Y).length = X.length + 1 := Nat.mod_eq_of_lt (by simp)
  rw [this]
  simp
theorem nxt_last {X : List Int} {i j : Int} (h : (j :: X ++ [i]).Nodup) : nxt (j :: X ++ [i]) i = j := by
  have hn : i ∉ j :: X := fun hi => (List.nodup_append.1 h).2.2 i hi i (by simp) rfl
  unfold nxt
  rw [if_pos (by simp), idxOf_mid hn]
  have : ((j :: X).length + 1) % (j :: X ++ [i]).length = 0 := by simp
  rw [this]
  simp
theorem prv_mid {X Y : List Int} {i j : Int} (h : (X ++ i :: j :: Y).Nodup) : prv (X ++ i :: j :: Y) j = i := by
  have e := nxt_mid h
  have := prv_nxt h (j := i) (by simp)
  rwa [e] at this
theorem prv_first {X : List Int} {i j : Int} (h : (j :: X ++ [i]).Nodup) : prv (j :: X ++ [i]) j = i := by
  have e := nxt_last h
  have := prv_nxt h (j := i) (by simp)
  rwa [e] at this
/-- the rows of a mill, in the ring -/
def LL (A : Mst) : List Int := A 0 ++ (A 1 ++ (A 2 ++ A 3))
theorem mid_out {n : Nat} {A : Mst} (h : Good n A) {x : Nat} (hx : x < 4) {P Q : List Int} {i : Int} (hA : A x = P ++ i :: Q) : outL (LL A) i = LL (upA A x (P ++ Q)) := by
  have hn := good_nd h
  have key : ∀ X Y : List Int, LL A = X ++ (P ++ i :: Q) ++ Y → LL (upA A x (P ++ Q)) = X ++ (P ++ Q) ++ Y → outL (LL A) i = LL (upA A x (P ++ Q)) := by
    intro X Y e1 e2
    have hnd : (X ++ (P ++ i :: Q) ++ Y).Nodup := by rw [← e1]; exact hn
    have hni : i ∉ X ++ P := by
      intro hi
      have e3 : X ++ (P ++ i :: Q) ++ Y = (X ++ P) ++ i :: (Q ++ Y) := by simp
      rw [e3] at hnd
      exact (List.nodup_append.1 hnd).2.2 i hi i (by simp) rfl
    rw [e1, e2, show X ++ (P ++ i :: Q) ++ Y = (X ++ P) ++ i :: (Q ++ Y) by simp, outL_mid hni]
    simp
  rcases (show x = 0 ∨ x = 1 ∨ x = 2 ∨ x = 3 by omega) with rfl | rfl | rfl | rfl
  · exact key [] (A 1 ++ (A 2 ++ A 3)) (by simp [LL, hA]) (by simp [LL, upA])
  · exact key (A 0) (A 2 ++ A 3) (by simp [LL, hA]) (by simp [LL, upA])
  · exact key (A 0 ++ A 1) (A 3) (by simp [LL, hA]) (by simp [LL, upA])
  · exact key (A 0 ++ (A 1 ++ A 2)) [] (by simp [LL, hA]) (by simp [LL, upA])
/-- one is laid behind U, ahead of the first of T: or of the first of U, if T is nothing -/
theorem lay_tail {U T : List Int} {i a : Int} (h : a ∉ U) : inL (U ++ a :: T) i a = (U ++ [i]) ++ a :: T := inL_mid h
theorem lay_head {U : List Int} {i a : Int} : inL (a :: U) i a = [i] ++ a :: U := inL_mid (X := []) (by simp)
end Wd
end Go.Proofs.Ytjobeomadkaeoaa
