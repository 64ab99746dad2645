/- What the laws ask of a ring, whoever keeps it; what keeps it: its walks. -/
import Derived.Test.YtdfmbeilmbnpiaaRNew
import Derived.Test.YtdfmbeilmbnpiaaRSame
import Derived.Test.YtdfmbeilmbnpiaaRMath
import Derived.Test.YtdfmbeilmbnpiaaRLaw
import Derived.OpenShut
import Derived.Deep.RegionHeld3
namespace Go.Proofs.Ytdfmbeilmbnpiaa
open Go.RowKit
namespace Wd
abbrev RAt := World → Nat → Nat → List Int → (Nat → Prop) → Prop
theorem drB {w w' : World} (h : ∃ q, w' = w.drewN q) : Below w.heap.size w w' := by
  obtain ⟨q, rfl⟩ := h; exact below_drewN (Below.refl _ _) _
theorem frm_le (L : List Int) (i : Int) : (frm L i).length ≤ L.length := by
  unfold frm
  split
  · simp; omega
  · simp
/-- what a region of the law's holds of the worlds that it comes to -/
def StS (RA : RAt) (w0 : World) (p b n : Nat) (L : List Int) (F : Nat → Prop) (v : Value) (w : World) : Prop := Two RA w p b n L F v ∧ Below w0.heap.size w0 w
theorem StS.keep {RA : RAt} (K : RingK RA) {w0 w w' : World} {p b n : Nat} {L : List Int} {F : Nat → Prop} {v : Value} (h : w.cell? ⟨b, 1, none⟩ = some v ∧ StS RA w0 p b n L F v w) (g : Below w.heap.size w w') : w'.cell? ⟨b, 1, none⟩ = some v ∧ StS RA w0 p b n L F v w' :=
  ⟨((h.2.1.keep K g).ref).l, h.2.1.keep K g, h.2.2.trans (g.mono h.2.2.size)⟩
theorem StS.ra {RA : RAt} {w0 w : World} {p b n : Nat} {L : List Int} {F : Nat → Prop} {v u : Value} {q : Addr} (h : w.cell? q = some u ∧ StS RA w0 p b n L F v w) : RA w p n L F := h.2.1.ra
theorem StS.ref {RA : RAt} {w0 w : World} {p b n : Nat} {L : List Int} {F : Nat → Prop} {v u : Value} {q : Addr} (h : w.cell? q = some u ∧ StS RA w0 p b n L F v w) : RefAt w b n L v := h.2.1.ref
set_option maxHeartbeats 16000000 in
theorem same_c {RA : RAt} (K : RingK RA) {w : World} {p b n : Nat} {L : List Int} {F : Nat → Prop} {v : Value} (i : Int) (h : Two RA w p b n L F v) (hl : L.length ≤ 8192) (j0 : -9223372036854775808 ≤ i) (j1 : i ≤ 9223372036854775807) :
    Calls Try.prog 21 #[.pointer (some ⟨p, 0, none⟩), .pointer (some ⟨b, 0, none⟩), .int .i64 i] w fun e w' => e = .returned (.bool true) ∧ Below w.heap.size w w' := by
  obtain ⟨a, c, rfl⟩ := h.ref.own.form
  have S0 : w.drew.cell? ⟨b, 1, none⟩ = some (.slice a L.length c) ∧ StS RA w p b n L F (.slice a L.length c) w.drew := StS.keep K (w0 := w) ⟨h.ref.l, h, Below.refl _ _⟩ (Below.refl _ _).drew
  have HL := Lib.hid hl
  have HF := Lib.hid (Nat.le_trans (frm_le L i) hl)
  clear h hl
  go_enter Try.func21, Try.ntmps21
  go_wp2
  go_region_held3 (fun w' => w'.cell? ⟨b, 1, none⟩ = some (.slice a L.length c) ∧ StS RA w p b n L F (.slice a L.length c) w') (first | exact S0 | exact StS.keep K (by assumption) (by assumption) | assumption) (first
    | (go_at_call 12; ((with_reducible refine (K.next i (StS.ra (by assumption)) j0 j1).mono ?_); rintro e w' ⟨rfl, hq⟩; replace hq := drB hq))
    | (go_at_call 25; ((with_reducible refine (next_c i b n L _ _ (StS.ref (by assumption)) HL.out).mono ?_); rintro e w' ⟨rfl, hq⟩; replace hq := drB hq))
    | (go_at_call 13; ((with_reducible refine (K.prev i (StS.ra (by assumption)) j0 j1).mono ?_); rintro e w' ⟨rfl, hq⟩; replace hq := drB hq))
    | (go_at_call 26; ((with_reducible refine (prev_c i b n L _ _ (StS.ref (by assumption)) HL.out).mono ?_); rintro e w' ⟨rfl, hq⟩; replace hq := drB hq))
    | (go_at_call 14; ((with_reducible refine (K.from' i (StS.ra (by assumption)) j0 j1).mono ?_); rintro e w' ⟨u1, rfl, hu1, hb1, _⟩))
    | (go_at_call 27; ((with_reducible refine (from_c i b n L _ _ (StS.ref (by assumption)) HL.out).mono ?_); rintro e w' ⟨u2, rfl, hu2, hb2⟩))
    | (go_at_call 17; ((with_reducible refine (same_ints _ _ u1 u2 _ (SL.keep hu1 hb2) hu2 HF.out HF.out).mono ?_); rintro e w' ⟨rfl, hq⟩; replace hq := drB hq))
    | (go_at_call 15; ((with_reducible refine (K.len (StS.ra (by assumption))).mono ?_); rintro e w' ⟨rfl, hq⟩; replace hq := drB hq)))
  all_goals go_wp2
  all_goals go_ret
  all_goals exact ⟨rfl, (show StS RA w p b n L F _ _ from And.right (by assumption)).2⟩
end Wd
end Go.Proofs.Ytdfmbeilmbnpiaa
