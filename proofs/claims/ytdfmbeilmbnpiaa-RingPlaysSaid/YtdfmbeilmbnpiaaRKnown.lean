/- What the laws ask of a ring, whoever keeps it; what keeps it: the chapter's runs. -/
import Derived.Test.YtdfmbeilmbnpiaaRNew
import Derived.Test.YtdfmbeilmbnpiaaRSame
import Derived.Test.YtdfmbeilmbnpiaaRMath
import Derived.Test.YtdfmbeilmbnpiaaRPlayS
import Derived.OpenShut
import Derived.Deep.RegionHeld3
namespace Go.Proofs.Ytdfmbeilmbnpiaa
open Go.RowKit
namespace Wd
theorem SL.keepCh {w w' : World} {e : TypeId} {v : Value} {L : List Int} {F : Nat → Prop} (h : SL w e v L) (c : Ch F w w') (hF : ∀ g, v.ownBlock = some g → ¬ F g) : SL w' e v L := by
  refine ⟨h.1, ?_⟩
  rcases h.2 with hh | ⟨g, cap, cur, rfl, h1, h2, h3⟩
  · exact Or.inl hh
  · exact Or.inr ⟨g, cap, cur, rfl, h1, (c.block g (Array.getElem?_eq_some_iff.1 h2).1 (hF g rfl)).trans h2, h3⟩
/-- the package's ring alone, of the call's own -/
structure PS (RA : RAt) (w0 wr : World) (p n : Nat) (L : List Int) (F : Nat → Prop) : Prop where
  ra : RA wr p n L F
  bel : Below w0.heap.size w0 wr
  fF : ∀ k, F k → w0.heap.size ≤ k
theorem PS.keep {RA : RAt} (K : RingK RA) {w0 wr w1 : World} {p n : Nat} {L : List Int} {F : Nat → Prop} (h : PS RA w0 wr p n L F) (g : Below wr.heap.size wr w1) : PS RA w0 w1 p n L F :=
  ⟨K.keep h.ra (fun k hk => g.block k (K.lt h.ra k hk)), h.bel.trans (g.mono h.bel.size), h.fF⟩
theorem PS.ch {RA : RAt} {w0 wr w1 : World} {p n : Nat} {L L' : List Int} {F : Nat → Prop} (h : PS RA w0 wr p n L F) (hr : RA w1 p n L' F) (c : Ch F wr w1) : PS RA w0 w1 p n L' F :=
  ⟨hr, h.bel.trans ⟨c.os, c.tape, c.output, c.size, fun k hk => c.block k (Nat.lt_of_lt_of_le hk h.bel.size) (fun hF => by have := h.fF k hF; omega)⟩, h.fF⟩
theorem PS.ch_eq {RA : RAt} {w0 wr w1 : World} {p n : Nat} {L L' L2 : List Int} {F : Nat → Prop} (h : PS RA w0 wr p n L F) (hr : RA w1 p n L' F) (c : Ch F wr w1) (e : L' = L2) : PS RA w0 w1 p n L2 F := e ▸ h.ch hr c
set_option maxHeartbeats 16000000 in
theorem known_c {RA : RAt} (K : RingK RA) (w : World) :
    Calls Try.prog 8 #[] w fun e w' => e = .returned (.bool true) ∧ Below w.heap.size w w' := by
  have z0 : decide ((1 : Int) ∈ ([0, 1, 2] : List Int)) = true := by decide
  have z1 : decide ((1 : Int) ∈ ([0, 2] : List Int)) = false := by decide
  have z2 : nxt [0, 2] 0 = 2 := by decide
  have z3 : putOk 3 [0, 2] 1 0 = true := by decide
  have z4 : nxt [1, 0, 2] 2 = 1 := by decide
  have z5 : prv [1, 0, 2] 0 = 1 := by decide
  have z6 : nxt [1, 0, 2] 9 = -1 := by decide
  have z7 : putOk 3 [1, 0, 2] 1 2 = false := by decide
  have z8 : decide (([1, 2, 0] : List Int) = [1, 2, 0]) = true := by decide
  go_enter Try.func8, Try.ntmps8
  go_wp2_with fail
  refine (K.new 3 (by omega) (by omega)).mono ?_
  rintro e w1 ⟨p, F, rfl, hra, hF, hb⟩
  have hs : PS RA w w1 p 3 [0, 1, 2] F := ⟨(show rng 3 = [0, 1, 2] by decide) ▸ hra, hb, hF⟩
  clear hra hb hF
  replace hs := Lib.hid hs
  go_wp2_with fail
  refine (K.none 0 (by omega) (by omega) (Or.inl (by omega))).mono ?_
  rintro e w2 ⟨rfl, rfl⟩
  go_wp2_with fail
  refine (K.none 4097 (by omega) (by omega) (Or.inr (by omega))).mono ?_
  rintro e w2 ⟨rfl, rfl⟩
  go_wp2_with fail
  refine (K.from' 1 hs.out.ra (by omega) (by omega)).mono ?_
  rintro e w3 ⟨u, rfl, hu, hb, hfr⟩
  have fu : ∀ g, u.ownBlock = some g → ¬ F g := fun g hg hFg => by have := K.lt hs.out.ra g hFg; have := hfr g hg; omega
  replace hu : SL w3 3 u [1, 2, 0] := (show frm [0, 1, 2] 1 = [1, 2, 0] by decide) ▸ hu
  replace hs := Lib.hid (hs.out.keep K hb)
  clear hb hfr
  go_wp2_with fail
  refine (K.out 1 hs.out.ra (by omega) (by omega)).mono ?_
  rintro e w4 ⟨rfl, hr, hc⟩
  replace hu := hu.keepCh hc fu
  replace hs := Lib.hid (hs.out.ch_eq hr hc (L2 := [0, 2]) (by decide))
  clear hr hc
  go_wp2_with fail
  refine (K.out 1 hs.out.ra (by omega) (by omega)).mono ?_
  rintro e w5 ⟨rfl, hr, hc⟩
  replace hu := hu.keepCh hc fu
  replace hs := Lib.hid (hs.out.ch_eq hr hc (L2 := [0, 2]) (by decide))
  clear hr hc
  go_wp2_with fail
  refine (K.next 0 hs.out.ra (by omega) (by omega)).mono ?_
  rintro e w6 ⟨rfl, hq⟩
  replace hu := hu.keep (drB hq)
  replace hs := Lib.hid (hs.out.keep K (drB hq))
  clear hq
  go_wp2_with fail
  refine (K.put 1 0 hs.out.ra (by omega) (by omega) (by omega) (by omega)).mono ?_
  rintro e w7 ⟨rfl, hr, hc⟩
  replace hu := hu.keepCh hc fu
  replace hs := Lib.hid (hs.out.ch_eq hr hc (L2 := [1, 0, 2]) (by decide))
  clear hr hc
  have hlit : SL (w7.alloc (.cells #[.int .i64 1, .int .i64 2, .int .i64 0] 3)) 3 (.slice (some ⟨w7.heap.size, 0, none⟩) 3 3) [1, 2, 0] := World.ownsRow_lit w7 #[.int .i64 1, .int .i64 2, .int .i64 0] 3 (by omega) (by decide) rfl
  replace hu := Lib.hid hu
  go_wp2_with fail
  refine (same_ints [1, 2, 0] [1, 2, 0] u _ _ (hu.out.alloc _) hlit (by decide) (by decide)).mono ?_
  rintro e w8 ⟨rfl, hq⟩
  replace hs := Lib.hid ((hs.out.keep K ((Below.refl _ _).alloc (Nat.le_refl _) _)).keep K (drB hq))
  clear hq hlit hu
  go_wp2_with fail
  refine (K.next 2 hs.out.ra (by omega) (by omega)).mono ?_
  rintro e w9 ⟨rfl, hq⟩
  replace hs := Lib.hid (hs.out.keep K (drB hq))
  clear hq
  go_wp2_with fail
  refine (K.prev 0 hs.out.ra (by omega) (by omega)).mono ?_
  rintro e w10 ⟨rfl, hq⟩
  replace hs := Lib.hid (hs.out.keep K (drB hq))
  clear hq
  go_wp2_with fail
  refine (K.len hs.out.ra).mono ?_
  rintro e w11 ⟨rfl, hq⟩
  replace hs := Lib.hid (hs.out.keep K (drB hq))
  clear hq
  go_wp2_with fail
  refine (K.next 9 hs.out.ra (by omega) (by omega)).mono ?_
  rintro e w12 ⟨rfl, hq⟩
  replace hs := Lib.hid (hs.out.keep K (drB hq))
  clear hq
  go_wp2_with fail
  refine (K.put 1 2 hs.out.ra (by omega) (by omega) (by omega) (by omega)).mono ?_
  rintro e w13 ⟨rfl, hr, hc⟩
  replace hs := Lib.hid (hs.out.ch hr hc)
  clear hr hc
  go_wp2
  go_ret
  exact ⟨rfl, hs.out.bel⟩
end Wd
end Go.Proofs.Ytdfmbeilmbnpiaa
