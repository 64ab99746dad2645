/- Two regions of FitTotals. -/
import Derived.Test.YtlmdcdpaelblmaaFKn
import Derived.Test.YtlmdcdpaelblmaaFTail
import Derived.Test.YtlmdcdpaelblmaaFR9
import Derived.OpenShut
import Derived.Deep.RegionHeld
namespace Go.Proofs.Ytlmdcdpaelblmaa
open Go.RowKit
namespace Wd
set_option maxHeartbeats 4000000 in
theorem after9 {w wq : World} {B : Nat} (hB : w.heap.size ≤ B) (x0 x1 x2 x3 x4 y0 y1 y2 y3 y4 q : Int) (G : Gr w wq) (h : wq.cell? ⟨B, 0, none⟩ = some (.int .i64 x0) ∧ wq.cell? ⟨B, 1, none⟩ = some (.int .i64 x1) ∧ wq.cell? ⟨B, 2, none⟩ = some (.int .i64 x2) ∧ wq.cell? ⟨B, 3, none⟩ = some (.int .i64 x3) ∧ wq.cell? ⟨B, 4, none⟩ = some (.int .i64 x4) ∧ wq.cell? ⟨B, 5, none⟩ = some (.int .i64 q) ∧ wq.cell? ⟨B + 1, 0, none⟩ = some (.int .i64 y0) ∧ wq.cell? ⟨B + 1, 1, none⟩ = some (.int .i64 y1) ∧ wq.cell? ⟨B + 1, 2, none⟩ = some (.int .i64 y2) ∧ wq.cell? ⟨B + 1, 3, none⟩ = some (.int .i64 y3) ∧ wq.cell? ⟨B + 1, 4, none⟩ = some (.int .i64 y4) ∧ wq.cell? ⟨B + 1, 5, none⟩ = some (.int .i64 q) ∧ wq.cell? ⟨B + 1 + 1, 0, none⟩ = some (.int .i64 (x0 + y0)) ∧ wq.cell? ⟨B + 1 + 1, 1, none⟩ = some (.int .i64 (x1 + y1)) ∧ wq.cell? ⟨B + 1 + 1, 2, none⟩ = some (.int .i64 (x2 + y2)) ∧ wq.cell? ⟨B + 1 + 1, 3, none⟩ = some (.int .i64 (x3 + y3)) ∧ wq.cell? ⟨B + 1 + 1, 4, none⟩ = some (.int .i64 (x4 + y4)) ∧ wq.cell? ⟨B + 1 + 1, 5, none⟩ = some (.int .i64 q)) :
    Gr w ((((wq.setCell ⟨B, 0, none⟩ (.int .i64 (x0 + 1))).setCell ⟨B + 1, 0, none⟩ (.int .i64 (y0 + 1))).setCell ⟨B + 1 + 1, 0, none⟩ (.int .i64 (x0 + y0 + 2))).drew) ∧ ((((wq.setCell ⟨B, 0, none⟩ (.int .i64 (x0 + 1))).setCell ⟨B + 1, 0, none⟩ (.int .i64 (y0 + 1))).setCell ⟨B + 1 + 1, 0, none⟩ (.int .i64 (x0 + y0 + 2))).drew).cell? ⟨B, 0, none⟩ = some (.int .i64 (x0 + 1)) ∧ ((((wq.setCell ⟨B, 0, none⟩ (.int .i64 (x0 + 1))).setCell ⟨B + 1, 0, none⟩ (.int .i64 (y0 + 1))).setCell ⟨B + 1 + 1, 0, none⟩ (.int .i64 (x0 + y0 + 2))).drew).cell? ⟨B, 1, none⟩ = some (.int .i64 x1) ∧ ((((wq.setCell ⟨B, 0, none⟩ (.int .i64 (x0 + 1))).setCell ⟨B + 1, 0, none⟩ (.int .i64 (y0 + 1))).setCell ⟨B + 1 + 1, 0, none⟩ (.int .i64 (x0 + y0 + 2))).drew).cell? ⟨B, 2, none⟩ = some (.int .i64 x2) ∧ ((((wq.setCell ⟨B, 0, none⟩ (.int .i64 (x0 + 1))).setCell ⟨B + 1, 0, none⟩ (.int .i64 (y0 + 1))).setCell ⟨B + 1 + 1, 0, none⟩ (.int .i64 (x0 + y0 + 2))).drew).cell? ⟨B, 3, none⟩ = some (.int .i64 x3) ∧ ((((wq.setCell ⟨B, 0, none⟩ (.int .i64 (x0 + 1))).setCell ⟨B + 1, 0, none⟩ (.int .i64 (y0 + 1))).setCell ⟨B + 1 + 1, 0, none⟩ (.int .i64 (x0 + y0 + 2))).drew).cell? ⟨B, 4, none⟩ = some (.int .i64 x4) ∧ ((((wq.setCell ⟨B, 0, none⟩ (.int .i64 (x0 + 1))).setCell ⟨B + 1, 0, none⟩ (.int .i64 (y0 + 1))).setCell ⟨B + 1 + 1, 0, none⟩ (.int .i64 (x0 + y0 + 2))).drew).cell? ⟨B, 5, none⟩ = some (.int .i64 q) ∧ ((((wq.setCell ⟨B, 0, none⟩ (.int .i64 (x0 + 1))).setCell ⟨B + 1, 0, none⟩ (.int .i64 (y0 + 1))).setCell ⟨B + 1 + 1, 0, none⟩ (.int .i64 (x0 + y0 + 2))).drew).cell? ⟨B + 1, 0, none⟩ = some (.int .i64 (y0 + 1)) ∧ ((((wq.setCell ⟨B, 0, none⟩ (.int .i64 (x0 + 1))).setCell ⟨B + 1, 0, none⟩ (.int .i64 (y0 + 1))).setCell ⟨B + 1 + 1, 0, none⟩ (.int .i64 (x0 + y0 + 2))).drew).cell? ⟨B + 1, 1, none⟩ = some (.int .i64 y1) ∧ ((((wq.setCell ⟨B, 0, none⟩ (.int .i64 (x0 + 1))).setCell ⟨B + 1, 0, none⟩ (.int .i64 (y0 + 1))).setCell ⟨B + 1 + 1, 0, none⟩ (.int .i64 (x0 + y0 + 2))).drew).cell? ⟨B + 1, 2, none⟩ = some (.int .i64 y2) ∧ ((((wq.setCell ⟨B, 0, none⟩ (.int .i64 (x0 + 1))).setCell ⟨B + 1, 0, none⟩ (.int .i64 (y0 + 1))).setCell ⟨B + 1 + 1, 0, none⟩ (.int .i64 (x0 + y0 + 2))).drew).cell? ⟨B + 1, 3, none⟩ = some (.int .i64 y3) ∧ ((((wq.setCell ⟨B, 0, none⟩ (.int .i64 (x0 + 1))).setCell ⟨B + 1, 0, none⟩ (.int .i64 (y0 + 1))).setCell ⟨B + 1 + 1, 0, none⟩ (.int .i64 (x0 + y0 + 2))).drew).cell? ⟨B + 1, 4, none⟩ = some (.int .i64 y4) ∧ ((((wq.setCell ⟨B, 0, none⟩ (.int .i64 (x0 + 1))).setCell ⟨B + 1, 0, none⟩ (.int .i64 (y0 + 1))).setCell ⟨B + 1 + 1, 0, none⟩ (.int .i64 (x0 + y0 + 2))).drew).cell? ⟨B + 1, 5, none⟩ = some (.int .i64 q) ∧ ((((wq.setCell ⟨B, 0, none⟩ (.int .i64 (x0 + 1))).setCell ⟨B + 1, 0, none⟩ (.int .i64 (y0 + 1))).setCell ⟨B + 1 + 1, 0, none⟩ (.int .i64 (x0 + y0 + 2))).drew).cell? ⟨B + 1 + 1, 0, none⟩ = some (.int .i64 (x0 + y0 + 2)) ∧ ((((wq.setCell ⟨B, 0, none⟩ (.int .i64 (x0 + 1))).setCell ⟨B + 1, 0, none⟩ (.int .i64 (y0 + 1))).setCell ⟨B + 1 + 1, 0, none⟩ (.int .i64 (x0 + y0 + 2))).drew).cell? ⟨B + 1 + 1, 1, none⟩ = some (.int .i64 (x1 + y1)) ∧ ((((wq.setCell ⟨B, 0, none⟩ (.int .i64 (x0 + 1))).setCell ⟨B + 1, 0, none⟩ (.int .i64 (y0 + 1))).setCell ⟨B + 1 + 1, 0, none⟩ (.int .i64 (x0 + y0 + 2))).drew).cell? ⟨B + 1 + 1, 2, none⟩ = some (.int .i64 (x2 + y2)) ∧ ((((wq.setCell ⟨B, 0, none⟩ (.int .i64 (x0 + 1))).setCell ⟨B + 1, 0, none⟩ (.int .i64 (y0 + 1))).setCell ⟨B + 1 + 1, 0, none⟩ (.int .i64 (x0 + y0 + 2))).drew).cell? ⟨B + 1 + 1, 3, none⟩ = some (.int .i64 (x3 + y3)) ∧ ((((wq.setCell ⟨B, 0, none⟩ (.int .i64 (x0 + 1))).setCell ⟨B + 1, 0, none⟩ (.int .i64 (y0 + 1))).setCell ⟨B + 1 + 1, 0, none⟩ (.int .i64 (x0 + y0 + 2))).drew).cell? ⟨B + 1 + 1, 4, none⟩ = some (.int .i64 (x4 + y4)) ∧ ((((wq.setCell ⟨B, 0, none⟩ (.int .i64 (x0 + 1))).setCell ⟨B + 1, 0, none⟩ (.int .i64 (y0 + 1))).setCell ⟨B + 1 + 1, 0, none⟩ (.int .i64 (x0 + y0 + 2))).drew).cell? ⟨B + 1 + 1, 5, none⟩ = some (.int .i64 q) := by
  obtain ⟨h0, h1, h2, h3, h4, h5, h6, h7, h8, h9, h10, h11, h12, h13, h14, h15, h16, h17⟩ := h
  refine ⟨?_, ?_, ?_, ?_, ?_, ?_, ?_, ?_, ?_, ?_, ?_, ?_, ?_, ?_, ?_, ?_, ?_, ?_, ?_⟩
  · exact Below.drew (Below.setCell (Below.setCell (Below.setCell G (by show _ ≤ B; omega) _) (by show _ ≤ B + 1; omega) _) (by show _ ≤ B + 1 + 1; omega) _)
  · exact ((World.cell?_setCell_far _ _ _ _ (by simp <;> omega)).trans ((World.cell?_setCell_far _ _ _ _ (by simp <;> omega)).trans (World.cell?_setCell_same _ _ _ h0)))
  · exact ((World.cell?_setCell_far _ _ _ _ (by simp <;> omega)).trans ((World.cell?_setCell_far _ _ _ _ (by simp <;> omega)).trans ((World.cell?_setCell_other _ _ _ _ (by simp)).trans h1)))
  · exact ((World.cell?_setCell_far _ _ _ _ (by simp <;> omega)).trans ((World.cell?_setCell_far _ _ _ _ (by simp <;> omega)).trans ((World.cell?_setCell_other _ _ _ _ (by simp)).trans h2)))
  · exact ((World.cell?_setCell_far _ _ _ _ (by simp <;> omega)).trans ((World.cell?_setCell_far _ _ _ _ (by simp <;> omega)).trans ((World.cell?_setCell_other _ _ _ _ (by simp)).trans h3)))
  · exact ((World.cell?_setCell_far _ _ _ _ (by simp <;> omega)).trans ((World.cell?_setCell_far _ _ _ _ (by simp <;> omega)).trans ((World.cell?_setCell_other _ _ _ _ (by simp)).trans h4)))
  · exact ((World.cell?_setCell_far _ _ _ _ (by simp <;> omega)).trans ((World.cell?_setCell_far _ _ _ _ (by simp <;> omega)).trans ((World.cell?_setCell_other _ _ _ _ (by simp)).trans h5)))
  · exact ((World.cell?_setCell_far _ _ _ _ (by simp <;> omega)).trans (World.cell?_setCell_same _ _ _ ((World.cell?_setCell_far _ _ _ _ (by simp <;> omega)).trans h6)))
  · exact ((World.cell?_setCell_far _ _ _ _ (by simp <;> omega)).trans ((World.cell?_setCell_other _ _ _ _ (by simp)).trans ((World.cell?_setCell_far _ _ _ _ (by simp <;> omega)).trans h7)))
  · exact ((World.cell?_setCell_far _ _ _ _ (by simp <;> omega)).trans ((World.cell?_setCell_other _ _ _ _ (by simp)).trans ((World.cell?_setCell_far _ _ _ _ (by simp <;> omega)).trans h8)))
  · exact ((World.cell?_setCell_far _ _ _ _ (by simp <;> omega)).trans ((World.cell?_setCell_other _ _ _ _ (by simp)).trans ((World.cell?_setCell_far _ _ _ _ (by simp <;> omega)).trans h9)))
  · exact ((World.cell?_setCell_far _ _ _ _ (by simp <;> omega)).trans ((World.cell?_setCell_other _ _ _ _ (by simp)).trans ((World.cell?_setCell_far _ _ _ _ (by simp <;> omega)).trans h10)))
  · exact ((World.cell?_setCell_far _ _ _ _ (by simp <;> omega)).trans ((World.cell?_setCell_other _ _ _ _ (by simp)).trans ((World.cell?_setCell_far _ _ _ _ (by simp <;> omega)).trans h11)))
  · exact (World.cell?_setCell_same _ _ _ ((World.cell?_setCell_far _ _ _ _ (by simp <;> omega)).trans ((World.cell?_setCell_far _ _ _ _ (by simp <;> omega)).trans h12)))
  · exact ((World.cell?_setCell_other _ _ _ _ (by simp)).trans ((World.cell?_setCell_far _ _ _ _ (by simp <;> omega)).trans ((World.cell?_setCell_far _ _ _ _ (by simp <;> omega)).trans h13)))
  · exact ((World.cell?_setCell_other _ _ _ _ (by simp)).trans ((World.cell?_setCell_far _ _ _ _ (by simp <;> omega)).trans ((World.cell?_setCell_far _ _ _ _ (by simp <;> omega)).trans h14)))
  · exact ((World.cell?_setCell_other _ _ _ _ (by simp)).trans ((World.cell?_setCell_far _ _ _ _ (by simp <;> omega)).trans ((World.cell?_setCell_far _ _ _ _ (by simp <;> omega)).trans h15)))
  · exact ((World.cell?_setCell_other _ _ _ _ (by simp)).trans ((World.cell?_setCell_far _ _ _ _ (by simp <;> omega)).trans ((World.cell?_setCell_far _ _ _ _ (by simp <;> omega)).trans h16)))
  · exact ((World.cell?_setCell_other _ _ _ _ (by simp)).trans ((World.cell?_setCell_far _ _ _ _ (by simp <;> omega)).trans ((World.cell?_setCell_far _ _ _ _ (by simp <;> omega)).trans h17)))
set_option maxHeartbeats 4000000 in
theorem w10 (w : World) (oA oB : Obj) (t : TypeId) (B : Nat) (hB : B = w.heap.size + 1 + 1) (x0 x1 x2 x3 x4 y0 y1 y2 y3 y4 q : Int) :
    Gr w ((((((w.alloc oA).alloc oB).alloc (.cells #[.int .i64 x0, .int .i64 x1, .int .i64 x2, .int .i64 x3, .int .i64 x4, .int .i64 q] t)).alloc (.cells #[.int .i64 y0, .int .i64 y1, .int .i64 y2, .int .i64 y3, .int .i64 y4, .int .i64 q] t)).alloc (.cells #[.int .i64 (x0 + y0), .int .i64 (x1 + y1), .int .i64 (x2 + y2), .int .i64 (x3 + y3), .int .i64 (x4 + y4), .int .i64 q] t)).drew.drew.drew.drew.drew.drew.drew.drew.drew.drew) ∧ (((((((w.alloc oA).alloc oB).alloc (.cells #[.int .i64 x0, .int .i64 x1, .int .i64 x2, .int .i64 x3, .int .i64 x4, .int .i64 q] t)).alloc (.cells #[.int .i64 y0, .int .i64 y1, .int .i64 y2, .int .i64 y3, .int .i64 y4, .int .i64 q] t)).alloc (.cells #[.int .i64 (x0 + y0), .int .i64 (x1 + y1), .int .i64 (x2 + y2), .int .i64 (x3 + y3), .int .i64 (x4 + y4), .int .i64 q] t)).drew.drew.drew.drew.drew.drew.drew.drew.drew.drew).cell? ⟨B, 0, none⟩ = some (.int .i64 x0) ∧ ((((((w.alloc oA).alloc oB).alloc (.cells #[.int .i64 x0, .int .i64 x1, .int .i64 x2, .int .i64 x3, .int .i64 x4, .int .i64 q] t)).alloc (.cells #[.int .i64 y0, .int .i64 y1, .int .i64 y2, .int .i64 y3, .int .i64 y4, .int .i64 q] t)).alloc (.cells #[.int .i64 (x0 + y0), .int .i64 (x1 + y1), .int .i64 (x2 + y2), .int .i64 (x3 + y3), .int .i64 (x4 + y4), .int .i64 q] t)).drew.drew.drew.drew.drew.drew.drew.drew.drew.drew).cell? ⟨B, 1, none⟩ = some (.int .i64 x1) ∧ ((((((w.alloc oA).alloc oB).alloc (.cells #[.int .i64 x0, .int .i64 x1, .int .i64 x2, .int .i64 x3, .int .i64 x4, .int .i64 q] t)).alloc (.cells #[.int .i64 y0, .int .i64 y1, .int .i64 y2, .int .i64 y3, .int .i64 y4, .int .i64 q] t)).alloc (.cells #[.int .i64 (x0 + y0), .int .i64 (x1 + y1), .int .i64 (x2 + y2), .int .i64 (x3 + y3), .int .i64 (x4 + y4), .int .i64 q] t)).drew.drew.drew.drew.drew.drew.drew.drew.drew.drew).cell? ⟨B, 2, none⟩ = some (.int .i64 x2) ∧ ((((((w.alloc oA).alloc oB).alloc (.cells #[.int .i64 x0, .int .i64 x1, .int .i64 x2, .int .i64 x3, .int .i64 x4, .int .i64 q] t)).alloc (.cells #[.int .i64 y0, .int .i64 y1, .int .i64 y2, .int .i64 y3, .int .i64 y4, .int .i64 q] t)).alloc (.cells #[.int .i64 (x0 + y0), .int .i64 (x1 + y1), .int .i64 (x2 + y2), .int .i64 (x3 + y3), .int .i64 (x4 + y4), .int .i64 q] t)).drew.drew.drew.drew.drew.drew.drew.drew.drew.drew).cell? ⟨B, 3, none⟩ = some (.int .i64 x3) ∧ ((((((w.alloc oA).alloc oB).alloc (.cells #[.int .i64 x0, .int .i64 x1, .int .i64 x2, .int .i64 x3, .int .i64 x4, .int .i64 q] t)).alloc (.cells #[.int .i64 y0, .int .i64 y1, .int .i64 y2, .int .i64 y3, .int .i64 y4, .int .i64 q] t)).alloc (.cells #[.int .i64 (x0 + y0), .int .i64 (x1 + y1), .int .i64 (x2 + y2), .int .i64 (x3 + y3), .int .i64 (x4 + y4), .int .i64 q] t)).drew.drew.drew.drew.drew.drew.drew.drew.drew.drew).cell? ⟨B, 4, none⟩ = some (.int .i64 x4) ∧ ((((((w.alloc oA).alloc oB).alloc (.cells #[.int .i64 x0, .int .i64 x1, .int .i64 x2, .int .i64 x3, .int .i64 x4, .int .i64 q] t)).alloc (.cells #[.int .i64 y0, .int .i64 y1, .int .i64 y2, .int .i64 y3, .int .i64 y4, .int .i64 q] t)).alloc (.cells #[.int .i64 (x0 + y0), .int .i64 (x1 + y1), .int .i64 (x2 + y2), .int .i64 (x3 + y3), .int .i64 (x4 + y4), .int .i64 q] t)).drew.drew.drew.drew.drew.drew.drew.drew.drew.drew).cell? ⟨B, 5, none⟩ = some (.int .i64 q) ∧ ((((((w.alloc oA).alloc oB).alloc (.cells #[.int .i64 x0, .int .i64 x1, .int .i64 x2, .int .i64 x3, .int .i64 x4, .int .i64 q] t)).alloc (.cells #[.int .i64 y0, .int .i64 y1, .int .i64 y2, .int .i64 y3, .int .i64 y4, .int .i64 q] t)).alloc (.cells #[.int .i64 (x0 + y0), .int .i64 (x1 + y1), .int .i64 (x2 + y2), .int .i64 (x3 + y3), .int .i64 (x4 + y4), .int .i64 q] t)).drew.drew.drew.drew.drew.drew.drew.drew.drew.drew).cell? ⟨B + 1, 0, none⟩ = some (.int .i64 y0) ∧ ((((((w.alloc oA).alloc oB).alloc (.cells #[.int .i64 x0, .int .i64 x1, .int .i64 x2, .int .i64 x3, .int .i64 x4, .int .i64 q] t)).alloc (.cells #[.int .i64 y0, .int .i64 y1, .int .i64 y2, .int .i64 y3, .int .i64 y4, .int .i64 q] t)).alloc (.cells #[.int .i64 (x0 + y0), .int .i64 (x1 + y1), .int .i64 (x2 + y2), .int .i64 (x3 + y3), .int .i64 (x4 + y4), .int .i64 q] t)).drew.drew.drew.drew.drew.drew.drew.drew.drew.drew).cell? ⟨B + 1, 1, none⟩ = some (.int .i64 y1) ∧ ((((((w.alloc oA).alloc oB).alloc (.cells #[.int .i64 x0, .int .i64 x1, .int .i64 x2, .int .i64 x3, .int .i64 x4, .int .i64 q] t)).alloc (.cells #[.int .i64 y0, .int .i64 y1, .int .i64 y2, .int .i64 y3, .int .i64 y4, .int .i64 q] t)).alloc (.cells #[.int .i64 (x0 + y0), .int .i64 (x1 + y1), .int .i64 (x2 + y2), .int .i64 (x3 + y3), .int .i64 (x4 + y4), .int .i64 q] t)).drew.drew.drew.drew.drew.drew.drew.drew.drew.drew).cell? ⟨B + 1, 2, none⟩ = some (.int .i64 y2) ∧ ((((((w.alloc oA).alloc oB).alloc (.cells #[.int .i64 x0, .int .i64 x1, .int .i64 x2, .int .i64 x3, .int .i64 x4, .int .i64 q] t)).alloc (.cells #[.int .i64 y0, .int .i64 y1, .int .i64 y2, .int .i64 y3, .int .i64 y4, .int .i64 q] t)).alloc (.cells #[.int .i64 (x0 + y0), .int .i64 (x1 + y1), .int .i64 (x2 + y2), .int .i64 (x3 + y3), .int .i64 (x4 + y4), .int .i64 q] t)).drew.drew.drew.drew.drew.drew.drew.drew.drew.drew).cell? ⟨B + 1, 3, none⟩ = some (.int .i64 y3) ∧ ((((((w.alloc oA).alloc oB).alloc (.cells #[.int .i64 x0, .int .i64 x1, .int .i64 x2, .int .i64 x3, .int .i64 x4, .int .i64 q] t)).alloc (.cells #[.int .i64 y0, .int .i64 y1, .int .i64 y2, .int .i64 y3, .int .i64 y4, .int .i64 q] t)).alloc (.cells #[.int .i64 (x0 + y0), .int .i64 (x1 + y1), .int .i64 (x2 + y2), .int .i64 (x3 + y3), .int .i64 (x4 + y4), .int .i64 q] t)).drew.drew.drew.drew.drew.drew.drew.drew.drew.drew).cell? ⟨B + 1, 4, none⟩ = some (.int .i64 y4) ∧ ((((((w.alloc oA).alloc oB).alloc (.cells #[.int .i64 x0, .int .i64 x1, .int .i64 x2, .int .i64 x3, .int .i64 x4, .int .i64 q] t)).alloc (.cells #[.int .i64 y0, .int .i64 y1, .int .i64 y2, .int .i64 y3, .int .i64 y4, .int .i64 q] t)).alloc (.cells #[.int .i64 (x0 + y0), .int .i64 (x1 + y1), .int .i64 (x2 + y2), .int .i64 (x3 + y3), .int .i64 (x4 + y4), .int .i64 q] t)).drew.drew.drew.drew.drew.drew.drew.drew.drew.drew).cell? ⟨B + 1, 5, none⟩ = some (.int .i64 q) ∧ ((((((w.alloc oA).alloc oB).alloc (.cells #[.int .i64 x0, .int .i64 x1, .int .i64 x2, .int .i64 x3, .int .i64 x4, .int .i64 q] t)).alloc (.cells #[.int .i64 y0, .int .i64 y1, .int .i64 y2, .int .i64 y3, .int .i64 y4, .int .i64 q] t)).alloc (.cells #[.int .i64 (x0 + y0), .int .i64 (x1 + y1), .int .i64 (x2 + y2), .int .i64 (x3 + y3), .int .i64 (x4 + y4), .int .i64 q] t)).drew.drew.drew.drew.drew.drew.drew.drew.drew.drew).cell? ⟨B + 1 + 1, 0, none⟩ = some (.int .i64 (x0 + y0)) ∧ ((((((w.alloc oA).alloc oB).alloc (.cells #[.int .i64 x0, .int .i64 x1, .int .i64 x2, .int .i64 x3, .int .i64 x4, .int .i64 q] t)).alloc (.cells #[.int .i64 y0, .int .i64 y1, .int .i64 y2, .int .i64 y3, .int .i64 y4, .int .i64 q] t)).alloc (.cells #[.int .i64 (x0 + y0), .int .i64 (x1 + y1), .int .i64 (x2 + y2), .int .i64 (x3 + y3), .int .i64 (x4 + y4), .int .i64 q] t)).drew.drew.drew.drew.drew.drew.drew.drew.drew.drew).cell? ⟨B + 1 + 1, 1, none⟩ = some (.int .i64 (x1 + y1)) ∧ ((((((w.alloc oA).alloc oB).alloc (.cells #[.int .i64 x0, .int .i64 x1, .int .i64 x2, .int .i64 x3, .int .i64 x4, .int .i64 q] t)).alloc (.cells #[.int .i64 y0, .int .i64 y1, .int .i64 y2, .int .i64 y3, .int .i64 y4, .int .i64 q] t)).alloc (.cells #[.int .i64 (x0 + y0), .int .i64 (x1 + y1), .int .i64 (x2 + y2), .int .i64 (x3 + y3), .int .i64 (x4 + y4), .int .i64 q] t)).drew.drew.drew.drew.drew.drew.drew.drew.drew.drew).cell? ⟨B + 1 + 1, 2, none⟩ = some (.int .i64 (x2 + y2)) ∧ ((((((w.alloc oA).alloc oB).alloc (.cells #[.int .i64 x0, .int .i64 x1, .int .i64 x2, .int .i64 x3, .int .i64 x4, .int .i64 q] t)).alloc (.cells #[.int .i64 y0, .int .i64 y1, .int .i64 y2, .int .i64 y3, .int .i64 y4, .int .i64 q] t)).alloc (.cells #[.int .i64 (x0 + y0), .int .i64 (x1 + y1), .int .i64 (x2 + y2), .int .i64 (x3 + y3), .int .i64 (x4 + y4), .int .i64 q] t)).drew.drew.drew.drew.drew.drew.drew.drew.drew.drew).cell? ⟨B + 1 + 1, 3, none⟩ = some (.int .i64 (x3 + y3)) ∧ ((((((w.alloc oA).alloc oB).alloc (.cells #[.int .i64 x0, .int .i64 x1, .int .i64 x2, .int .i64 x3, .int .i64 x4, .int .i64 q] t)).alloc (.cells #[.int .i64 y0, .int .i64 y1, .int .i64 y2, .int .i64 y3, .int .i64 y4, .int .i64 q] t)).alloc (.cells #[.int .i64 (x0 + y0), .int .i64 (x1 + y1), .int .i64 (x2 + y2), .int .i64 (x3 + y3), .int .i64 (x4 + y4), .int .i64 q] t)).drew.drew.drew.drew.drew.drew.drew.drew.drew.drew).cell? ⟨B + 1 + 1, 4, none⟩ = some (.int .i64 (x4 + y4)) ∧ ((((((w.alloc oA).alloc oB).alloc (.cells #[.int .i64 x0, .int .i64 x1, .int .i64 x2, .int .i64 x3, .int .i64 x4, .int .i64 q] t)).alloc (.cells #[.int .i64 y0, .int .i64 y1, .int .i64 y2, .int .i64 y3, .int .i64 y4, .int .i64 q] t)).alloc (.cells #[.int .i64 (x0 + y0), .int .i64 (x1 + y1), .int .i64 (x2 + y2), .int .i64 (x3 + y3), .int .i64 (x4 + y4), .int .i64 q] t)).drew.drew.drew.drew.drew.drew.drew.drew.drew.drew).cell? ⟨B + 1 + 1, 5, none⟩ = some (.int .i64 q)) ∧ ((((((w.alloc oA).alloc oB).alloc (.cells #[.int .i64 x0, .int .i64 x1, .int .i64 x2, .int .i64 x3, .int .i64 x4, .int .i64 q] t)).alloc (.cells #[.int .i64 y0, .int .i64 y1, .int .i64 y2, .int .i64 y3, .int .i64 y4, .int .i64 q] t)).alloc (.cells #[.int .i64 (x0 + y0), .int .i64 (x1 + y1), .int .i64 (x2 + y2), .int .i64 (x3 + y3), .int .i64 (x4 + y4), .int .i64 q] t)).drew.drew.drew.drew.drew.drew.drew.drew.drew.drew).frozen? ⟨B, 0, none⟩ = false ∧ ((((((w.alloc oA).alloc oB).alloc (.cells #[.int .i64 x0, .int .i64 x1, .int .i64 x2, .int .i64 x3, .int .i64 x4, .int .i64 q] t)).alloc (.cells #[.int .i64 y0, .int .i64 y1, .int .i64 y2, .int .i64 y3, .int .i64 y4, .int .i64 q] t)).alloc (.cells #[.int .i64 (x0 + y0), .int .i64 (x1 + y1), .int .i64 (x2 + y2), .int .i64 (x3 + y3), .int .i64 (x4 + y4), .int .i64 q] t)).drew.drew.drew.drew.drew.drew.drew.drew.drew.drew).frozen? ⟨B + 1, 0, none⟩ = false ∧ ((((((w.alloc oA).alloc oB).alloc (.cells #[.int .i64 x0, .int .i64 x1, .int .i64 x2, .int .i64 x3, .int .i64 x4, .int .i64 q] t)).alloc (.cells #[.int .i64 y0, .int .i64 y1, .int .i64 y2, .int .i64 y3, .int .i64 y4, .int .i64 q] t)).alloc (.cells #[.int .i64 (x0 + y0), .int .i64 (x1 + y1), .int .i64 (x2 + y2), .int .i64 (x3 + y3), .int .i64 (x4 + y4), .int .i64 q] t)).drew.drew.drew.drew.drew.drew.drew.drew.drew.drew).frozen? ⟨B + 1 + 1, 0, none⟩ = false := by
  subst hB
  refine ⟨by (repeat' (first | with_reducible assumption | exact Gr.refl _ | (refine Gr.drew ?_) | (refine Gr.drewN ?_ _) | (refine Gr.alloc ?_ _))), ⟨?_, ?_, ?_, ?_, ?_, ?_, ?_, ?_, ?_, ?_, ?_, ?_, ?_, ?_, ?_, ?_, ?_, ?_⟩, ?_, ?_, ?_⟩
  all_goals go_simp
theorem sums (x0 x1 x2 x3 x4 y0 y1 y2 y3 y4 q : Int) (x00 : 0 ≤ x0) (x01 : x0 ≤ 63) (x10 : 0 ≤ x1) (x11 : x1 ≤ 63) (x20 : 0 ≤ x2) (x21 : x2 ≤ 63) (x30 : 0 ≤ x3) (x31 : x3 ≤ 63) (x40 : 0 ≤ x4) (x41 : x4 ≤ 63) (y00 : 0 ≤ y0) (y01 : y0 ≤ 63) (y10 : 0 ≤ y1) (y11 : y1 ≤ 63) (y20 : 0 ≤ y2) (y21 : y2 ≤ 63) (y30 : 0 ≤ y3) (y31 : y3 ≤ 63) (y40 : 0 ≤ y4) (y41 : y4 ≤ 63) (q0 : 1 ≤ q) (q1 : q ≤ 16) : rt (x0 + 1) x1 x2 x3 x4 q = 0 ∧ rt (x0 + y0 + 2) (x1 + y1) (x2 + y2) (x3 + y3) (x4 + y4) q = 0 ∧ tot (x0 + 1) x1 x2 x3 x4 q = (x0 + 1) * 4 + x1 * 8 + x2 * 16 + x3 * 32 + x4 * 64 ∧ tot (y0 + 1) y1 y2 y3 y4 q = (y0 + 1) * 4 + y1 * 8 + y2 * 16 + y3 * 32 + y4 * 64 ∧ tot (x0 + y0 + 2) (x1 + y1) (x2 + y2) (x3 + y3) (x4 + y4) q = (x0 + 1) * 4 + x1 * 8 + x2 * 16 + x3 * 32 + x4 * 64 + ((y0 + 1) * 4 + y1 * 8 + y2 * 16 + y3 * 32 + y4 * 64) := by
  have rX : rt (x0 + 1) x1 x2 x3 x4 q = 0 := (rt_zero _ _ _ _ _ _).2 (by omega)
  have rY : rt (y0 + 1) y1 y2 y3 y4 q = 0 := (rt_zero _ _ _ _ _ _).2 (by omega)
  have rZ : rt (x0 + y0 + 2) (x1 + y1) (x2 + y2) (x3 + y3) (x4 + y4) q = 0 := (rt_zero _ _ _ _ _ _).2 (by omega)
  exact ⟨rX, rZ, if_pos rX, if_pos rY, (if_pos rZ).trans (by omega)⟩
set_option maxHeartbeats 16000000 in
set_option maxRecDepth 100000 in
theorem reg9tail (x0 x1 x2 x3 x4 y0 y1 y2 y3 y4 q : Int) (x00 : 0 ≤ x0) (x01 : x0 ≤ 63) (x10 : 0 ≤ x1) (x11 : x1 ≤ 63) (x20 : 0 ≤ x2) (x21 : x2 ≤ 63) (x30 : 0 ≤ x3) (x31 : x3 ≤ 63) (x40 : 0 ≤ x4) (x41 : x4 ≤ 63) (y00 : 0 ≤ y0) (y01 : y0 ≤ 63) (y10 : 0 ≤ y1) (y11 : y1 ≤ 63) (y20 : 0 ≤ y2) (y21 : y2 ≤ 63) (y30 : 0 ≤ y3) (y31 : y3 ≤ 63) (y40 : 0 ≤ y4) (y41 : y4 ≤ 63) (q0 : 1 ≤ q) (q1 : q ≤ 16) (B : Nat) (w wq : World) (hB : w.heap.size ≤ B) (hq : Gr w wq ∧ (wq.cell? ⟨B, 0, none⟩ = some (.int .i64 x0) ∧ wq.cell? ⟨B, 1, none⟩ = some (.int .i64 x1) ∧ wq.cell? ⟨B, 2, none⟩ = some (.int .i64 x2) ∧ wq.cell? ⟨B, 3, none⟩ = some (.int .i64 x3) ∧ wq.cell? ⟨B, 4, none⟩ = some (.int .i64 x4) ∧ wq.cell? ⟨B, 5, none⟩ = some (.int .i64 q) ∧ wq.cell? ⟨B + 1, 0, none⟩ = some (.int .i64 y0) ∧ wq.cell? ⟨B + 1, 1, none⟩ = some (.int .i64 y1) ∧ wq.cell? ⟨B + 1, 2, none⟩ = some (.int .i64 y2) ∧ wq.cell? ⟨B + 1, 3, none⟩ = some (.int .i64 y3) ∧ wq.cell? ⟨B + 1, 4, none⟩ = some (.int .i64 y4) ∧ wq.cell? ⟨B + 1, 5, none⟩ = some (.int .i64 q) ∧ wq.cell? ⟨B + 1 + 1, 0, none⟩ = some (.int .i64 (x0 + y0)) ∧ wq.cell? ⟨B + 1 + 1, 1, none⟩ = some (.int .i64 (x1 + y1)) ∧ wq.cell? ⟨B + 1 + 1, 2, none⟩ = some (.int .i64 (x2 + y2)) ∧ wq.cell? ⟨B + 1 + 1, 3, none⟩ = some (.int .i64 (x3 + y3)) ∧ wq.cell? ⟨B + 1 + 1, 4, none⟩ = some (.int .i64 (x4 + y4)) ∧ wq.cell? ⟨B + 1 + 1, 5, none⟩ = some (.int .i64 q)) ∧ wq.frozen? ⟨B, 0, none⟩ = false ∧ wq.frozen? ⟨B + 1, 0, none⟩ = false ∧ wq.frozen? ⟨B + 1 + 1, 0, none⟩ = false)
    (v0 v1 v2 v3 v4 v5 v10 v11 v12 v13 v14 v15 v16 v17 v18 v19 v20 v21 v22 v23 v24 v25 v26 v27 v28 v29 v30 v31 v32 v33 v34 v35 v36 v37 v38 v39 v40 v41 v42 v43 v44 v45 v46 v47 v48 v49 v50 v51 v52 v53 v54 v55 : Value) (K : Act → World → Prop)
    (hk : ∀ a w', Code.wp Try.prog ((Code.region 10
                    #[{ dst := some 11, op := Op.assign (Operand.const (Value.int IntKind.i64 0)), type := 3,
                        pos := "law.go:72", after := #[], guard := none }]
                    false).seq
                (((Code.region 11
                          #[{ dst := some 74, op := Op.fieldAddr 24 (Operand.tmp 7) 0, type := 0, pos := "law.go:73",
                              after := #[], guard := none },
                            { dst := some 75, op := Op.load 22 (Operand.tmp 74), type := 22, pos := "law.go:73",
                              after := #[{ on := 0, ground := Ground.data }], guard := none },
                            { dst := some 76, op := Op.move (Operand.const (Value.int IntKind.i64 0)), type := 3,
                              pos := "law.go:73", after := #[], guard := none }]
                          false).seq
                      (Code.block 2
                        ((Code.region 12
                                #[{ dst := some 77,
                                    op :=
                                      Op.binOp BinOp.lss 3 (Operand.tmp 76) (Operand.const (Value.int IntKind.i64 5)) 3,
                                    type := 0, pos := "law.go:73", after := #[], guard := none }]
                                false).seq
                            ((Code.cond (Operand.tmp 77) Code.skip (Code.exit 2)).seq
                              ((Code.block 3
                                    ((Code.region 13
                                          #[{ dst := some 78, op := Op.move (Operand.tmp 76), type := 3,
                                              pos := "law.go:73", after := #[], guard := none },
                                            { dst := some 79, op := Op.index 22 (Operand.tmp 75) (Operand.tmp 76),
                                              type := 3, pos := "law.go:73", after := #[], guard := none },
                                            { dst := some 12, op := Op.assign (Operand.tmp 78), type := 3,
                                              pos := "law.go:73",
                                              after :=
                                                #[{ on := 0, ground := Ground.data },
                                                  { on := 0, ground := Ground.phase },
                                                  { on := 1, ground := Ground.phase }],
                                              guard := none },
                                            { dst := some 13, op := Op.assign (Operand.tmp 79), type := 3,
                                              pos := "law.go:73",
                                              after :=
                                                #[{ on := 1, ground := Ground.data },
                                                  { on := 2, ground := Ground.chain },
                                                  { on := 0, ground := Ground.phase },
                                                  { on := 1, ground := Ground.phase },
                                                  { on := 2, ground := Ground.phase }],
                                              guard := none }]
                                          false).seq
                                      (Code.region 14
                                        #[{ dst := some 80, op := Op.move (Operand.tmp 11), type := 3,
                                            pos := "law.go:74", after := #[], guard := none },
                                          { dst := some 81, op := Op.move (Operand.tmp 13), type := 3,
                                            pos := "law.go:74", after := #[], guard := none },
                                          { dst := some 82, op := Op.move (Operand.tmp 12), type := 3,
                                            pos := "law.go:74", after := #[], guard := none },
                                          { dst := some 83,
                                            op :=
                                              Op.call
                                                { callee := Callee.value (Operand.func 12), args := #[Operand.tmp 82],
                                                  argTypes := #[3] },
                                            type := 3, pos := "law.go:74",
                                            after := #[{ on := 2, ground := Ground.data }], guard := none },
                                          { dst := some 84,
                                            op := Op.binOp BinOp.mul 3 (Operand.tmp 81) (Operand.tmp 83) 3, type := 3,
                                            pos := "law.go:74",
                                            after :=
                                              #[{ on := 1, ground := Ground.data }, { on := 3, ground := Ground.data }],
                                            guard := none },
                                          { dst := some 85,
                                            op := Op.binOp BinOp.add 3 (Operand.tmp 80) (Operand.tmp 84) 3, type := 3,
                                            pos := "law.go:74",
                                            after :=
                                              #[{ on := 0, ground := Ground.data }, { on := 4, ground := Ground.data }],
                                            guard := none },
                                          { dst := some 11, op := Op.assign (Operand.tmp 85), type := 3,
                                            pos := "law.go:74",
                                            after :=
                                              #[{ on := 5, ground := Ground.data }, { on := 3, ground := Ground.chain },
                                                { on := 0, ground := Ground.phase },
                                                { on := 1, ground := Ground.phase },
                                                { on := 2, ground := Ground.phase },
                                                { on := 3, ground := Ground.phase },
                                                { on := 4, ground := Ground.phase },
                                                { on := 5, ground := Ground.phase }],
                                            guard := none }]
                                        false))).seq
                                (Code.region 15
                                  #[{ dst := some 86,
                                      op :=
                                        Op.binOp BinOp.add 3 (Operand.tmp 76) (Operand.const (Value.int IntKind.i64 1)) 3,
                                      type := 3, pos := "law.go:73", after := #[], guard := none },
                                    { dst := some 76, op := Op.move (Operand.tmp 86), type := 3, pos := "law.go:73",
                                      after := #[{ on := 0, ground := Ground.data }], guard := none }]
                                  false)))).loop)).seq
                  ((Code.region 16
                        #[{ dst := some 87, op := Op.load 24 (Operand.tmp 7), type := 24, pos := "law.go:76",
                            after := #[], guard := none },
                          { dst := some 88,
                            op :=
                              Op.call
                                { callee := Callee.value (Operand.func 13), args := #[Operand.tmp 87],
                                  argTypes := #[24] },
                            type := 31, pos := "law.go:76", after := #[{ on := 0, ground := Ground.data }],
                            guard := none },
                          { dst := some 89,
                            op := Op.binOp BinOp.eql 31 (Operand.tmp 88) (Operand.const (Value.int IntKind.i64 0)) 31,
                            type := 4, pos := "law.go:76", after := #[{ on := 1, ground := Ground.data }],
                            guard := none },
                          { dst := some 90, op := Op.move (Operand.tmp 89), type := 4, pos := "law.go:76",
                            after := #[{ on := 2, ground := Ground.data }, { on := 1, ground := Ground.chain }],
                            guard := none },
                          { dst := some 91, op := Op.load 24 (Operand.tmp 9), type := 24, pos := "law.go:76",
                            after := #[{ on := 3, ground := Ground.guard }], guard := some (3, true) },
                          { dst := some 92,
                            op :=
                              Op.call
                                { callee := Callee.value (Operand.func 13), args := #[Operand.tmp 91],
                                  argTypes := #[24] },
                            type := 31, pos := "law.go:76",
                            after :=
                              #[{ on := 4, ground := Ground.data }, { on := 3, ground := Ground.chain },
                                { on := 3, ground := Ground.guard }],
                            guard := some (3, true) },
                          { dst := some 93,
                            op := Op.binOp BinOp.eql 31 (Operand.tmp 92) (Operand.const (Value.int IntKind.i64 0)) 31,
                            type := 4, pos := "law.go:76",
                            after := #[{ on := 5, ground := Ground.data }, { on := 3, ground := Ground.guard }],
                            guard := some (3, true) },
                          { dst := some 94,
                            op := Op.pick (Operand.tmp 90) (Operand.tmp 93) (Operand.const (Value.bool false)),
                            type := 4, pos := "law.go:76",
                            after := #[{ on := 3, ground := Ground.data }, { on := 6, ground := Ground.data }],
                            guard := none },
                          { dst := some 95, op := Op.move (Operand.tmp 94), type := 4, pos := "law.go:76",
                            after := #[{ on := 7, ground := Ground.data }, { on := 5, ground := Ground.chain }],
                            guard := none },
                          { dst := some 96, op := Op.load 24 (Operand.tmp 7), type := 24, pos := "law.go:76",
                            after := #[{ on := 8, ground := Ground.guard }], guard := some (8, true) },
                          { dst := some 97,
                            op :=
                              Op.call
                                { callee := Callee.value (Operand.func 14), args := #[Operand.tmp 96],
                                  argTypes := #[24] },
                            type := 3, pos := "law.go:76",
                            after :=
                              #[{ on := 9, ground := Ground.data }, { on := 8, ground := Ground.chain },
                                { on := 8, ground := Ground.guard }],
                            guard := some (8, true) },
                          { dst := some 98, op := Op.move (Operand.tmp 11), type := 3, pos := "law.go:76",
                            after := #[{ on := 8, ground := Ground.guard }], guard := some (8, true) },
                          { dst := some 99, op := Op.binOp BinOp.eql 3 (Operand.tmp 97) (Operand.tmp 98) 3, type := 4,
                            pos := "law.go:76",
                            after :=
                              #[{ on := 10, ground := Ground.data }, { on := 11, ground := Ground.data },
                                { on := 8, ground := Ground.guard }],
                            guard := some (8, true) },
                          { dst := some 100,
                            op := Op.pick (Operand.tmp 95) (Operand.tmp 99) (Operand.const (Value.bool false)),
                            type := 4, pos := "law.go:76",
                            after := #[{ on := 8, ground := Ground.data }, { on := 12, ground := Ground.data }],
                            guard := none },
                          { dst := some 101, op := Op.move (Operand.tmp 100), type := 4, pos := "law.go:76",
                            after := #[{ on := 13, ground := Ground.data }, { on := 10, ground := Ground.chain }],
                            guard := none },
                          { dst := some 102, op := Op.load 24 (Operand.tmp 9), type := 24, pos := "law.go:76",
                            after := #[{ on := 14, ground := Ground.guard }], guard := some (14, true) },
                          { dst := some 103,
                            op :=
                              Op.call
                                { callee := Callee.value (Operand.func 14), args := #[Operand.tmp 102],
                                  argTypes := #[24] },
                            type := 3, pos := "law.go:76",
                            after :=
                              #[{ on := 15, ground := Ground.data }, { on := 14, ground := Ground.chain },
                                { on := 14, ground := Ground.guard }],
                            guard := some (14, true) },
                          { dst := some 104, op := Op.load 24 (Operand.tmp 7), type := 24, pos := "law.go:76",
                            after := #[{ on := 14, ground := Ground.guard }], guard := some (14, true) },
                          { dst := some 105,
                            op :=
                              Op.call
                                { callee := Callee.value (Operand.func 14), args := #[Operand.tmp 104],
                                  argTypes := #[24] },
                            type := 3, pos := "law.go:76",
                            after :=
                              #[{ on := 17, ground := Ground.data }, { on := 16, ground := Ground.chain },
                                { on := 14, ground := Ground.guard }],
                            guard := some (14, true) },
                          { dst := some 106, op := Op.load 24 (Operand.tmp 8), type := 24, pos := "law.go:76",
                            after := #[{ on := 14, ground := Ground.guard }], guard := some (14, true) },
                          { dst := some 107,
                            op :=
                              Op.call
                                { callee := Callee.value (Operand.func 14), args := #[Operand.tmp 106],
                                  argTypes := #[24] },
                            type := 3, pos := "law.go:76",
                            after :=
                              #[{ on := 19, ground := Ground.data }, { on := 18, ground := Ground.chain },
                                { on := 14, ground := Ground.guard }],
                            guard := some (14, true) },
                          { dst := some 108, op := Op.binOp BinOp.add 3 (Operand.tmp 105) (Operand.tmp 107) 3,
                            type := 3, pos := "law.go:76",
                            after :=
                              #[{ on := 18, ground := Ground.data }, { on := 20, ground := Ground.data },
                                { on := 14, ground := Ground.guard }],
                            guard := some (14, true) },
                          { dst := some 109, op := Op.binOp BinOp.eql 3 (Operand.tmp 103) (Operand.tmp 108) 3,
                            type := 4, pos := "law.go:76",
                            after :=
                              #[{ on := 16, ground := Ground.data }, { on := 21, ground := Ground.data },
                                { on := 14, ground := Ground.guard }],
                            guard := some (14, true) },
                          { dst := some 110,
                            op := Op.pick (Operand.tmp 101) (Operand.tmp 109) (Operand.const (Value.bool false)),
                            type := 4, pos := "law.go:76",
                            after := #[{ on := 14, ground := Ground.data }, { on := 22, ground := Ground.data }],
                            guard := none },
                          { dst := some 111, op := Op.move (Operand.tmp 110), type := 4, pos := "law.go:76",
                            after := #[{ on := 23, ground := Ground.data }, { on := 20, ground := Ground.chain }],
                            guard := none },
                          { dst := some 112,
                            op := Op.call { callee := Callee.value (Operand.func 9), args := #[], argTypes := #[] },
                            type := 4, pos := "law.go:76",
                            after := #[{ on := 24, ground := Ground.chain }, { on := 24, ground := Ground.guard }],
                            guard := some (24, true) },
                          { dst := some 113,
                            op := Op.pick (Operand.tmp 111) (Operand.tmp 112) (Operand.const (Value.bool false)),
                            type := 4, pos := "law.go:76",
                            after := #[{ on := 24, ground := Ground.data }, { on := 25, ground := Ground.data }],
                            guard := none },
                          { dst := some 6, op := Op.assign (Operand.tmp 113), type := 4, pos := "law.go:76",
                            after :=
                              #[{ on := 26, ground := Ground.data }, { on := 25, ground := Ground.chain },
                                { on := 0, ground := Ground.phase }, { on := 1, ground := Ground.phase },
                                { on := 2, ground := Ground.phase }, { on := 3, ground := Ground.phase },
                                { on := 4, ground := Ground.phase }, { on := 5, ground := Ground.phase },
                                { on := 6, ground := Ground.phase }, { on := 7, ground := Ground.phase },
                                { on := 8, ground := Ground.phase }, { on := 9, ground := Ground.phase },
                                { on := 10, ground := Ground.phase }, { on := 11, ground := Ground.phase },
                                { on := 12, ground := Ground.phase }, { on := 13, ground := Ground.phase },
                                { on := 14, ground := Ground.phase }, { on := 15, ground := Ground.phase },
                                { on := 16, ground := Ground.phase }, { on := 17, ground := Ground.phase },
                                { on := 18, ground := Ground.phase }, { on := 19, ground := Ground.phase },
                                { on := 20, ground := Ground.phase }, { on := 21, ground := Ground.phase },
                                { on := 22, ground := Ground.phase }, { on := 23, ground := Ground.phase },
                                { on := 24, ground := Ground.phase }, { on := 25, ground := Ground.phase },
                                { on := 26, ground := Ground.phase }],
                            guard := none }]
                        true).seq
                    Code.ret))) (bodyPost Try.prog Try.f6 fun e w' => e = .returned (.bool true) ∧ Gr w w') a w' → K a w') :
    Code.wp Try.prog (Code.region 9
                  #[{ dst := some 56, op := Op.fieldAddr 24 (Operand.tmp 7) 0, type := 0, pos := "law.go:71",
                      after := #[], guard := none },
                    { dst := some 57, op := Op.indexAddr 22 (Operand.tmp 56) (Operand.const (Value.int IntKind.i64 0)),
                      type := 0, pos := "law.go:71", after := #[{ on := 0, ground := Ground.data }], guard := none },
                    { dst := some 58, op := Op.load 3 (Operand.tmp 57), type := 3, pos := "law.go:71",
                      after := #[{ on := 1, ground := Ground.data }], guard := none },
                    { dst := some 59,
                      op := Op.binOp BinOp.add 3 (Operand.tmp 58) (Operand.const (Value.int IntKind.i64 1)) 3,
                      type := 3, pos := "law.go:71", after := #[{ on := 2, ground := Ground.data }], guard := none },
                    { dst := some 60, op := Op.fieldAddr 24 (Operand.tmp 8) 0, type := 0, pos := "law.go:71",
                      after := #[{ on := 14, ground := Ground.gcOnly Departure.lateStores }], guard := none },
                    { dst := some 61, op := Op.indexAddr 22 (Operand.tmp 60) (Operand.const (Value.int IntKind.i64 0)),
                      type := 0, pos := "law.go:71",
                      after :=
                        #[{ on := 4, ground := Ground.data },
                          { on := 14, ground := Ground.gcOnly Departure.lateStores }],
                      guard := none },
                    { dst := some 62, op := Op.load 3 (Operand.tmp 61), type := 3, pos := "law.go:71",
                      after :=
                        #[{ on := 5, ground := Ground.data },
                          { on := 14, ground := Ground.gcOnly Departure.lateStores }],
                      guard := none },
                    { dst := some 63,
                      op := Op.binOp BinOp.add 3 (Operand.tmp 62) (Operand.const (Value.int IntKind.i64 1)) 3,
                      type := 3, pos := "law.go:71",
                      after :=
                        #[{ on := 6, ground := Ground.data },
                          { on := 14, ground := Ground.gcOnly Departure.lateStores }],
                      guard := none },
                    { dst := some 64, op := Op.fieldAddr 24 (Operand.tmp 9) 0, type := 0, pos := "law.go:71",
                      after := #[{ on := 17, ground := Ground.gcOnly Departure.lateStores }], guard := none },
                    { dst := some 65, op := Op.indexAddr 22 (Operand.tmp 64) (Operand.const (Value.int IntKind.i64 0)),
                      type := 0, pos := "law.go:71",
                      after :=
                        #[{ on := 8, ground := Ground.data },
                          { on := 17, ground := Ground.gcOnly Departure.lateStores }],
                      guard := none },
                    { dst := some 66, op := Op.load 3 (Operand.tmp 65), type := 3, pos := "law.go:71",
                      after :=
                        #[{ on := 9, ground := Ground.data },
                          { on := 17, ground := Ground.gcOnly Departure.lateStores }],
                      guard := none },
                    { dst := some 67,
                      op := Op.binOp BinOp.add 3 (Operand.tmp 66) (Operand.const (Value.int IntKind.i64 2)) 3,
                      type := 3, pos := "law.go:71",
                      after :=
                        #[{ on := 10, ground := Ground.data },
                          { on := 17, ground := Ground.gcOnly Departure.lateStores }],
                      guard := none },
                    { dst := some 68, op := Op.fieldAddr 24 (Operand.tmp 7) 0, type := 0, pos := "law.go:71",
                      after := #[], guard := none },
                    { dst := some 69, op := Op.indexAddr 22 (Operand.tmp 68) (Operand.const (Value.int IntKind.i64 0)),
                      type := 0, pos := "law.go:71",
                      after :=
                        #[{ on := 12, ground := Ground.data }, { on := 0, ground := Ground.phase },
                          { on := 1, ground := Ground.phase }, { on := 2, ground := Ground.phase },
                          { on := 3, ground := Ground.phase },
                          { on := 4, ground := Ground.textOnly Departure.lateStores },
                          { on := 5, ground := Ground.textOnly Departure.lateStores },
                          { on := 6, ground := Ground.textOnly Departure.lateStores },
                          { on := 7, ground := Ground.textOnly Departure.lateStores },
                          { on := 8, ground := Ground.textOnly Departure.lateStores },
                          { on := 9, ground := Ground.textOnly Departure.lateStores },
                          { on := 10, ground := Ground.textOnly Departure.lateStores },
                          { on := 11, ground := Ground.textOnly Departure.lateStores }],
                      guard := none },
                    { dst := none, op := Op.store 3 (Operand.tmp 69) (Operand.tmp 59), type := 0, pos := "law.go:71",
                      after :=
                        #[{ on := 13, ground := Ground.data }, { on := 3, ground := Ground.data },
                          { on := 0, ground := Ground.phase }, { on := 1, ground := Ground.phase },
                          { on := 2, ground := Ground.phase }, { on := 3, ground := Ground.phase },
                          { on := 4, ground := Ground.textOnly Departure.lateStores },
                          { on := 5, ground := Ground.textOnly Departure.lateStores },
                          { on := 6, ground := Ground.textOnly Departure.lateStores },
                          { on := 7, ground := Ground.textOnly Departure.lateStores },
                          { on := 8, ground := Ground.textOnly Departure.lateStores },
                          { on := 9, ground := Ground.textOnly Departure.lateStores },
                          { on := 10, ground := Ground.textOnly Departure.lateStores },
                          { on := 11, ground := Ground.textOnly Departure.lateStores }],
                      guard := none },
                    { dst := some 70, op := Op.fieldAddr 24 (Operand.tmp 8) 0, type := 0, pos := "law.go:71",
                      after := #[], guard := none },
                    { dst := some 71, op := Op.indexAddr 22 (Operand.tmp 70) (Operand.const (Value.int IntKind.i64 0)),
                      type := 0, pos := "law.go:71",
                      after :=
                        #[{ on := 15, ground := Ground.data }, { on := 0, ground := Ground.phase },
                          { on := 1, ground := Ground.phase }, { on := 2, ground := Ground.phase },
                          { on := 3, ground := Ground.phase }, { on := 4, ground := Ground.phase },
                          { on := 5, ground := Ground.phase }, { on := 6, ground := Ground.phase },
                          { on := 7, ground := Ground.phase },
                          { on := 8, ground := Ground.textOnly Departure.lateStores },
                          { on := 9, ground := Ground.textOnly Departure.lateStores },
                          { on := 10, ground := Ground.textOnly Departure.lateStores },
                          { on := 11, ground := Ground.textOnly Departure.lateStores },
                          { on := 12, ground := Ground.phase }, { on := 13, ground := Ground.phase },
                          { on := 14, ground := Ground.phase }],
                      guard := none },
                    { dst := none, op := Op.store 3 (Operand.tmp 71) (Operand.tmp 63), type := 0, pos := "law.go:71",
                      after :=
                        #[{ on := 16, ground := Ground.data }, { on := 7, ground := Ground.data },
                          { on := 14, ground := Ground.chain }, { on := 0, ground := Ground.phase },
                          { on := 1, ground := Ground.phase }, { on := 2, ground := Ground.phase },
                          { on := 3, ground := Ground.phase }, { on := 4, ground := Ground.phase },
                          { on := 5, ground := Ground.phase }, { on := 6, ground := Ground.phase },
                          { on := 7, ground := Ground.phase },
                          { on := 8, ground := Ground.textOnly Departure.lateStores },
                          { on := 9, ground := Ground.textOnly Departure.lateStores },
                          { on := 10, ground := Ground.textOnly Departure.lateStores },
                          { on := 11, ground := Ground.textOnly Departure.lateStores },
                          { on := 12, ground := Ground.phase }, { on := 13, ground := Ground.phase },
                          { on := 14, ground := Ground.phase }],
                      guard := none },
                    { dst := some 72, op := Op.fieldAddr 24 (Operand.tmp 9) 0, type := 0, pos := "law.go:71",
                      after := #[], guard := none },
                    { dst := some 73, op := Op.indexAddr 22 (Operand.tmp 72) (Operand.const (Value.int IntKind.i64 0)),
                      type := 0, pos := "law.go:71",
                      after :=
                        #[{ on := 18, ground := Ground.data }, { on := 0, ground := Ground.phase },
                          { on := 1, ground := Ground.phase }, { on := 2, ground := Ground.phase },
                          { on := 3, ground := Ground.phase }, { on := 4, ground := Ground.phase },
                          { on := 5, ground := Ground.phase }, { on := 6, ground := Ground.phase },
                          { on := 7, ground := Ground.phase }, { on := 8, ground := Ground.phase },
                          { on := 9, ground := Ground.phase }, { on := 10, ground := Ground.phase },
                          { on := 11, ground := Ground.phase }, { on := 12, ground := Ground.phase },
                          { on := 13, ground := Ground.phase }, { on := 14, ground := Ground.phase },
                          { on := 15, ground := Ground.phase }, { on := 16, ground := Ground.phase },
                          { on := 17, ground := Ground.phase }],
                      guard := none },
                    { dst := none, op := Op.store 3 (Operand.tmp 73) (Operand.tmp 67), type := 0, pos := "law.go:71",
                      after :=
                        #[{ on := 19, ground := Ground.data }, { on := 11, ground := Ground.data },
                          { on := 17, ground := Ground.chain }, { on := 0, ground := Ground.phase },
                          { on := 1, ground := Ground.phase }, { on := 2, ground := Ground.phase },
                          { on := 3, ground := Ground.phase }, { on := 4, ground := Ground.phase },
                          { on := 5, ground := Ground.phase }, { on := 6, ground := Ground.phase },
                          { on := 7, ground := Ground.phase }, { on := 8, ground := Ground.phase },
                          { on := 9, ground := Ground.phase }, { on := 10, ground := Ground.phase },
                          { on := 11, ground := Ground.phase }, { on := 12, ground := Ground.phase },
                          { on := 13, ground := Ground.phase }, { on := 14, ground := Ground.phase },
                          { on := 15, ground := Ground.phase }, { on := 16, ground := Ground.phase },
                          { on := 17, ground := Ground.phase }],
                      guard := none }]
                  true) (Exit.then K (bodyPost Try.prog Try.f6 fun e w' => e = .returned (.bool true) ∧ Gr w w')) { tmps := #[v0, v1, v2, v3, v4, v5, (.bool false), (.pointer (some ⟨B, 0, none⟩)), (.pointer (some ⟨B + 1, 0, none⟩)), (.pointer (some ⟨B + 1 + 1, 0, none⟩)), v10, v11, v12, v13, v14, v15, v16, v17, v18, v19, v20, v21, v22, v23, v24, v25, v26, v27, v28, v29, v30, v31, v32, v33, v34, v35, v36, v37, v38, v39, v40, v41, v42, v43, v44, v45, v46, v47, v48, v49, v50, v51, v52, v53, v54, v55, undef, undef, undef, undef, undef, undef, undef, undef, undef, undef, undef, undef, undef, undef, undef, undef, undef, undef, undef, undef, undef, undef, undef, undef, undef, undef, undef, undef, undef, undef, undef, undef, undef, undef, undef, undef, undef, undef, undef, undef, undef, undef, undef, undef, undef, undef, undef, undef, undef, undef, undef, undef, undef, undef, undef, undef, undef, undef], defers := [] } wq := by
  obtain ⟨G, h18, fX, fY, fZ⟩ := hq
  refine reg9 x0 y0 (x0 + y0) x00 (by omega) y00 (by omega) (by omega) (by omega) B wq h18.1 h18.2.2.2.2.2.2.1 h18.2.2.2.2.2.2.2.2.2.2.2.2.1 fX fY fZ _ _ _ _ _ _ _ _ _ _ _ _ _ _ _ _ _ _ _ _ _ _ _ _ _ _ _ _ _ _ _ _ _ _ _ _ _ _ _ _ _ _ _ _ _ _ _ _ _ _ _ _ _ _ _ _ _ _ _ _ _ _ _ _ _ _ _ _ _ _ _ _ _ _ _ _ _ _ _ _ _ _ _ _ _ _ _ _ _ _ _ _ _ _ _ _ ?_
  intro t56 t57 t58 t59 t60 t61 t62 t63 t64 t65 t66 t67 t68 t69 t70 t71 t72 t73
  obtain ⟨s1, s2, s3, s4, s5⟩ := sums x0 x1 x2 x3 x4 y0 y1 y2 y3 y4 q x00 x01 x10 x11 x20 x21 x30 x31 x40 x41 y00 y01 y10 y11 y20 y21 y30 y31 y40 y41 q0 q1
  obtain ⟨G', h'⟩ := after9 hB x0 x1 x2 x3 x4 y0 y1 y2 y3 y4 q G h18
  refine hk _ _ (tail (x0 + 1) x1 x2 x3 x4 q (y0 + 1) y1 y2 y3 y4 q (x0 + y0 + 2) (x1 + y1) (x2 + y2) (x3 + y3) (x4 + y4) q (by omega) (by omega) (by omega) (by omega) (by omega) (by omega) (by omega) (by omega) (by omega) (by omega) (by omega) (by omega) (by omega) (by omega) (by omega) (by omega) (by omega) (by omega) (by omega) (by omega) (by omega) (by omega) (by omega) (by omega) (by omega) (by omega) (by omega) (by omega) (by omega) (by omega) (by omega) (by omega) (by omega) (by omega) (by omega) (by omega) B w _ G' ⟨Gr.refl _, h'⟩ s1 s2 s3 s4 s5 _ _ _ _ _ _ _ _ _ _ _ _ _ _ _ _ _ _ _ _ _ _ _ _ _ _ _ _ _ _ _ _ _ _ _ _ _ _ _ _ _ _ _ _ _ _ _ _ _ _ _ _ _ _ _ _ _ _ _ _ _ _ _ _ _ _ _ _ _ _ )
end Wd
end Go.Proofs.Ytlmdcdpaelblmaa
