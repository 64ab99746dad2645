/- Texts joined: UKN. -/
import Derived.Test.YtgfnelhbdhbklaaGreatJ5
/- The chapter's runs. -/
namespace Go.Proofs.YtgfnelhbdhbklaaGreat
open Go.RowKit
set_option linter.unusedVariables false
set_option maxRecDepth 20000
namespace Wd
def kU : UnitA := ⟨[], [⟨⟨#[66]⟩, -1, 4, []⟩, ⟨⟨#[65]⟩, -1, 0, []⟩, ⟨⟨#[67]⟩, -1, 1, []⟩], [⟨0, 0, [], [3, 0, 14, 0]⟩], [⟨2, [(3, 5)]⟩], 0⟩
def zU : UnitA := ⟨[], [], [], [], 0⟩
theorem zU_right : unitR zU = 3 := by decide +kernel
theorem zU_k (w : World) : UnK w (.agg #[.slice none 0 0, .slice none 0 0, .slice none 0 0, .slice none 0 0, .int .i64 0]) zU :=
  ⟨⟨none, 0, none, 0, none, 0, none, 0, rfl, ⟨⟨none, 0, rfl, by decide, by decide, fun k x h => by simp [zU] at h⟩, ⟨none, 0, rfl, by decide, by decide, fun k x h => by simp [zU] at h⟩, ⟨none, 0, rfl, by decide, by decide, fun k x h => by simp [zU] at h⟩, ⟨none, 0, rfl, by decide, by decide, fun k x h => by simp [zU] at h⟩⟩⟩⟩
theorem i64s {x : Int} (h0 : -1000 ≤ x) (h1 : x ≤ 1000) : In64 x := in64_of (by omega) (by omega)
/-- the first program, its field -/
structure KnA (w0 wr : World) (s s2 s3 s4 q : Nat) : Prop where
  b : UnB wr q (.agg #[.slice none 0 0, .slice (some ⟨s, 0, none⟩) 3 3, .slice (some ⟨s2, 0, none⟩) 1 1, .slice (some ⟨s4, 0, none⟩) 1 1, .int .i64 0]) kU none (some ⟨s, 0, none⟩) (some ⟨s2, 0, none⟩) (some ⟨s4, 0, none⟩) 0 3 1 1
  f0 : wr.cell? ⟨s4, 1, none⟩ = some (.slice (some ⟨s3, 0, none⟩) 1 1)
  f1 : wr.cell? ⟨s3, 1, none⟩ = some (.int .i64 5)
  bel : Below w0.heap.size w0 wr
theorem KnA.up {w0 w w1 : World} {s s2 s3 s4 q : Nat} (h : KnA w0 w s s2 s3 s4 q) (b : Below w.heap.size w w1) : KnA w0 w1 s s2 s3 s4 q := ⟨h.b.up b, cell_up b h.f0, cell_up b h.f1, h.bel.trans (b.mono h.bel.size)⟩
theorem KnA.box {w0 w : World} {s s2 s3 s4 q : Nat} (h : KnA w0 w s s2 s3 s4 q) : w.cell? ⟨q, 0, none⟩ = some (.slice none 0 0) ∧ w.cell? ⟨q, 1, none⟩ = some (.slice (some ⟨s, 0, none⟩) 3 3) ∧ w.cell? ⟨q, 2, none⟩ = some (.slice (some ⟨s2, 0, none⟩) 1 1) ∧ w.cell? ⟨q, 3, none⟩ = some (.slice (some ⟨s4, 0, none⟩) 1 1) ∧ w.cell? ⟨q, 4, none⟩ = some (.int .i64 0) := ⟨h.b.c0, h.b.c1, h.b.c2, h.b.c3, h.b.c4⟩
/-- .. and the copy that was turned, in a box of its own -/
structure KnB (w0 wr : World) (s s2 s3 s4 q Q : Nat) (na ka ma oa : Option Addr) (nc kc mc oc : Nat) (V : UnitA) : Prop where
  a : KnA w0 wr s s2 s3 s4 q
  v : UnK wr (.agg #[.slice na 0 nc, .slice ka 3 kc, .slice ma 1 mc, .slice oa 1 oc, .int .i64 0]) V
  y0 : wr.cell? ⟨Q, 0, none⟩ = some (.slice na 0 nc)
  y1 : wr.cell? ⟨Q, 1, none⟩ = some (.slice ka 3 kc)
  y2 : wr.cell? ⟨Q, 2, none⟩ = some (.slice ma 1 mc)
  y3 : wr.cell? ⟨Q, 3, none⟩ = some (.slice oa 1 oc)
  y4 : wr.cell? ⟨Q, 4, none⟩ = some (.int .i64 0)
theorem KnB.up {w0 w w1 : World} {s s2 s3 s4 q Q : Nat} {na ka ma oa : Option Addr} {nc kc mc oc : Nat} {V : UnitA} (h : KnB w0 w s s2 s3 s4 q Q na ka ma oa nc kc mc oc V) (b : Below w.heap.size w w1) : KnB w0 w1 s s2 s3 s4 q Q na ka ma oa nc kc mc oc V :=
  ⟨h.a.up b, h.v.up b, cell_up b h.y0, cell_up b h.y1, cell_up b h.y2, cell_up b h.y3, cell_up b h.y4⟩
theorem alloc6 (w : World) (o0 o1 o2 o3 o4 o5 : Obj) : ((((((w.alloc o0).alloc o1).alloc o2).alloc o3).alloc o4).alloc o5).heap[w.heap.size]? = some o0 ∧ ((((((w.alloc o0).alloc o1).alloc o2).alloc o3).alloc o4).alloc o5).heap[w.heap.size + 1]? = some o1 ∧ ((((((w.alloc o0).alloc o1).alloc o2).alloc o3).alloc o4).alloc o5).heap[w.heap.size + 1 + 1]? = some o2 ∧ ((((((w.alloc o0).alloc o1).alloc o2).alloc o3).alloc o4).alloc o5).heap[w.heap.size + 1 + 1 + 1]? = some o3 ∧ ((((((w.alloc o0).alloc o1).alloc o2).alloc o3).alloc o4).alloc o5).heap[w.heap.size + 1 + 1 + 1 + 1]? = some o4 ∧ ((((((w.alloc o0).alloc o1).alloc o2).alloc o3).alloc o4).alloc o5).heap[w.heap.size + 1 + 1 + 1 + 1 + 1]? = some o5 ∧ Below w.heap.size w ((((((w.alloc o0).alloc o1).alloc o2).alloc o3).alloc o4).alloc o5) := by
  have z1 : (w.alloc o0).heap.size = w.heap.size + 1 := World.size_alloc _ _
  have z2 : ((w.alloc o0).alloc o1).heap.size = w.heap.size + 1 + 1 := by rw [World.size_alloc, z1]
  have z3 : (((w.alloc o0).alloc o1).alloc o2).heap.size = w.heap.size + 1 + 1 + 1 := by rw [World.size_alloc, z2]
  have z4 : ((((w.alloc o0).alloc o1).alloc o2).alloc o3).heap.size = w.heap.size + 1 + 1 + 1 + 1 := by rw [World.size_alloc, z3]
  have z5 : (((((w.alloc o0).alloc o1).alloc o2).alloc o3).alloc o4).heap.size = w.heap.size + 1 + 1 + 1 + 1 + 1 := by rw [World.size_alloc, z4]
  refine ⟨?_, ?_, ?_, ?_, ?_, ?_, ?_⟩
  · rw [Below.heap_alloc _ _ _ (by omega), Below.heap_alloc _ _ _ (by omega), Below.heap_alloc _ _ _ (by omega), Below.heap_alloc _ _ _ (by omega), Below.heap_alloc _ _ _ (by omega)]
    exact heap_alloc_new _ _
  · rw [Below.heap_alloc _ _ _ (by omega), Below.heap_alloc _ _ _ (by omega), Below.heap_alloc _ _ _ (by omega), Below.heap_alloc _ _ _ (by omega), ← z1]
    exact heap_alloc_new _ _
  · rw [Below.heap_alloc _ _ _ (by omega), Below.heap_alloc _ _ _ (by omega), Below.heap_alloc _ _ _ (by omega), ← z2]
    exact heap_alloc_new _ _
  · rw [Below.heap_alloc _ _ _ (by omega), Below.heap_alloc _ _ _ (by omega), ← z3]
    exact heap_alloc_new _ _
  · rw [Below.heap_alloc _ _ _ (by omega), ← z4]
    exact heap_alloc_new _ _
  · rw [← z5]
    exact heap_alloc_new _ _
  · exact (((((Below.refl _ _).alloc (Nat.le_refl _) _).alloc (by omega) _).alloc (by omega) _).alloc (by omega) _).alloc (by omega) _ |>.alloc (by omega) _
end Wd
end Go.Proofs.YtgfnelhbdhbklaaGreat
