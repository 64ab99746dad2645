/- What a key is; what the laws ask of the package; the bytes of a text laid into a key. -/
import Derived.Test.YtbefmkkmkjogcaaIRef
import Derived.Test.YtbefmkkmkjogcaaIKey
import Derived.Deep.DeepCutAuto
import Derived.Lib.BufferWrite
import Derived.Deep.WholeRow
namespace Go.Proofs.Ytbefmkkmkjogcaa
open Go.RowKit
set_option linter.unusedVariables false
set_option maxRecDepth 20000
namespace Wd
/-- the byte at j; behind the text: 0 -/
def kn (b : ByteArray) (j : Nat) : Int := ((b.data.toList[j]?.getD 0).toNat : Nat)
def keyV (b : ByteArray) : Value := .agg #[.int .u8 (kn b 0), .int .u8 (kn b 1), .int .u8 (kn b 2), .int .u8 (kn b 3), .int .u8 (kn b 4), .int .u8 (kn b 5), .int .u8 (kn b 6), .int .u8 (kn b 7), .int .u8 (kn b 8), .int .u8 (kn b 9), .int .u8 (kn b 10), .int .u8 (kn b 11), .int .u8 (kn b 12), .int .u8 (kn b 13), .int .u8 (kn b 14), .int .u8 (kn b 15)]
def kcs (b : ByteArray) : Array Value := #[.int .u8 (kn b 0), .int .u8 (kn b 1), .int .u8 (kn b 2), .int .u8 (kn b 3), .int .u8 (kn b 4), .int .u8 (kn b 5), .int .u8 (kn b 6), .int .u8 (kn b 7), .int .u8 (kn b 8), .int .u8 (kn b 9), .int .u8 (kn b 10), .int .u8 (kn b 11), .int .u8 (kn b 12), .int .u8 (kn b 13), .int .u8 (kn b 14), .int .u8 (kn b 15)]
def zcs : Array Value := #[.int .u8 0, .int .u8 0, .int .u8 0, .int .u8 0, .int .u8 0, .int .u8 0, .int .u8 0, .int .u8 0, .int .u8 0, .int .u8 0, .int .u8 0, .int .u8 0, .int .u8 0, .int .u8 0, .int .u8 0, .int .u8 0]
theorem kcs_list (b : ByteArray) (h : b.size ≤ 16) : (zcs.toList.take 0 ++ Lib.byteCells b.data.toList ++ zcs.toList.drop (0 + b.size)).toArray = kcs b := by
  have hs : b.data.toList.length = b.size := Array.length_toList
  apply Array.ext'
  rw [List.toList_toArray]
  have e0 : zcs.toList.take 0 = [] := rfl
  have e1 : zcs.toList = List.replicate 16 (Value.int .u8 0) := rfl
  have e2 : (kcs b).toList = (List.range 16).map fun j => Value.int .u8 (kn b j) := rfl
  rw [e0, e1, e2, List.nil_append, Nat.zero_add, List.drop_replicate]
  apply List.ext_getElem?
  intro j
  have hl : (Lib.byteCells b.data.toList).length = b.size := by rw [Lib.byteCells_length, hs]
  rw [List.getElem?_append, hl, List.getElem?_map]
  by_cases hj : j < b.size
  · have hj2 : j < b.data.toList.length := by omega
    rw [if_pos hj, List.getElem?_range (by omega)]
    simp only [Lib.byteCells, List.getElem?_map, List.getElem?_eq_getElem hj2, Option.map_some, kn, Option.getD_some]
  · rw [if_neg hj, List.getElem?_replicate]
    have hn : b.data.toList[j]? = none := List.getElem?_eq_none_iff.2 (by omega)
    by_cases h16 : j < 16
    · rw [if_pos (by omega), List.getElem?_range h16]
      simp only [Option.map_some, kn, hn, Option.getD_none]
      rfl
    · rw [if_neg (by omega), List.getElem?_eq_none_iff.2 (by rw [List.length_range]; omega)]
      rfl
theorem copy_key (b : ByteArray) (h : b.size ≤ 16) (w : World) (g : Nat) (hg : g = w.heap.size) :
    (Builtin.copy_ #[22, 9] 3 #[.slice (some ⟨g, 0, none⟩) 16 16, .string b]).run Try.prog (w.alloc (.cells zcs 33)) = .ok (goInt b.size) (w.alloc (.cells (kcs b) 33)) := by
  subst hg
  have hr := Lib.run_copy_row_string (P := Try.prog) (w.alloc (.cells zcs 33)) 22 9 3 5 w.heap.size 0 16 16 b zcs 33 rfl rfl (heap_alloc_new _ _) h (by show 0 + b.size ≤ 16; omega)
  rw [hr, kcs_list b h, World.setRow_alloc_new]
theorem kcs_cells {b : ByteArray} {w : World} {g : Nat} {t : TypeId} (h : w.heap[g]? = some (.cells (kcs b) t (0, 0))) : w.cell? ⟨g, 0, none⟩ = some (.int .u8 (kn b 0)) ∧ w.cell? ⟨g, 1, none⟩ = some (.int .u8 (kn b 1)) ∧ w.cell? ⟨g, 2, none⟩ = some (.int .u8 (kn b 2)) ∧ w.cell? ⟨g, 3, none⟩ = some (.int .u8 (kn b 3)) ∧ w.cell? ⟨g, 4, none⟩ = some (.int .u8 (kn b 4)) ∧ w.cell? ⟨g, 5, none⟩ = some (.int .u8 (kn b 5)) ∧ w.cell? ⟨g, 6, none⟩ = some (.int .u8 (kn b 6)) ∧ w.cell? ⟨g, 7, none⟩ = some (.int .u8 (kn b 7)) ∧ w.cell? ⟨g, 8, none⟩ = some (.int .u8 (kn b 8)) ∧ w.cell? ⟨g, 9, none⟩ = some (.int .u8 (kn b 9)) ∧ w.cell? ⟨g, 10, none⟩ = some (.int .u8 (kn b 10)) ∧ w.cell? ⟨g, 11, none⟩ = some (.int .u8 (kn b 11)) ∧ w.cell? ⟨g, 12, none⟩ = some (.int .u8 (kn b 12)) ∧ w.cell? ⟨g, 13, none⟩ = some (.int .u8 (kn b 13)) ∧ w.cell? ⟨g, 14, none⟩ = some (.int .u8 (kn b 14)) ∧ w.cell? ⟨g, 15, none⟩ = some (.int .u8 (kn b 15)) := by
  refine ⟨?_, ?_, ?_, ?_, ?_, ?_, ?_, ?_, ?_, ?_, ?_, ?_, ?_, ?_, ?_, ?_⟩ <;> simp [World.cell?, h, kcs]
theorem zcs_cells {w : World} {g : Nat} {t : TypeId} (h : w.heap[g]? = some (.cells zcs t (0, 0))) : w.cell? ⟨g, 0, none⟩ = some (.int .u8 0) ∧ w.cell? ⟨g, 1, none⟩ = some (.int .u8 0) ∧ w.cell? ⟨g, 2, none⟩ = some (.int .u8 0) ∧ w.cell? ⟨g, 3, none⟩ = some (.int .u8 0) ∧ w.cell? ⟨g, 4, none⟩ = some (.int .u8 0) ∧ w.cell? ⟨g, 5, none⟩ = some (.int .u8 0) ∧ w.cell? ⟨g, 6, none⟩ = some (.int .u8 0) ∧ w.cell? ⟨g, 7, none⟩ = some (.int .u8 0) ∧ w.cell? ⟨g, 8, none⟩ = some (.int .u8 0) ∧ w.cell? ⟨g, 9, none⟩ = some (.int .u8 0) ∧ w.cell? ⟨g, 10, none⟩ = some (.int .u8 0) ∧ w.cell? ⟨g, 11, none⟩ = some (.int .u8 0) ∧ w.cell? ⟨g, 12, none⟩ = some (.int .u8 0) ∧ w.cell? ⟨g, 13, none⟩ = some (.int .u8 0) ∧ w.cell? ⟨g, 14, none⟩ = some (.int .u8 0) ∧ w.cell? ⟨g, 15, none⟩ = some (.int .u8 0) := by
  refine ⟨?_, ?_, ?_, ?_, ?_, ?_, ?_, ?_, ?_, ?_, ?_, ?_, ?_, ?_, ?_, ?_⟩ <;> simp [World.cell?, h, zcs]
/-- what the laws ask of the package, without tables -/
structure NamK : Prop where
  args : ∀ (b : ByteArray) (w : World), Calls Try.prog 19 #[.string b] w fun e w' => e = .returned (.int .i64 (argsR b)) ∧ Below w.heap.size w w'
  right : ∀ (b : ByteArray) (w : World), Calls Try.prog 14 #[.string b] w fun e w' => e = .returned (.bool (decide (0 ≤ argsR b))) ∧ Below w.heap.size w w'
  ofY : ∀ (b : ByteArray) (w : World), 0 ≤ argsR b → Calls Try.prog 13 #[.string b] w fun e w' => e = .returned (.tuple #[.agg (kcs b), .bool true]) ∧ Below w.heap.size w w'
  ofN : ∀ (b : ByteArray) (w : World), argsR b < 0 → Calls Try.prog 13 #[.string b] w fun e w' => e = .returned (.tuple #[.agg zcs, .bool false]) ∧ Below w.heap.size w w'
theorem args_size {b : ByteArray} (h : 0 ≤ argsR b) : b.size ≤ 16 := by
  by_cases hz : 1 ≤ b.size ∧ b.size ≤ 16
  · exact hz.2
  · rw [args_short hz] at h; omega

theorem cells2_a (w : World) (c : Array Value) (t : TypeId) : ((w.alloc (.cells c t)).alloc (.cells c t)).heap[w.heap.size]? = some (.cells c t (0, 0)) := by
  rw [Below.heap_alloc _ _ _ (by simp)]
  exact heap_alloc_new _ _
theorem cells2_b (w : World) (c : Array Value) (t : TypeId) : ((w.alloc (.cells c t)).alloc (.cells c t)).heap[w.heap.size + 1]? = some (.cells c t (0, 0)) := by
  have := heap_alloc_new (w.alloc (.cells c t)) (.cells c t)
  simpa using this
theorem cells2_z (w : World) (c : Array Value) (t : TypeId) : ((w.alloc (.cells c t)).alloc (.cells c t)).heap.size = w.heap.size + 2 := by simp
end Wd
end Go.Proofs.Ytbefmkkmkjogcaa
