/- The landed names: the text of a key. -/
import Derived.Test.YtbefmkkmkjogcaaLR
namespace Go.Proofs.Ytbefmkkmkjogcaa
open Go.RowKit
set_option linter.unusedVariables false
set_option maxRecDepth 20000
namespace Wd
/-- all sixteen of them -/
def padL (L : List UInt8) : List UInt8 := [L[0]?.getD 0, L[1]?.getD 0, L[2]?.getD 0, L[3]?.getD 0, L[4]?.getD 0, L[5]?.getD 0, L[6]?.getD 0, L[7]?.getD 0, L[8]?.getD 0, L[9]?.getD 0, L[10]?.getD 0, L[11]?.getD 0, L[12]?.getD 0, L[13]?.getD 0, L[14]?.getD 0, L[15]?.getD 0]
theorem pad_eq (L : List UInt8) : padL L = L.take 16 ++ List.replicate (16 - (L.take 16).length) 0 := by
  apply List.ext_getElem?
  intro j
  have hp : padL L = (List.range 16).map fun j => L[j]?.getD 0 := rfl
  rw [hp, List.getElem?_map, List.getElem?_append]
  by_cases h16 : j < 16
  · rw [List.getElem?_range h16]
    by_cases hj : j < (L.take 16).length
    · rw [if_pos hj, List.getElem?_take, if_pos h16]
      have : j < L.length := by rw [List.length_take] at hj; omega
      simp [this]
    · have : L[j]? = none := List.getElem?_eq_none_iff.2 (by rw [List.length_take] at hj; omega)
      rw [if_neg hj, List.getElem?_replicate, if_pos (by omega), Option.map_some, this]
      rfl
  · rw [List.getElem?_eq_none_iff.2 (by rw [List.length_range]; omega), if_neg (by rw [List.length_take]; omega), List.getElem?_replicate, if_neg (by omega)]
    rfl
theorem takeWhile_zero : ∀ (A : List UInt8) (n : Nat), (A ++ List.replicate n 0).takeWhile (· != 0) = A.takeWhile (· != 0)
  | [], 0 => rfl
  | [], n + 1 => by simp [List.replicate_succ, List.takeWhile]
  | x :: A, n => by rw [List.cons_append, List.takeWhile_cons, List.takeWhile_cons, takeWhile_zero A n]
theorem text_pad (L : List UInt8) : textL L = (padL L).takeWhile (· != 0) := by
  unfold textL
  rw [pad_eq, takeWhile_zero]
theorem index_while : ∀ (M : List UInt8), Lib.indexByte M 0 = if (M.takeWhile (· != 0)).length < M.length then ((M.takeWhile (· != 0)).length : Int) else -1
  | [] => rfl
  | x :: M => by
    unfold Lib.indexByte
    by_cases hx : x = 0
    · subst hx
      rw [if_pos (by rfl)]
      simp
    · have h1 : (x == 0) = false := by simpa using hx
      have h2 : (x :: M).takeWhile (· != 0) = x :: M.takeWhile (· != 0) := by rw [List.takeWhile_cons, if_pos (by simpa using hx)]
      rw [if_neg (by rw [h1]; decide), h2, index_while M, List.length_cons, List.length_cons]
      generalize (M.takeWhile (· != 0)).length = a
      generalize M.length = b
      by_cases h : a < b
      · simp only [if_pos h, if_pos (show a + 1 < b + 1 by omega)]
        rw [if_neg (by rw [beq_iff_eq]; omega)]
        omega
      · simp only [if_neg h, if_neg (show ¬ a + 1 < b + 1 by omega)]
        rfl
theorem text_le (L : List UInt8) : (textL L).length ≤ 16 := by
  unfold textL
  have h1 : ((L.take 16).takeWhile (· != 0)).length ≤ (L.take 16).length := (List.takeWhile_prefix _).length_le
  rw [List.length_take] at h1
  omega
/-- where the first nought is -/
def zi (L : List UInt8) : Int := Lib.indexByte (padL L) 0
theorem zi_eq (L : List UInt8) : zi L = if (textL L).length < 16 then ((textL L).length : Int) else -1 := by
  unfold zi
  rw [index_while, ← text_pad]
  rfl
def kzs (L : List UInt8) : List Int := [kz L 0, kz L 1, kz L 2, kz L 3, kz L 4, kz L 5, kz L 6, kz L 7, kz L 8, kz L 9, kz L 10, kz L 11, kz L 12, kz L 13, kz L 14, kz L 15]
theorem bytes_kzs (L : List UInt8) : Lib.bytesOf (kzs L) = padL L := by
  unfold kzs Lib.bytesOf kz padL
  simp
theorem bib_c (L : List UInt8) (w : World) (g : Nat) (t : TypeId) (h : w.heap[g]? = some (.cells (keyA L) t (0, 0))) :
    Calls Try.prog 36 #[.slice (some ⟨g, 0, none⟩) 16 16, .int .u8 0] w fun e w' => e = .returned (.int .i64 (zi L)) ∧ w' = w := by
  have hr := Lib.run_indexByteSlice (P := Try.prog) w g 0 16 16 (kzs L) rfl (fun i hi => by
    rw [Nat.zero_add, key_cell h hi]
    rcases (show i = 0 ∨ i = 1 ∨ i = 2 ∨ i = 3 ∨ i = 4 ∨ i = 5 ∨ i = 6 ∨ i = 7 ∨ i = 8 ∨ i = 9 ∨ i = 10 ∨ i = 11 ∨ i = 12 ∨ i = 13 ∨ i = 14 ∨ i = 15 by omega) with rfl | rfl | rfl | rfl | rfl | rfl | rfl | rfl | rfl | rfl | rfl | rfl | rfl | rfl | rfl | rfl <;> rfl) 0
  rw [bytes_kzs, show Lib.indexByte (padL L) (0 : Int).toNat.toUInt8 = zi L from rfl] at hr
  clear h
  go_enter Try.func36, Try.ntmps36
  go_wp2
  rw [run_callFunc_extern Try.func43 (by kernel_rfl) (by kernel_rfl) (by kernel_rfl) (e := Extern.BytealgIndexByte.indexByte) (by kernel_rfl), hr]
  simp only [Result.andThen]
  rw [Oper.upon_value]
  go_wp2
  go_ret
  exact ⟨rfl, rfl⟩
set_option maxHeartbeats 4000000 in
theorem bidx_c (L : List UInt8) (w : World) (g g2 : Nat) (t : TypeId) (h : w.heap[g]? = some (.cells (keyA L) t (0, 0))) (h2 : w.cell? ⟨g2, 0, none⟩ = some (.int .u8 0)) :
    Calls Try.prog 31 #[.slice (some ⟨g, 0, none⟩) 16 16, .slice (some ⟨g2, 0, none⟩) 1 1] w fun e w' => e = .returned (.int .i64 (zi L)) ∧ w' = w := by
  have P := bib_c L w g t h
  generalize zi L = i at *
  clear h
  go_enter Try.func31, Try.ntmps31
  go_wp2_with fail
  refine P.mono ?_
  rintro e w1 ⟨rfl, hw⟩
  subst w1
  clear P
  go_wp2
  go_ret
  exact ⟨rfl, rfl⟩
set_option maxHeartbeats 4000000 in
theorem bcut_c (L : List UInt8) (w : World) (g g2 : Nat) (t : TypeId) (h : w.heap[g]? = some (.cells (keyA L) t (0, 0))) (h2 : w.cell? ⟨g2, 0, none⟩ = some (.int .u8 0)) :
    Calls Try.prog 23 #[.slice (some ⟨g, 0, none⟩) 16 16, .slice (some ⟨g2, 0, none⟩) 1 1] w fun e w' => ∃ v u, e = .returned (.tuple #[.slice (some ⟨g, 0, none⟩) (textL L).length 16, v, u]) ∧ Below w.heap.size w w' := by
  have P := Lib.hid (bidx_c L w g g2 t h h2)
  rw [zi_eq] at P
  have hle := text_le L
  obtain ⟨n, hn⟩ : ∃ n, (textL L).length = n := ⟨_, rfl⟩
  rw [hn] at P hle ⊢
  clear h h2 hn
  by_cases hlt : n < 16
  · rw [if_pos hlt] at P
    have a1 : (n : Int) + 1 ≤ 16 := by omega
    go_enter Try.func23, Try.ntmps23
    go_wp2_with (first | (go_at_call 31; ((with_reducible refine P.out.mono ?_); rintro e1 w2 ⟨rfl, hw2⟩; subst w2)))
    go_region
    all_goals go_wp2
    all_goals go_ret3
    all_goals exact ⟨⟨_, _, rfl⟩, (Below.refl _ _).drew⟩
  · rw [if_neg hlt] at P
    have e : n = 16 := by omega
    subst e
    go_enter Try.func23, Try.ntmps23
    go_wp2_with (first | (go_at_call 31; ((with_reducible refine P.out.mono ?_); rintro e1 w2 ⟨rfl, hw2⟩; subst w2)))
    go_ret3
    exact ⟨_, _, rfl, Below.refl _ _⟩
set_option maxHeartbeats 4000000 in
theorem ktext_c (L : List UInt8) (w : World) : Calls Try.prog 16 #[.agg (keyA L)] w fun e w' => e = .returned (.string (textK L)) ∧ Below w.heap.size w w' := by
  have hB : Hid (Below w.heap.size w ((w.alloc (.cells (keyA L) 33)).alloc (.cells #[.int .u8 0] 5))) := Lib.hid (((Below.refl _ _).alloc (Nat.le_refl _) _).alloc (by simp) _)
  have h0 : ((w.alloc (.cells (keyA L) 33)).alloc (.cells #[.int .u8 0] 5)).heap[w.heap.size]? = some (.cells (keyA L) 33 (0, 0)) := by
    rw [Below.heap_alloc _ _ _ (by simp)]
    exact heap_alloc_new _ _
  have PC := bcut_c L ((w.alloc (.cells (keyA L) 33)).alloc (.cells #[.int .u8 0] 5)) w.heap.size (w.heap.size + 1) _ h0 (by simp)
  have hcv : Hid (∀ w1, ((w.alloc (.cells (keyA L) 33)).alloc (.cells #[.int .u8 0] 5)).heap.size ≤ w1.heap.size → Below ((w.alloc (.cells (keyA L) 33)).alloc (.cells #[.int .u8 0] 5)).heap.size ((w.alloc (.cells (keyA L) 33)).alloc (.cells #[.int .u8 0] 5)) w1 → (convert 22 9 (.slice (some ⟨w.heap.size, 0, none⟩) (textL L).length 16)).run Try.prog w1 = .ok (.string (textK L)) w1) := Lib.hid (fun w1 _ hb => by
    refine run_convert_bytes_back (P := Try.prog) w1 22 9 5 ⟨w.heap.size, 0, none⟩ 16 (textL L) rfl rfl rfl (fun j hj => ?_)
    have hj16 : j < 16 := by have := text_le L; omega
    have hk := key_cell ((hb.block w.heap.size (by simp; omega)).trans h0) hj16
    rw [Addr.add_lit, Nat.zero_add, hk]
    have hx : (textL L)[j]? = some (textL L)[j] := by simp
    have hp : ((textL L))[j]? = (L.take 16)[j]? := by
      have e := List.prefix_iff_eq_take.1 (List.takeWhile_prefix (p := (· != 0)) (l := L.take 16))
      have e2 : (textL L)[j]? = ((L.take 16).take (textL L).length)[j]? := congrArg (·[j]?) e
      rw [e2, List.getElem?_take, if_pos hj]
    rw [hp, List.getElem?_take, if_pos hj16] at hx
    unfold kz
    rw [hx]
    rfl)
  clear h0
  go_enter Try.func16, Try.ntmps16
  go_wp2_with fail
  refine PC.mono ?_
  rintro e w1 ⟨v, u, rfl, hb⟩
  have hc1 := hcv.out w1 hb.size hb
  have hB1 := Lib.hid (hB.out.trans (hb.mono hB.out.size))
  clear PC hcv hb
  go_wp2
  go_ret
  exact ⟨rfl, hB1.out⟩
end Wd
end Go.Proofs.Ytbefmkkmkjogcaa
