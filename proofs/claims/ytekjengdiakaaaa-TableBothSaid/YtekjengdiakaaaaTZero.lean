/- The document's own table: none is taken. -/
import Derived.Test.YtekjengdiakaaaaTOps
namespace Go.Proofs.Ytekjengdiakaaaa
open Go.RowKit
set_option linter.unusedVariables false
namespace Wd
def zeroT : Array Value := (List.replicate 1024 (Value.bool false) ++ List.replicate 2048 (Value.int .i64 0)).toArray
theorem builtT : Try.prog.built 49 [] = some zeroT := by kernel_rfl
theorem run_buildT (w : World) : (Instr.build 49 #[]).run Try.prog w = .ok (.agg zeroT) w := run_build w _ #[] zeroT builtT
theorem infoT : (Try.prog.info? 49).map (fun i => i.zero) = some (some (.agg zeroT)) := by kernel_rfl
theorem run_zeroT (w : World) : Sem.run Try.prog (zeroValue 49) w = .ok (.agg zeroT) w := by
  have h := infoT
  cases hi : Try.prog.info? 49 with
  | none => rw [hi] at h; cases h
  | some i =>
    rw [hi] at h
    have hz : i.zero = some (.agg zeroT) := by simpa using h
    simp [zeroValue, typeInfo, hi, hz]
theorem zeroT_in {k : Nat} (hk : k < 1024) : zeroT[k]? = some (.bool false) := by
  unfold zeroT
  rw [List.getElem?_toArray, List.getElem?_append_left (by rw [List.length_replicate]; exact hk), List.getElem?_replicate, if_pos hk]
theorem zeroT_at {k : Nat} (h1 : 1024 ≤ k) (h2 : k < 3072) : zeroT[k]? = some (.int .i64 0) := by
  unfold zeroT
  rw [List.getElem?_toArray, List.getElem?_append_right (by rw [List.length_replicate]; exact h1), List.length_replicate, List.getElem?_replicate, if_pos (by omega)]
def noT : Tst := fun _ => none
theorem zero_ref (w : World) : RefT (w.alloc (.cells zeroT 49)) w.heap.size noT := by
  have hh : (w.alloc (.cells zeroT 49)).heap[w.heap.size]? = some (.cells zeroT 49 (0, 0)) := heap_alloc_new _ _
  generalize w.alloc (.cells zeroT 49) = W at hh ⊢
  generalize w.heap.size = b at hh ⊢
  refine ⟨fun k hk => ?_, fun k hk => ?_, fun k hk => ?_, fun k => by simp [World.frozen?, hh]⟩
  · simp [World.cell?, hh, zeroT_in hk, inR, noT]
  · simp [World.cell?, hh, zeroT_at (k := 1024 + k * 2) (by omega) (by omega), szR, noT]
  · simp [World.cell?, hh, zeroT_at (k := 1024 + k * 2 + 1) (by omega) (by omega), clR, noT]
theorem idsT_def (T : Tst) : idsT T = ((List.range 1024).filter (fun k => (T k).isSome)).map (fun (k : Nat) => (k : Int)) := rfl
def idsK (T : Tst) (k : Nat) : List Int := ((List.range k).filter (fun k => (T k).isSome)).map (fun (k : Nat) => (k : Int))
theorem idsK_in {T : Tst} {k : Nat} (h : inR T k = true) : idsK T (k + 1) = idsK T k ++ [(k : Int)] := by
  unfold inR at h
  unfold idsK
  rw [List.range_succ, List.filter_append, List.map_append]
  simp [h]
theorem idsK_out {T : Tst} {k : Nat} (h : inR T k = false) : idsK T (k + 1) = idsK T k := by
  unfold inR at h
  unfold idsK
  rw [List.range_succ, List.filter_append, List.map_append]
  simp [h]
theorem idsK_len (T : Tst) (k : Nat) : (idsK T k).length ≤ k := by
  unfold idsK
  rw [List.length_map]
  exact Nat.le_trans (List.length_filter_le _ _) (by simp)
/-- those that were told so far -/
structure IDt (w : World) (T : Tst) (b k : Nat) (v : Value) (wr : World) : Prop where
  own : wr.ownsRow w.heap.size 3 1 v (idsK T k).length (ints (idsK T k))
  bel : Below w.heap.size w wr
theorem IDt.next {w wr w1 : World} {T : Tst} {b k g cap : Nat} {v : Value} (h : IDt w T b k v wr) (hk : inR T k = true)
    {c : Array Value} {t : TypeId} (hown : w1.ownsRow w.heap.size 3 1 (.slice (some ⟨g, 0, none⟩) ((idsK T k).length + 1) cap) ((idsK T k).length + 1) (ints (idsK T k) ++ ints [(k : Int)])) (hg : (wr.alloc (.cells c t)).grownBy w1 v.ownBlock) :
    IDt w T b (k + 1) (.slice (some ⟨g, 0, none⟩) ((idsK T k).length + 1) cap) w1 := by
  refine ⟨?_, ?_⟩
  · rw [idsK_in hk]
    simpa [ints] using hown
  · exact (h.bel.alloc h.bel.size _).grown hg (by have := h.bel.size; simp; omega) (fun k' hk => (h.own.lt k' hk).1)
set_option maxHeartbeats 4000000 in
theorem rids_c {w : World} {b : Nat} {T : Tst} (h : RefT w b T) :
    Calls Try.prog 27 #[.pointer (some ⟨b, 0, none⟩)] w fun e w' => ∃ u, e = .returned u ∧ SL w' 3 u (idsT T) ∧ Below w.heap.size w w' ∧ (∀ g, u.ownBlock = some g → w.heap.size ≤ g) := by
  obtain ⟨i0, hi0, hz0, hz1, hz2⟩ := info_parts info3
  have hmx : 8194 ≤ maxLen := by decide
  have S0 : IDt w T b 0 (.slice none 0 0) w := ⟨World.ownsRow_nil _ _ _ _, Below.refl _ _⟩
  replace S0 := Lib.hid S0
  replace h := Lib.hid h
  go_enter Try.func27, Try.ntmps27
  go_wp2
  go_loopw [3, 5] (fun v i wr => ∃ k : Nat, k ≤ 1024 ∧ i = .int .i64 k ∧ IDt w T b k v wr) (fun _ i _ => 1024 - (intOf i).toNat)
  case atStart => exact ⟨0, by omega, rfl, S0.out⟩
  case round =>
    obtain ⟨k, hk, rfl, hR⟩ := hrel
    by_cases hlt : k < 1024
    · have hlt' : decide ((k : Int) < 1024) = true := by simp; omega
      have hk1 : (k : Int) < 1024 := by omega
      have hw : IntKind.i64.wrap ((k : Int) + 1) = (k : Int) + 1 := by rw [IntKind.wrap_i64]; omega
      have hl := idsK_len T k
      have ci := (h.out.keep hR.bel).ci k hlt
      cases hin : inR T k
      · rw [hin] at ci
        have hN : Hid (IDt w T b (k + 1) u3 wr) := Lib.hid ⟨by rw [idsK_out hin]; exact hR.own, hR.bel⟩
        replace hR := Lib.hid hR
        clear hin hl
        go_wp2
        go_roundw
        case rel => exact ⟨k + 1, by omega, by go_num, hN.out⟩
        case measure => simp [intOf]; omega
      · rw [hin] at ci
        replace hin := Lib.hid hin
        replace hR := Lib.hid hR
        go_wp2_with (first | (at_builtin; refine wpList_append_lies _ rfl (.tmp 14) (.tmp 16) 34 rfl w.heap.size 3 i0 (.int .i64 0) 1 8 Try.underlying34 hi0 hz0 hz1 hz2 rfl (by decide) u3 (idsK T k).length _ (by simp [Act.eval]) (hR.out.own.alloc _) ⟨wr.heap.size, 0, none⟩ 1 1 (ints [(k : Int)]) (by simp [Act.eval]) (by simp [ints]) (one_at ((World.cell?_alloc_new _ _ _ 0).trans rfl)) (ints_one _) (by omega) (by omega) (by omega) (by have := hR.out.bel.size; simp; omega) _ rfl ?_; intro g cap w1 hown1 hgrow1 hat1 hlt1; have R3 := Lib.hid (hR.out.next hin.out hown1 hgrow1); clear hown1 hgrow1))
        go_roundw
        case rel => exact ⟨k + 1, by omega, by go_num, R3.out⟩
        case measure => simp [intOf]; omega
    · have e : k = 1024 := by omega
      subst e
      replace hR := Lib.hid hR
      go_wp2
      go_ret
      refine ⟨_, rfl, ?_, hR.out.bel, fun g hg => (hR.out.own.lt g hg).1⟩
      have ho := own_base hR.out.own
      unfold SL
      exact ho
end Wd
end Go.Proofs.Ytekjengdiakaaaa
