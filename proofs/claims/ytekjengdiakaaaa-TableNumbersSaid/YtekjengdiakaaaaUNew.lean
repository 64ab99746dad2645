/- The landed table: New, IDs. -/
import Derived.Test.YtekjengdiakaaaaUOps
import Derived.Carry
namespace Go.Proofs.Ytekjengdiakaaaa
open Go.RowKit Go.Maps
set_option linter.unusedVariables false
set_option maxRecDepth 20000
namespace Wd
def zeroU (m : Nat) : Array Value := (List.replicate 1024 (Value.bool false) ++ List.replicate 2048 (Value.int .i64 0) ++ [Value.map (some m)]).toArray
def zeroW : Array Value := (List.replicate 1024 (Value.bool false) ++ List.replicate 2048 (Value.int .i64 0) ++ [Value.map none]).toArray
theorem infoU : (Try.prog.info? 55).map (fun i => i.zero) = some (some (.agg zeroW)) := by kernel_rfl
theorem run_zeroU (w : World) : Sem.run Try.prog (zeroValue 55) w = .ok (.agg zeroW) w := by
  have h := infoU
  cases hi : Try.prog.info? 55 with
  | none => rw [hi] at h; cases h
  | some i =>
    rw [hi] at h
    have hz : i.zero = some (.agg zeroW) := by simpa using h
    simp [zeroValue, typeInfo, hi, hz]
theorem zeroW_size : zeroW.size = 3073 := by simp [zeroW]
theorem zeroW_set (m : Nat) : zeroW.setIfInBounds 3072 (.map (some m)) = zeroU m := by
  unfold zeroW zeroU
  rw [List.setIfInBounds_toArray, List.set_append_right _ _ (by simp)]
  simp
theorem zeroU_in {m k : Nat} (hk : k < 1024) : (zeroU m)[k]? = some (.bool false) := by
  unfold zeroU
  rw [List.getElem?_toArray, List.append_assoc, List.getElem?_append_left (by rw [List.length_replicate]; exact hk), List.getElem?_replicate, if_pos hk]
theorem zeroU_at {m k : Nat} (h1 : 1024 ≤ k) (h2 : k < 3072) : (zeroU m)[k]? = some (.int .i64 0) := by
  unfold zeroU
  rw [List.getElem?_toArray, List.append_assoc, List.getElem?_append_right (by rw [List.length_replicate]; exact h1), List.length_replicate, List.getElem?_append_left (by rw [List.length_replicate]; omega), List.getElem?_replicate, if_pos (by omega)]
theorem zeroU_map {m : Nat} : (zeroU m)[3072]? = some (.map (some m)) := by
  unfold zeroU
  rw [List.getElem?_toArray, List.getElem?_append_right (by simp)]
  simp
theorem zero_tp (w : World) : TP ((w.alloc (.map #[] 0)).alloc (.cells (zeroU w.heap.size) 55)) (w.heap.size + 1) w.heap.size noT (fun _ => (0, 0)) 0 (fun _ => none) := by
  have hmp := MapP.made w
  have hs : (w.alloc (.map #[] 0)).heap.size = w.heap.size + 1 := by simp
  have hm2 := hmp.same (w1 := (w.alloc (.map #[] 0)).alloc (.cells (zeroU w.heap.size) 55)) (Below.heap_alloc _ _ _ (by simp))
  have hh : ((w.alloc (.map #[] 0)).alloc (.cells (zeroU w.heap.size) 55)).heap[w.heap.size + 1]? = some (.cells (zeroU w.heap.size) 55 (0, 0)) := by
    rw [← hs]; exact heap_alloc_new _ _
  clear hmp hs
  generalize (w.alloc (.map #[] 0)).alloc (.cells (zeroU w.heap.size) 55) = W at *
  generalize hm : w.heap.size = s at *
  refine ⟨fun k hk => ?_, fun k hk => ?_, fun k hk => ?_, ?_, fun k => by simp [World.frozen?, hh], by omega, hm2⟩
  · simp [World.cell?, hh, zeroU_in hk, inR, noT]
  · simp [World.cell?, hh, zeroU_at (m := s) (k := 1024 + k * 2) (by omega) (by omega)]
  · simp [World.cell?, hh, zeroU_at (m := s) (k := 1024 + k * 2 + 1) (by omega) (by omega)]
  · simp [World.cell?, hh, zeroU_map]
set_option maxHeartbeats 4000000 in
theorem unew_c (w : World) : Calls Try.prog 8 #[] w fun e w' => e = .returned (.pointer (some ⟨w.heap.size + 1, 0, none⟩)) ∧ TP w' (w.heap.size + 1) w.heap.size noT (fun _ => (0, 0)) 0 (fun _ => none) ∧ Below w.heap.size w w' := by
  have hZ := Lib.hid (zero_tp w)
  have hB : Hid (Below w.heap.size w ((w.alloc (.map #[] 0)).alloc (.cells (zeroU w.heap.size) 55))) := Lib.hid (((Below.refl _ _).alloc (Nat.le_refl _) _).alloc (by simp) _)
  have hb := run_zeroU
  have hs := zeroW_set w.heap.size
  have hz : ¬ (zeroW.size < 3073) := by rw [zeroW_size]; omega
  generalize zeroU w.heap.size = ZU at *
  generalize zeroW = ZW at *
  have hmm := @run_makeMap Try.prog
  go_enter Try.func8, Try.ntmps8
  go_wp2
  go_ret
  exact ⟨by simp, hZ.out, hB.out⟩
/-- who is there, as an array by value -/
def bitsU (T : Tst) : List Value := (List.range 1024).map (fun k => Value.bool (inR T k))
theorem bitsU_len (T : Tst) : (bitsU T).length = 1024 := by simp [bitsU]
theorem bitsU_at {T : Tst} {k : Nat} (hk : k < 1024) : (bitsU T).toArray[k]? = some (.bool (inR T k)) := by
  rw [List.getElem?_toArray]
  unfold bitsU
  rw [List.getElem?_map, List.getElem?_range hk]
  rfl
theorem cellsBU : (Try.prog.info? 4).map (fun i => i.size) = some 1 := by kernel_rfl
theorem run_index_b (w : World) {T : Tst} {k : Nat} (hk : k < 1024) : (Instr.index 45 (.agg (bitsU T).toArray) (.int .i64 (k : Int))).run Try.prog w = .ok (.bool (inR T k)) w := by
  have h1 : (0 : Int) ≤ (k : Int) ∧ (k : Int) < ((1024 : Nat) : Int) := by omega
  have hv := bitsU_at (T := T) hk
  obtain ⟨i, hi, hs⟩ := Option.map_eq_some_iff.1 cellsBU
  simp [Instr.index, run_underlying Try.underlying45, asIntOf, sizeOf, typeInfo, hi, hs, part, isAgg, run_underlying Try.underlying4, go_sem]
  rw [if_pos hk]
  rw [List.getElem?_toArray] at hv
  rw [hv]
  rfl
theorem infoBU : (Try.prog.info? 45).map (fun i => i.size) = some 1024 := by kernel_rfl
theorem rowBU : (∃ d, Try.prog.underlying 45 = some d ∧ d.isRow = true) := ⟨_, Try.underlying45, rfl⟩
section
variable {w : World} {b m c : Nat} {T : Tst} {P : Nat → Pl} {M : Pl → Option Int}
theorem TP.range (h : TP w b m T P c M) : w.rangeAt b 0 (bitsU T) := by
  intro j v hj
  have hlt : j < 1024 := by
    have := (List.getElem?_eq_some_iff.1 hj).1
    rw [bitsU_len] at this; exact this
  have e := bitsU_at (T := T) hlt
  rw [List.getElem?_toArray, hj] at e
  cases e
  rw [Nat.zero_add]
  exact h.ci j hlt
/-- those that were told so far -/
structure IUt (w : World) (T : Tst) (k : Nat) (v : Value) (wr : World) : Prop where
  own : wr.ownsRow w.heap.size 3 1 v (idsK T k).length (ints (idsK T k))
  bel : Below w.heap.size w wr
theorem IUt.next {w wr w1 : World} {T : Tst} {k g cap : Nat} {v : Value} (h : IUt w T k v wr) (hk : inR T k = true)
    {c : Array Value} {t : TypeId} (hown : w1.ownsRow w.heap.size 3 1 (.slice (some ⟨g, 0, none⟩) ((idsK T k).length + 1) cap) ((idsK T k).length + 1) (ints (idsK T k) ++ ints [(k : Int)])) (hg : (wr.alloc (.cells c t)).grownBy w1 v.ownBlock) :
    IUt w T (k + 1) (.slice (some ⟨g, 0, none⟩) ((idsK T k).length + 1) cap) w1 := by
  refine ⟨?_, ?_⟩
  · rw [idsK_in hk]
    simpa [ints] using hown
  · exact (h.bel.alloc h.bel.size _).grown hg (by have := h.bel.size; simp; omega) (fun k' hk => (h.own.lt k' hk).1)
set_option maxHeartbeats 4000000 in
theorem uids_c (h : TP w b m T P c M) :
    Calls Try.prog 13 #[.pointer (some ⟨b, 0, none⟩)] w fun e w' => ∃ u, e = .returned u ∧ SL w' 3 u (idsT T) ∧ Below w.heap.size w w' ∧ (∀ g, u.ownBlock = some g → w.heap.size ≤ g) := by
  obtain ⟨i0, hi0, hz0, hz1, hz2⟩ := info_parts info3
  have hmx : 8194 ≤ maxLen := by decide
  have S0 : IUt w T 0 (.slice none 0 0) w := ⟨World.ownsRow_nil _ _ _ _, Below.refl _ _⟩
  replace S0 := Lib.hid S0
  have hL := Lib.hid h.range
  obtain ⟨d, hd, hr⟩ := rowBU
  replace hd := Lib.hid hd
  replace hr := Lib.hid hr
  have hix : Hid (∀ (w : World) (k : Nat), k < 1024 → (Instr.index 45 (.agg (bitsU T).toArray) (.int .i64 (k : Int))).run Try.prog w = .ok (.bool (inR T k)) w) := Lib.hid (fun w k hk => run_index_b w hk)
  clear h
  go_enter Try.func13, Try.ntmps13
  go_wp2
  refine wp_load_mid _ _ rfl b 0 rfl (bitsU T) d hL.out hd.out hr.out (by rw [bitsU_len]; exact infoBU) ?_
  generalize (bitsU T).toArray = BU at *
  go_wp2
  go_loopw [3, 10] (fun v i wr => ∃ k : Nat, k ≤ 1024 ∧ i = .int .i64 k ∧ IUt w T k v wr) (fun _ i _ => 1024 - (intOf i).toNat)
  case atStart => exact ⟨0, by omega, rfl, S0.out⟩
  case round =>
    obtain ⟨k, hk, rfl, hR⟩ := hrel
    by_cases hlt : k < 1024
    · have hlt' : decide ((k : Int) < 1024) = true := by simp; omega
      have hk1 : (k : Int) < 1024 := by omega
      have hw : IntKind.i64.wrap ((k : Int) + 1) = (k : Int) + 1 := by rw [IntKind.wrap_i64]; omega
      have hl := idsK_len T k
      have ci := hix.out wr k hlt
      cases hin : inR T k
      · rw [hin] at ci
        have hN : Hid (IUt w T (k + 1) u3 wr) := Lib.hid ⟨by rw [idsK_out hin]; exact hR.own, hR.bel⟩
        replace hR := Lib.hid hR
        clear hin hl
        go_wp2
        go_roundw
        case rel => exact ⟨k + 1, by omega, by go_num, hN.out⟩
        case measure => simp [intOf]; omega
      · rw [hin] at ci
        replace hin := Lib.hid hin
        replace hR := Lib.hid hR
        go_wp2_with (first | (at_builtin; refine wpList_append_lies _ rfl (.tmp 15) (.tmp 17) 34 rfl w.heap.size 3 i0 (.int .i64 0) 1 8 Try.underlying34 hi0 hz0 hz1 hz2 rfl (by decide) u3 (idsK T k).length _ (by simp [Act.eval]) (hR.out.own.alloc _) ⟨wr.heap.size, 0, none⟩ 1 1 (ints [(k : Int)]) (by simp [Act.eval]) (by simp [ints]) (one_at ((World.cell?_alloc_new _ _ _ 0).trans rfl)) (ints_one _) (by omega) (by omega) (by omega) (by have := hR.out.bel.size; simp; omega) _ rfl ?_; intro g cap w1 hown1 hgrow1 hat1 hlt1; have R3 := Lib.hid (hR.out.next hin.out hown1 hgrow1); clear hown1 hgrow1))
        go_roundw
        case rel => exact ⟨k + 1, by omega, by go_num, R3.out⟩
        case measure => simp [intOf]; omega
    · have e : k = 1024 := by omega
      subst e
      replace hR := Lib.hid hR
      go_wp2
      go_ret
      refine ⟨_, rfl, ?_, hR.out.bel, fun g hg => (hR.out.own.lt g hg).1⟩
      have ho := own_base hR.out.own
      unfold SL
      exact ho
end
end Wd
end Go.Proofs.Ytekjengdiakaaaa
