/- The document's own cache: Len; a new one. -/
import Derived.Test.YtpilbpofikdkmaaYRef
import Derived.Laws.Tables
namespace Go.Proofs.Ytpilbpofikdkmaa
open Go.RowKit
set_option linter.unusedVariables false
set_option maxRecDepth 20000
namespace Wd
theorem i64_0 : I64 0 := ⟨by omega, by omega⟩
def zeroC (h m : Nat) : Array Value := (List.replicate 32 (Value.bool false) ++ (List.replicate 96 (Value.int .i64 0) ++ [Value.int .i64 (h : Nat), Value.int .i64 (m : Nat)])).toArray
theorem builtC : Try.prog.built 42 [] = some (zeroC 0 0) := by kernel_rfl
theorem builtC2 (h m : Nat) : Try.prog.built 42 [(4, .int .i64 (h : Nat)), (5, .int .i64 (m : Nat))] = some (zeroC h m) := by kernel_rfl
theorem run_buildC (w : World) : (Instr.build 42 #[]).run Try.prog w = .ok (.agg (zeroC 0 0)) w := run_build w _ #[] (zeroC 0 0) builtC
theorem run_buildC2 (h m : Nat) (w : World) : (Instr.build 42 #[(4, .int .i64 (h : Nat)), (5, .int .i64 (m : Nat))]).run Try.prog w = .ok (.agg (zeroC h m)) w := run_build w _ #[(4, .int .i64 (h : Nat)), (5, .int .i64 (m : Nat))] (zeroC h m) (builtC2 h m)
theorem infoC : (Try.prog.info? 42).map (fun i => i.zero) = some (some (.agg (zeroC 0 0))) := by kernel_rfl
theorem run_zeroC (w : World) : Sem.run Try.prog (zeroValue 42) w = .ok (.agg (zeroC 0 0)) w := by
  have h := infoC
  cases hi : Try.prog.info? 42 with
  | none => rw [hi] at h; cases h
  | some i =>
    rw [hi] at h
    have hz : i.zero = some (.agg (zeroC 0 0)) := by simpa using h
    simp [zeroValue, typeInfo, hi, hz]
theorem wpList_buildC2 {ops : Array Oper} {rest : List Oper} {o : Oper} {a : Act} {w : World} {Q : Exit → Act → World → Prop} (hg : o.guard = none) (x y : Operand) (ho : o.op = .build 42 #[(4, x), (5, y)]) (h m : Nat) (hx : a.eval x = .int .i64 (h : Nat)) (hy : a.eval y = .int .i64 (m : Nat))
    (hK : wpList Try.prog ops Q rest (a.put o.dst (.agg (zeroC h m))) w) : wpList Try.prog ops Q (o :: rest) a w := by
  have e : Try.prog.built 42 ((#[(4, x), (5, y)] : Array (Nat × Operand)).map fun (i, x) => (i, a.eval x)).toList = some (zeroC h m) := by
    simp only [List.map_toArray, List.map_cons, List.map_nil, hx, hy]
    exact builtC2 h m
  refine wpList_build hg _ _ ho (by rw [e]; rfl) ?_
  rw [e]
  exact hK
theorem zero_b {h m k : Nat} (hk : k < 32) : (zeroC h m)[k]? = some (.bool false) := by
  unfold zeroC
  rw [List.getElem?_toArray, List.getElem?_append_left (by rw [List.length_replicate]; exact hk), List.getElem?_replicate, if_pos hk]
theorem zero_i {h m k : Nat} (h1 : 32 ≤ k) (h2 : k < 128) : (zeroC h m)[k]? = some (.int .i64 0) := by
  unfold zeroC
  rw [List.getElem?_toArray, List.getElem?_append_right (by rw [List.length_replicate]; exact h1), List.length_replicate, List.getElem?_append_left (by rw [List.length_replicate]; omega), List.getElem?_replicate, if_pos (by omega)]
theorem zero_h (h m : Nat) : (zeroC h m)[128]? = some (.int .i64 (h : Nat)) := rfl
theorem zero_m (h m : Nat) : (zeroC h m)[129]? = some (.int .i64 (m : Nat)) := rfl
theorem zero_ref (h m : Nat) (w : World) : RefC (w.alloc (.cells (zeroC h m) 42)) w.heap.size ⟨fun _ => none, h, m⟩ := by
  have hh : (w.alloc (.cells (zeroC h m) 42)).heap[w.heap.size]? = some (.cells (zeroC h m) 42 (0, 0)) := heap_alloc_new _ _
  generalize w.alloc (.cells (zeroC h m) 42) = W at hh ⊢
  generalize w.heap.size = b at hh ⊢
  refine ⟨fun _ => (0, 0, 0), fun k => ⟨i64_0, i64_0, i64_0⟩, fun k hk => ?_, fun k hk => ?_, fun k hk => ?_, fun k hk => ?_, ?_, ?_, fun k => by simp [World.frozen?, hh], fun k t ht => by cases ht⟩
  · simp [World.cell?, hh, zero_b hk]
  · simp [World.cell?, hh, zero_i (h := h) (m := m) (k := 32 + k) (by omega) (by omega)]
  · simp [World.cell?, hh, zero_i (h := h) (m := m) (k := 64 + k) (by omega) (by omega)]
  · simp [World.cell?, hh, zero_i (h := h) (m := m) (k := 96 + k) (by omega) (by omega)]
  · simp [World.cell?, hh, zero_h]
  · simp [World.cell?, hh, zero_m]
/-- which lines have one, as an array by value -/
def hasV (L : Ln) : List Value := (List.range 32).map (fun k => Value.bool (L k).isSome)
theorem hasV_len (L : Ln) : (hasV L).length = 32 := by simp [hasV]
theorem hasV_at {L : Ln} {k : Nat} (hk : k < 32) : (hasV L)[k]? = some (.bool (L k).isSome) := by
  unfold hasV
  rw [List.getElem?_map, List.getElem?_range hk]
  rfl
theorem cellsB1 : (Try.prog.info? 4).map (fun i => i.size) = some 1 := by kernel_rfl
theorem infoA32 : (Try.prog.info? 39).map (fun i => i.size) = some 32 := by kernel_rfl
theorem rowA32 : (∃ d, Try.prog.underlying 39 = some d ∧ d.isRow = true) := ⟨_, Try.underlying39, rfl⟩
theorem run_index_h (w : World) {L : Ln} {k : Nat} (hk : k < 32) : (Instr.index 39 (.agg (hasV L).toArray) (.int .i64 (k : Int))).run Try.prog w = .ok (.bool (L k).isSome) w := by
  have h1 : (0 : Int) ≤ (k : Int) ∧ (k : Int) < ((32 : Nat) : Int) := by omega
  have hv := hasV_at (L := L) hk
  obtain ⟨i, hi, hs⟩ := Option.map_eq_some_iff.1 cellsB1
  simp [Instr.index, run_underlying Try.underlying39, asIntOf, sizeOf, typeInfo, hi, hs, part, isAgg, run_underlying Try.underlying4, go_sem]
  rw [if_pos hk]
  rw [hv]
  rfl
theorem RefP.range {w : World} {b : Nat} {P : Nat → Int × Int × Int} {S : Cst} (h : RefP w b P S) : w.rangeAt b 0 (hasV S.L) := by
  intro j v hj
  have hlt : j < 32 := by
    have := (List.getElem?_eq_some_iff.1 hj).1
    rw [hasV_len] at this; exact this
  have e := hasV_at (L := S.L) hlt
  rw [hj] at e
  cases e
  rw [Nat.zero_add]
  exact h.ch j hlt
set_option maxHeartbeats 8000000 in
theorem rlen_c {w : World} {b : Nat} {S : Cst} (h : RefC w b S) :
    Calls Try.prog 19 #[.pointer (some ⟨b, 0, none⟩)] w fun e w' => e = .returned (.int .i64 (cntL S : Nat)) ∧ w' = w := by
  obtain ⟨P, h⟩ := h
  have hr := Lib.hid h.range
  obtain ⟨L, hL⟩ : ∃ L, S.L = L := ⟨_, rfl⟩
  unfold cntL
  rw [hL] at hr ⊢
  clear h hL
  obtain ⟨d, hd, hrow⟩ := rowA32
  replace hd := Lib.hid hd
  replace hrow := Lib.hid hrow
  have hix : Hid (∀ (w : World) (k : Nat), k < 32 → (Instr.index 39 (.agg (hasV L).toArray) (.int .i64 (k : Int))).run Try.prog w = .ok (.bool (L k).isSome) w) := Lib.hid (fun w k hk => run_index_h w hk)
  go_enter Try.func19, Try.ntmps19
  go_wp2_with (refine wpList_load_mid rfl _ _ rfl b 0 rfl (hasV L) d hr.out hd.out hrow.out (by rw [hasV_len]; exact infoA32) ?_)
  generalize (hasV L).toArray = AV at *
  go_loopw [3, 10] (fun i3 i10 wr => ∃ k : Nat, k ≤ 32 ∧ i10 = .int .i64 k ∧ i3 = .int .i64 (cntK L k : Nat) ∧ wr = w) (fun _ i10 _ => 32 - (intOf i10).toNat)
  case atStart => exact ⟨0, by omega, rfl, rfl, rfl⟩
  case round =>
    obtain ⟨k, hk, rfl, rfl, rfl⟩ := hrel
    have hck := cntK_le L k
    by_cases hlt : k < 32
    · have d1 : decide ((k : Int) < 32) = true := by simp; omega
      have i0 : (0 : Int) ≤ (k : Int) := by omega
      have i1 : (k : Int) < 32 := by omega
      have ci := hix.out wr k hlt
      have hn := cntK_next L k
      cases hx : (L k).isSome with
      | true =>
        rw [hx] at ci
        rw [if_pos hx] at hn
        replace hn := Lib.hid hn
        clear hx
        go_wp2
        go_roundw
        case rel => exact ⟨k + 1, by omega, by go_num, by rw [hn.out]; go_num, trivial⟩
        case measure => simp [intOf]; omega
      | false =>
        rw [hx] at ci
        rw [if_neg (by rw [hx]; decide)] at hn
        replace hn := Lib.hid hn
        clear hx
        go_wp2
        go_roundw
        case rel => exact ⟨k + 1, by omega, by go_num, by rw [hn.out]; rfl, trivial⟩
        case measure => simp [intOf]; omega
    · have d1 : decide ((k : Int) < 32) = false := by simp; omega
      have hk32 : k = 32 := by omega
      subst hk32
      go_wp2
      go_ret
      exact ⟨rfl, rfl⟩
end Wd
end Go.Proofs.Ytpilbpofikdkmaa
