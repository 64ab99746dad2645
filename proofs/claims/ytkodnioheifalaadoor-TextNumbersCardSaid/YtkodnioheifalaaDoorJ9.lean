/- Texts joined: TLB, CA, CB, TLC, TLD, TK, TLE. -/
import Derived.Test.YtkodnioheifalaaDoorJ1
import Derived.Test.YtkodnioheifalaaDoorJ3
import Derived.Test.YtkodnioheifalaaDoorJ8
import Derived.StillTailTactics
import Derived.OrdersHeld
import Derived.WalkKit
import Derived.Deep.RegionHeld3
import Derived.Deep.RegionWith
import Derived.KernelRfl
/- A strings.Builder of the call's own, and cutting a text at a byte. -/
namespace Go.Proofs.YtkodnioheifalaaDoor
open Go.RowKit
set_option linter.unusedVariables false
set_option maxRecDepth 100000
namespace Wd
theorem liesB : liesAt Tryd.prog Tryd.prog.depth 71 (2 / Tryd.prog.cellsOf 71) 0 71 1 = true := by kernel_rfl
theorem sizeB : (Tryd.prog.info? 71).map (·.size) = some 2 := by kernel_rfl
/-- a builder at block b, made by the call (blocks from B on), holds l -/
def Bld (B b : Nat) (l : Bs) (w : World) : Prop := Lib.IsBuilder 71 5 B b (Lib.byteCells l) w
theorem bat_up {B b : Nat} {p : Value} {xs : List Value} {w w' : World} (h : Lib.BuilderAt 71 5 B b p xs w) (hb : Below w.heap.size w w') : Lib.BuilderAt 71 5 B b p xs w' := by
  have hlt := h.lt
  obtain ⟨h1, v, h2, ⟨h3, h4⟩, h5⟩ := h
  refine ⟨h1, v, (hb.block _ hlt).trans h2, ⟨h3, ?_⟩, h5⟩
  rcases h4 with h4 | ⟨g, cap, cur, e, h6, h7, h8⟩
  · exact Or.inl h4
  · refine Or.inr ⟨g, cap, cur, e, h6, ?_, h8⟩
    refine (hb.block _ ?_).trans h7
    rcases Nat.lt_or_ge g w.heap.size with h' | h'
    · exact h'
    · rw [Array.getElem?_eq_none h'] at h7
      cases h7
theorem Bld.up {B b : Nat} {l : Bs} {w w' : World} (h : Bld B b l w) (hb : Below w.heap.size w w') : Bld B b l w' := h.elim (fun h => Or.inl (bat_up h hb)) (fun h => Or.inr (bat_up h hb))
theorem Bld.born (w : World) : Bld w.heap.size w.heap.size [] (w.alloc (.cells #[.pointer none, .slice none 0 0] 71)) := Lib.fresh_isBuilder _ _ w
set_option maxHeartbeats 1000000 in
theorem bcheck_c {B b : Nat} {xs : List Value} {w : World} (h : Lib.IsBuilder 71 5 B b xs w) :
    Calls Tryd.prog 59 #[.pointer (some ⟨b, 0, none⟩)] w fun e w' => e = .returned (.tuple #[]) ∧ (Lib.BuilderAt 71 5 B b (.pointer (some ⟨b, 0, none⟩)) xs w' ∧ Below B w w' ∧ (∀ k, k ≠ b → w'.heap[k]? = w.heap[k]?) ∧ w'.heap.size = w.heap.size) := by
  obtain ⟨j, hj, hjs⟩ := Option.map_eq_some_iff.1 sizeB
  rcases h with h | h
  · have h0 := h.cell0
    have hsh := h.shape
    have hfz := h.frozen0
    go_enter Tryd.func59, Tryd.ntmps59
    go_wp2
    rw [Lib.run_to_unsafe w ⟨b, 0, none⟩ Tryd.underlying69 Tryd.underlying105 hj (by rw [hjs]; decide) hsh (Nat.zero_lt_succ 1)]
    simp only [Result.andThen]
    rw [Oper.upon_value]
    go_wp2
    rw [run_callFunc_extern Tryd.func66 (by kernel_rfl) (by kernel_rfl) (by kernel_rfl) (e := Extern.AbiNoEscape.same) (by kernel_rfl)]
    rw [Lib.run_noEscape]
    simp only [Result.andThen]
    rw [Oper.upon_value]
    go_wp2
    rw [Lib.run_from_unsafe w ⟨b, 0, none⟩ Tryd.underlying105 Tryd.underlying69 hj hsh liesB]
    simp only [Result.andThen]
    rw [Oper.upon_value]
    go_wp2
    go_end0
    exact ⟨rfl, h.used _, (Below.refl B w).setCell (p := ⟨b, 0, none⟩) h.1 _, fun k hk => Below.heap_setCell _ _ _ _ (fun e => hk (by simp [e])), by simp [World.setCell]⟩
  · have h0 := h.cell0
    go_enter Tryd.func59, Tryd.ntmps59
    go_wp2
    rw [Lib.run_neq_ptr_same w _ Tryd.underlying69 hj]
    go_wp2
    go_end0
    exact ⟨rfl, h, Below.refl B _, fun _ _ => rfl, rfl⟩
set_option maxHeartbeats 2000000 in
theorem bwrite_c {B b : Nat} {l : Bs} {w : World} (s : Bs) (h : Bld B b l w) (hlen : l.length + s.length ≤ 140737488355328) (hBw : B ≤ w.heap.size) :
    Calls Tryd.prog 49 #[.pointer (some ⟨b, 0, none⟩), .string (bs s)] w fun e w' => (∃ v, e = .returned v) ∧ Bld B b (l ++ s) w' ∧ Below B w w' ∧ (∀ k, k < w.heap.size → k ≠ b → (∀ cs z, w.heap[k]? ≠ some (.cells cs 5 z)) → w'.heap[k]? = w.heap[k]?) ∧ w.heap.size ≤ w'.heap.size := by
  obtain ⟨i0, hi, hz0, hz1, hz2⟩ := info_parts infoB8
  have hs : (bs s).size = s.length := bs_size s
  go_enter Tryd.func49, Tryd.ntmps49
  go_wp2_with (go_at_call 59; refine (bcheck_c h).mono ?_)
  rintro e w1 ⟨rfl, h1, hb1, hk1, hz1'⟩
  obtain ⟨hB, v, hbk, hown, hne⟩ := h1
  have c0 : w1.cell? ⟨b, 0, none⟩ = some (.pointer (some ⟨b, 0, none⟩)) := by rw [Lib.cell_of_heap hbk]; rfl
  have c1 : w1.cell? ⟨b, 1, none⟩ = some v := by rw [Lib.cell_of_heap hbk]; rfl
  have hl : (Lib.byteCells l).length = l.length := Lib.byteCells_length l
  go_wp2_with (at_builtin; refine Lib.wpList_append_own_string _ rfl _ _ 35 9 rfl B 5 i0 Tryd.underlying35 Tryd.underlying9 hi hz0 hz1 hz2 _ _ _ rfl hown (bs s) rfl ?c3 ?c4 ?c5 ?_)
  case c3 => unfold maxLen; rw [hl, hs]; omega
  case c4 => rw [hl, hs]; omega
  case c5 => have := hb1.size; omega
  intro v' w2 hown' hgrow _
  have hlt : b < w1.heap.size := by
    rcases Nat.lt_or_ge b w1.heap.size with h' | h'
    · exact h'
    · simp [Array.getElem?_eq_none h'] at hbk
  have hb2 : w2.heap[b]? = some (.cells #[.pointer (some ⟨b, 0, none⟩), v] 71 (0, 0)) := by
    rw [hgrow.block b hlt (fun e => hne e.symm)]
    exact hbk
  have d0 : w2.cell? ⟨b, 0, none⟩ = some (.pointer (some ⟨b, 0, none⟩)) := by rw [Lib.cell_of_heap hb2]; rfl
  have d1 : w2.cell? ⟨b, 1, none⟩ = some v := by rw [Lib.cell_of_heap hb2]; rfl
  have f1 : w2.frozen? ⟨b, 1, none⟩ = false := Lib.frozen_of_heap hb2 1
  obtain ⟨ao, n', cap, rfl⟩ : ∃ ao n' cap, v' = .slice ao n' cap := by
    rcases hown'.2 with ⟨hv, _⟩ | ⟨g, cap, cur, hv, _⟩
    · exact ⟨_, _, _, hv⟩
    · exact ⟨_, _, _, hv⟩
  go_wp2
  go_ret2
  have e1 : Lib.byteCells l ++ Lib.strCells (bs s) = Lib.byteCells (l ++ s) := by
    rw [show Lib.strCells (bs s) = Lib.byteCells s from rfl]
    simp [Lib.byteCells]
  refine ⟨⟨_, rfl⟩, Or.inr ?_, ?_, ?_, ?_⟩
  · rw [← e1]
    exact Lib.BuilderAt.put (T := 71) (e := 5) hB hb2 (bs' := Lib.byteCells l ++ Lib.strCells (bs s)) (by rw [List.length_append, Lib.strCells_length, hl, hs]; exact hown') (by decide)
  · exact (hb1.grown hgrow (by have := hb1.size; omega) (fun k hk => (hown.lt k hk).1)).setCell (p := ⟨b, 1, none⟩) hB _
  · intro k hk hkb hkt
    have e2 := Below.heap_setCell w2 ⟨b, 1, none⟩ (.slice ao n' cap) k (fun e => hkb (by simp [e]))
    refine e2.trans ((hgrow.block k (by omega) (fun e => ?_)).trans (hk1 k hkb))
    rcases hown.2 with ⟨hv, _⟩ | ⟨g, cap, cur, hv, _, hg, _⟩
    · rw [hv] at e; cases e
    · rw [hv] at e
      obtain rfl : g = k := by simpa [Value.ownBlock] using e.symm
      rw [hk1 _ hkb] at hg
      exact hkt _ _ hg
  · have := hgrow.size
    simp [World.setCell]
    omega
theorem bstring_c {B b : Nat} {l : Bs} {w : World} (h : Bld B b l w) (hBw : B ≤ w.heap.size) :
    Calls Tryd.prog 33 #[.pointer (some ⟨b, 0, none⟩)] w fun e w' => e = .returned (.string (bs l)) ∧ Below B w w' := Tryd.Builder_String_any B b l w h hBw
/-! ### cutting -/
theorem idx_cases (l : Bs) (c : UInt8) : (c ∉ l ∧ Lib.indexByte l c = -1 ∧ cut1 c l = (l, [])) ∨ ∃ k : Nat, k < l.length ∧ c ∈ l ∧ Lib.indexByte l c = k ∧ cut1 c l = (l.take k, l.drop (k + 1)) := by
  induction l with
  | nil => exact Or.inl ⟨by simp, rfl, rfl⟩
  | cons x r ih =>
    by_cases e : x = c
    · subst e
      exact Or.inr ⟨0, by simp, by simp, by simp [Lib.indexByte], by simp [cut1]⟩
    · have e' : (x == c) = false := by simpa using e
      rcases ih with ⟨h1, h2, h3⟩ | ⟨k, h1, h2, h3, h4⟩
      · refine Or.inl ⟨by simp [h1]; exact fun h => e h.symm, ?_, ?_⟩
        · simp only [Lib.indexByte, e', h2]; rfl
        · rw [cut1, if_neg e, h3]
      · refine Or.inr ⟨k + 1, by simp; omega, by simp [h2], ?_, ?_⟩
        · have : ((k : Int) == -1) = false := by simp
          simp only [Lib.indexByte, e', h3, this]
          simp
        · rw [cut1, if_neg e, h4]
          rfl
theorem bs_take (l : Bs) (k : Nat) : (bs l).extract 0 k = bs (l.take k) := by
  apply ByteArray.ext
  simp [bs, ByteArray.data_extract]
theorem bs_drop (l : Bs) (k : Nat) : (bs l).extract k (bs l).size = bs (l.drop k) := by
  apply ByteArray.ext
  simp [bs, ByteArray.data_extract, ByteArray.size]
  rw [List.take_of_length_le (by simp)]
set_option maxHeartbeats 2000000 in
theorem scut_c (l : Bs) (c : UInt8) (hm : l.length ≤ 4611686018427387904) (w : World) :
    Calls Tryd.prog 44 #[.string (bs l), .string (bs [c])] w fun e w' => e = .returned (.tuple #[.string (bs (cut1 c l).1), .string (bs (cut1 c l).2), .bool (decide (c ∈ l))]) ∧ Below w.heap.size w w' := by
  have C := Tryd.stringslite_Index_one (bs l) c
  rw [bs_list] at C
  rcases idx_cases l c with ⟨h1, h2, h3⟩ | ⟨k, h1, h2, h3, h4⟩
  · rw [h2] at C
    rw [h3, decide_eq_false h1]
    replace C := Lib.hid C
    clear h1 h2 h3
    go_enter Tryd.func44, Tryd.ntmps44
    go_wp2_with (go_at_call 55; refine (C.out _).mono ?_; rintro e w' ⟨rfl, rfl⟩)
    go_ret3
    exact ⟨rfl, Below.refl _ _⟩
  · rw [h3] at C
    rw [h4, decide_eq_true h2]
    have hsz : (bs l).size = l.length := bs_size l
    have h1s : (bs [c]).size = 1 := rfl
    have hw : IntKind.i64.wrap ((k : Int) + 1) = (k : Int) + 1 := by unfold IntKind.wrap; simp [IntKind.signed, IntKind.bits]; omega
    have c1 : (0 : Int) ≤ (k : Int) := by omega
    have c2 : (k : Int) ≤ ((bs l).size : Int) := by omega
    have c3 : (0 : Int) ≤ (k : Int) + 1 := by omega
    have c4 : ((k : Int) + 1) ≤ ((bs l).size : Int) := by omega
    have e1 := bs_take l k
    have e2 := bs_drop l (k + 1)
    replace C := Lib.hid C
    replace e1 := Lib.hid e1
    replace e2 := Lib.hid e2
    clear h1 h2 h3 h4 hsz
    go_enter Tryd.func44, Tryd.ntmps44
    go_wp2_with (go_at_call 55; refine (C.out _).mono ?_; rintro e w' ⟨rfl, rfl⟩)
    go_region
    go_wp2
    go_ret3
    refine ⟨?_, (Below.refl _ _).drew⟩
    rw [← e1.out, ← e2.out]
    rfl
theorem cut_c (l : Bs) (c : UInt8) (hm : l.length ≤ 4611686018427387904) (w : World) :
    Calls Tryd.prog 26 #[.string (bs l), .string (bs [c])] w fun e w' => e = .returned (.tuple #[.string (bs (cut1 c l).1), .string (bs (cut1 c l).2), .bool (decide (c ∈ l))]) ∧ Below w.heap.size w w' := by
  have C := Lib.hid (scut_c l c hm)
  go_enter Tryd.func26, Tryd.ntmps26
  go_wp2_with (go_at_call 44; refine (C.out _).mono ?_; rintro e w' ⟨rfl, hb⟩)
  go_ret3
  exact ⟨rfl, hb⟩
end Wd
end Go.Proofs.YtkodnioheifalaaDoor

/- The landed instructions: one of so many, slots, what a primitive takes, names, has a method such a literal. -/
namespace Go.Proofs.YtkodnioheifalaaDoor
open Go.RowKit
set_option linter.unusedVariables false
set_option maxRecDepth 20000
namespace Wd
set_option maxHeartbeats 8000000 in
theorem kname_c (p : Int) (hp : In64 p) (w : World) : Calls Tryd.prog 51 #[.int .i64 p] w fun e w' => e = .returned (.string (namR p)) ∧ Below w.heap.size w w' := by
  by_cases h : p < 0 ∨ p > 21
  · have e : Hid (namR p = ⟨#[]⟩) := Lib.hid (if_pos h)
    have f0 : (p == 0) = false := by simp; omega
    have f1 : (p == 1) = false := by simp; omega
    have f2 : (p == 2) = false := by simp; omega
    have f3 : (p == 3) = false := by simp; omega
    have f4 : (p == 4) = false := by simp; omega
    have f5 : (p == 5) = false := by simp; omega
    have f6 : (p == 6) = false := by simp; omega
    have f7 : (p == 7) = false := by simp; omega
    have f8 : (p == 8) = false := by simp; omega
    have f9 : (p == 9) = false := by simp; omega
    have f10 : (p == 10) = false := by simp; omega
    have f11 : (p == 11) = false := by simp; omega
    have f12 : (p == 12) = false := by simp; omega
    have f13 : (p == 13) = false := by simp; omega
    have f14 : (p == 14) = false := by simp; omega
    have f15 : (p == 15) = false := by simp; omega
    have f16 : (p == 16) = false := by simp; omega
    have f17 : (p == 17) = false := by simp; omega
    have f18 : (p == 18) = false := by simp; omega
    have f19 : (p == 19) = false := by simp; omega
    have f20 : (p == 20) = false := by simp; omega
    have f21 : (p == 21) = false := by simp; omega
    clear h
    go_enter Tryd.func51, Tryd.ntmps51
    go_wp2
    go_ret
    exact ⟨by rw [e.out]; rfl, Below.refl _ _⟩
  · rcases (show p = 0 ∨ p = 1 ∨ p = 2 ∨ p = 3 ∨ p = 4 ∨ p = 5 ∨ p = 6 ∨ p = 7 ∨ p = 8 ∨ p = 9 ∨ p = 10 ∨ p = 11 ∨ p = 12 ∨ p = 13 ∨ p = 14 ∨ p = 15 ∨ p = 16 ∨ p = 17 ∨ p = 18 ∨ p = 19 ∨ p = 20 ∨ p = 21 by omega) with rfl | rfl | rfl | rfl | rfl | rfl | rfl | rfl | rfl | rfl | rfl | rfl | rfl | rfl | rfl | rfl | rfl | rfl | rfl | rfl | rfl | rfl
    · go_enter Tryd.func51, Tryd.ntmps51
      go_wp2
      go_ret
      exact ⟨rfl, Below.refl _ _⟩
    · go_enter Tryd.func51, Tryd.ntmps51
      go_wp2
      go_ret
      exact ⟨rfl, Below.refl _ _⟩
    · go_enter Tryd.func51, Tryd.ntmps51
      go_wp2
      go_ret
      exact ⟨rfl, Below.refl _ _⟩
    · go_enter Tryd.func51, Tryd.ntmps51
      go_wp2
      go_ret
      exact ⟨rfl, Below.refl _ _⟩
    · go_enter Tryd.func51, Tryd.ntmps51
      go_wp2
      go_ret
      exact ⟨rfl, Below.refl _ _⟩
    · go_enter Tryd.func51, Tryd.ntmps51
      go_wp2
      go_ret
      exact ⟨rfl, Below.refl _ _⟩
    · go_enter Tryd.func51, Tryd.ntmps51
      go_wp2
      go_ret
      exact ⟨rfl, Below.refl _ _⟩
    · go_enter Tryd.func51, Tryd.ntmps51
      go_wp2
      go_ret
      exact ⟨rfl, Below.refl _ _⟩
    · go_enter Tryd.func51, Tryd.ntmps51
      go_wp2
      go_ret
      exact ⟨rfl, Below.refl _ _⟩
    · go_enter Tryd.func51, Tryd.ntmps51
      go_wp2
      go_ret
      exact ⟨rfl, Below.refl _ _⟩
    · go_enter Tryd.func51, Tryd.ntmps51
      go_wp2
      go_ret
      exact ⟨rfl, Below.refl _ _⟩
    · go_enter Tryd.func51, Tryd.ntmps51
      go_wp2
      go_ret
      exact ⟨rfl, Below.refl _ _⟩
    · go_enter Tryd.func51, Tryd.ntmps51
      go_wp2
      go_ret
      exact ⟨rfl, Below.refl _ _⟩
    · go_enter Tryd.func51, Tryd.ntmps51
      go_wp2
      go_ret
      exact ⟨rfl, Below.refl _ _⟩
    · go_enter Tryd.func51, Tryd.ntmps51
      go_wp2
      go_ret
      exact ⟨rfl, Below.refl _ _⟩
    · go_enter Tryd.func51, Tryd.ntmps51
      go_wp2
      go_ret
      exact ⟨rfl, Below.refl _ _⟩
    · go_enter Tryd.func51, Tryd.ntmps51
      go_wp2
      go_ret
      exact ⟨rfl, Below.refl _ _⟩
    · go_enter Tryd.func51, Tryd.ntmps51
      go_wp2
      go_ret
      exact ⟨rfl, Below.refl _ _⟩
    · go_enter Tryd.func51, Tryd.ntmps51
      go_wp2
      go_ret
      exact ⟨rfl, Below.refl _ _⟩
    · go_enter Tryd.func51, Tryd.ntmps51
      go_wp2
      go_ret
      exact ⟨rfl, Below.refl _ _⟩
    · go_enter Tryd.func51, Tryd.ntmps51
      go_wp2
      go_ret
      exact ⟨rfl, Below.refl _ _⟩
    · go_enter Tryd.func51, Tryd.ntmps51
      go_wp2
      go_ret
      exact ⟨rfl, Below.refl _ _⟩
end Wd
end Go.Proofs.YtkodnioheifalaaDoor

/- The landed instructions: Fetch. -/
namespace Go.Proofs.YtkodnioheifalaaDoor
open Go.RowKit
set_option linter.unusedVariables false
set_option maxRecDepth 20000
namespace Wd
theorem two_at {w : World} {q : Nat} {v0 v1 u0 u1 : Value} (c0 : w.cell? ⟨q, 0, none⟩ = some u0) (c1 : w.cell? ⟨q, 1, none⟩ = some u1) : ((w.setCell ⟨q, 0, none⟩ v0).setCell ⟨q, 1, none⟩ v1).cell? ⟨q, 0, none⟩ = some v0 ∧ ((w.setCell ⟨q, 0, none⟩ v0).setCell ⟨q, 1, none⟩ v1).cell? ⟨q, 1, none⟩ = some v1 :=
  ⟨(World.cell?_setCell_other _ _ _ _ (by simp)).trans (World.cell?_setCell_same _ _ _ c0), World.cell?_setCell_same _ _ _ ((World.cell?_setCell_other _ _ _ _ (by simp)).trans c1)⟩
set_option maxHeartbeats 8000000 in
theorem kfetch_c {w : World} {v : Value} {m : MethA} (h : MeV w v m) (pc : Int) (hp : In64 pc) :
    Calls Tryd.prog 30 #[v, .int .i64 pc] w fun e w' => e = .returned (.tuple #[.agg #[.int .i64 (fetR m.code pc).1, .int .i64 (fetR m.code pc).2.1], .bool (fetR m.code pc).2.2]) ∧ Below w.heap.size w w' := by
  obtain ⟨la, lc, ca, cc, rfl, hl, hc⟩ := h.ex
  have hB0 := MeB.born h
  have hW0 := (Below.refl w.heap.size w).alloc (Nat.le_refl _) (.cells #[.int .i64 m.args, .int .i64 m.temps, .slice la m.lits.length lc, .slice ca m.code.length cc] 37)
  have hle := len_le hc.le
  obtain ⟨p0, p1⟩ := hp
  have wl : IntKind.i64.wrap ((m.code.length : Int) - 1) = (m.code.length : Int) - 1 := by rw [IntKind.wrap_i64]; omega
  have hB1 := hB0.up ((Below.refl _ _).alloc (Nat.le_refl _) (.cells #[.int .i64 0, .int .i64 0] 75))
  have hW1 := hW0.trans (((Below.refl _ _).alloc (Nat.le_refl _) (.cells #[.int .i64 0, .int .i64 0] 75)).mono hW0.size)
  have x0 : ((w.alloc (.cells #[.int .i64 m.args, .int .i64 m.temps, .slice la m.lits.length lc, .slice ca m.code.length cc] 37)).alloc (.cells #[.int .i64 0, .int .i64 0] 75)).cell? ⟨(w.alloc (.cells #[.int .i64 m.args, .int .i64 m.temps, .slice la m.lits.length lc, .slice ca m.code.length cc] 37)).heap.size, 0, none⟩ = some (.int .i64 0) := by simp
  have x1 : ((w.alloc (.cells #[.int .i64 m.args, .int .i64 m.temps, .slice la m.lits.length lc, .slice ca m.code.length cc] 37)).alloc (.cells #[.int .i64 0, .int .i64 0] 75)).cell? ⟨(w.alloc (.cells #[.int .i64 m.args, .int .i64 m.temps, .slice la m.lits.length lc, .slice ca m.code.length cc] 37)).heap.size, 1, none⟩ = some (.int .i64 0) := by simp
  have hs : (w.alloc (.cells #[.int .i64 m.args, .int .i64 m.temps, .slice la m.lits.length lc, .slice ca m.code.length cc] 37)).heap.size = w.heap.size + 1 := by simp
  rw [hs] at x0 x1
  have a3 := hB1.c3
  have fz : ∀ k, ((w.alloc (.cells #[.int .i64 m.args, .int .i64 m.temps, .slice la m.lits.length lc, .slice ca m.code.length cc] 37)).alloc (.cells #[.int .i64 0, .int .i64 0] 75)).frozen? ⟨w.heap.size + 1, k, none⟩ = false := fun k => by rw [← hs]; simp
  replace hB0 := Lib.hid hB1
  replace hW0 := Lib.hid hW1
  go_enter Tryd.func30, Tryd.ntmps30
  go_upto_region 1 with fail
  clear h hB1 hW1 hs
  generalize (w.alloc (.cells #[.int .i64 m.args, .int .i64 m.temps, .slice la m.lits.length lc, .slice ca m.code.length cc] 37)).alloc (.cells #[.int .i64 0, .int .i64 0] 75) = W at *
  obtain ⟨Q, hQ⟩ : ∃ Q, Q = w.heap.size + 1 := ⟨_, rfl⟩
  rw [← hQ] at x0 x1 fz ⊢
  have fz0 := fz 0
  have fz1 := fz 1
  have hQ1 := Lib.hid (show w.heap.size ≤ Q by omega)
  clear hQ
  by_cases h0 : pc < 0
  · have d1 : decide (pc < 0) = true := by simpa using h0
    have e := Lib.hid (fet_no (C := m.code) (Or.inl h0))
    go_wp2
    obtain ⟨r0, r1⟩ := two_at (v0 := .int .i64 0) (v1 := .int .i64 0) x0 x1
    refine bodyPost_ret (by simp [results, Tryd.results30, go_sem, r0, r1]; try rfl) rfl ?_
    refine ⟨by rw [e.out], ?_⟩
    exact (hW0.out.setCell hQ1.out _).setCell hQ1.out _
  · have d1 : decide (pc < 0) = false := by simpa using h0
    obtain ⟨k, rfl⟩ : ∃ k : Nat, pc = k := ⟨pc.toNat, by omega⟩
    have hm := mod2 (n := k)
    rcases (show k % 2 = 1 ∨ k % 2 = 0 by omega) with h1 | h1
    · have e := Lib.hid (fet_no (C := m.code) (pc := (k : Int)) (Or.inr (Or.inl (by omega))))
      rw [h1] at hm
      replace hm : Int.tmod (k : Int) 2 = 1 := hm
      go_wp2
      obtain ⟨r0, r1⟩ := two_at (v0 := .int .i64 0) (v1 := .int .i64 0) x0 x1
      refine bodyPost_ret (by simp [results, Tryd.results30, go_sem, r0, r1]; try rfl) rfl ?_
      refine ⟨by rw [e.out], ?_⟩
      exact (hW0.out.setCell hQ1.out _).setCell hQ1.out _
    · rw [h1] at hm
      replace hm : Int.tmod (k : Int) 2 = 0 := hm
      by_cases h2 : (k : Int) > (m.code.length : Int) - 2
      · have e := Lib.hid (fet_no (C := m.code) (pc := (k : Int)) (Or.inr (Or.inr h2)))
        have d2 : decide ((k : Int) ≥ (m.code.length : Int) - 1) = true := by simp; omega
        go_wp2
        obtain ⟨r0, r1⟩ := two_at (v0 := .int .i64 0) (v1 := .int .i64 0) x0 x1
        refine bodyPost_ret (by simp [results, Tryd.results30, go_sem, r0, r1]; try rfl) rfl ?_
        refine ⟨by rw [e.out], ?_⟩
        exact (hW0.out.setCell hQ1.out _).setCell hQ1.out _
      · have e := fet_yes (C := m.code) (pc := (k : Int)) (by omega) (by omega) (by omega)
        have d2 : decide ((k : Int) ≥ (m.code.length : Int) - 1) = false := by simp; omega
        rw [Int.toNat_natCast] at e
        replace e := Lib.hid e
        have k0 : (0 : Int) ≤ (k : Int) := by omega
        have k1 : (k : Int) < (m.code.length : Int) := by omega
        have k2 : (0 : Int) ≤ (k : Int) + 1 := by omega
        have k3 : (k : Int) + 1 < (m.code.length : Int) := by omega
        have wk : IntKind.i64.wrap ((k : Int) + 1) = (k : Int) + 1 := by rw [IntKind.wrap_i64]; omega
        obtain ⟨b0, g, off, rfl, c0⟩ := hB0.out.py.2.at (byAt_some (C := m.code) (k := k) (by omega))
        obtain ⟨b1, g', off', eg, c1⟩ := hB0.out.py.2.at (byAt_some (C := m.code) (k := k + 1) (by omega))
        cases eg
        generalize byAt m.code k = x at *
        generalize byAt m.code (k + 1) = y at *
        have wx : IntKind.i64.wrap x = x := by rw [IntKind.wrap_i64]; omega
        have wy : IntKind.i64.wrap y = y := by rw [IntKind.wrap_i64]; omega
        go_upto_region 3 with fail
        go_still_tail 14, (by kernel_rfl)
        change wpList _ _ _ _ _ (World.drew _)
        go_wp2
        obtain ⟨r0, r1⟩ := two_at (v0 := .int .i64 x) (v1 := .int .i64 y) x0 x1
        replace hW0 := Lib.hid ((hW0.out.setCell hQ1.out (a := w) (p := ⟨Q, 0, none⟩) (.int .i64 x)).setCell hQ1.out (p := ⟨Q, 1, none⟩) (.int .i64 y))
        generalize (W.setCell ⟨Q, 0, none⟩ (.int .i64 x)).setCell ⟨Q, 1, none⟩ (.int .i64 y) = W9 at *
        replace r0 : W9.drew.cell? ⟨Q, 0, none⟩ = _ := r0
        replace r1 : W9.drew.cell? ⟨Q, 1, none⟩ = _ := r1
        refine bodyPost_ret (by simp [results, Tryd.results30, go_sem, r0, r1]; try rfl) rfl ?_
        exact ⟨by rw [e.out], hW0.out.drew⟩
end Wd
end Go.Proofs.YtkodnioheifalaaDoor

/- The landed text: words of kinds, literals, ops, arguments. -/
namespace Go.Proofs.YtkodnioheifalaaDoor
open Go.RowKit
set_option linter.unusedVariables false
set_option maxRecDepth 20000
namespace Wd
theorem ktext_c (k : Int) (w : World) : Calls Tryd.prog 35 #[.int .i64 k] w fun e w' => e = .returned (.string (bs (knd k))) ∧ w' = w := by
  by_cases h3 : k = 3
  · subst h3
    go_enter Tryd.func35, Tryd.ntmps35
    go_wp2
    go_ret
    exact ⟨rfl, rfl⟩
  by_cases h5 : k = 5
  · subst h5
    go_enter Tryd.func35, Tryd.ntmps35
    go_wp2
    go_ret
    exact ⟨rfl, rfl⟩
  by_cases h6 : k = 6
  · subst h6
    go_enter Tryd.func35, Tryd.ntmps35
    go_wp2
    go_ret
    exact ⟨rfl, rfl⟩
  by_cases h7 : k = 7
  · subst h7
    go_enter Tryd.func35, Tryd.ntmps35
    go_wp2
    go_ret
    exact ⟨rfl, rfl⟩
  have e : knd k = [] := by unfold knd; rw [if_neg h3, if_neg h5, if_neg h6, if_neg h7]
  rw [e]
  have f3 : (k == 3) = false := by simpa using h3
  have f5 : (k == 5) = false := by simpa using h5
  have f6 : (k == 6) = false := by simpa using h6
  have f7 : (k == 7) = false := by simpa using h7
  go_enter Tryd.func35, Tryd.ntmps35
  go_wp2
  go_ret
  exact ⟨rfl, rfl⟩
theorem bs_ne_nil {l : Bs} (h : l ≠ []) : ¬ bs l = bs [] := fun e => h (bs_inj e)
theorem bs_em0 : (bs []).toList = [] := by
  unfold ByteArray.toList
  rw [ByteArray.toList.loop]
  rfl
theorem bs_em : (bs []).toList.isEmpty = true := by rw [bs_em0]; rfl
theorem bs_nem {l : Bs} (h : l ≠ []) : (bs l).toList.isEmpty = false := by
  have := bl_ne (bs_ne_nil h)
  rw [bs_em0] at this
  cases e : (bs l).toList with
  | nil => rw [e] at this; cases this
  | cons a b => rfl
set_option maxHeartbeats 2000000 in
theorem lit_c {w : World} {k n : Int} (hn : In64 n) (hg : Gl w) : Calls Tryd.prog 17 #[.agg #[.int .i64 k, .int .i64 n]] w fun e w' => e = .returned (.string (bs (litB (k, n)))) ∧ Below w.heap.size w w' := by
  have hb0 : Below w.heap.size w (w.alloc (.cells #[.int .i64 k, .int .i64 n] 49)) := (Below.refl _ _).alloc (Nat.le_refl _) _
  have hI := Lib.hid (itoa_c (w := w.alloc (.cells #[.int .i64 k, .int .i64 n] 49)) hn (hg.up hb0))
  replace hb0 := Lib.hid hb0
  have hK := Lib.hid (ktext_c k)
  by_cases h : knd k = []
  · have e : litB (k, n) = [] := if_pos h
    rw [e]
    rw [h] at hK
    have g1 := bs_em
    clear h e hI
    go_enter Tryd.func17, Tryd.ntmps17
    go_wp2_with (go_at_call 35; refine (hK.out _).mono ?_; rintro e w' ⟨rfl, rfl⟩)
    go_ret
    exact ⟨rfl, hb0.out⟩
  · have e : litB (k, n) = knd k ++ 32 :: numB n := if_neg h
    rw [e]
    have g1 := bs_nem h
    have l1 : (knd k).length ≤ 3 := by
      rcases knd_some h with rfl | rfl | rfl | rfl <;> decide
    have l2 := numB_len n
    have r1 : ¬ (9223372036854775807 : Nat) < (bs (knd k)).size + 1 := by rw [bs_size]; omega
    have r2 : ¬ (9223372036854775807 : Nat) < (bs (knd k)).size + 1 + (bs (numB n)).size := by rw [bs_size, bs_size]; omega
    have e3 := Lib.hid (show bs (knd k) ++ bs [32] = bs (knd k ++ [32]) from bs_app _ _)
    have e4 := Lib.hid (show bs (knd k ++ [32]) ++ bs (numB n) = bs (knd k ++ 32 :: numB n) by rw [bs_app, List.append_assoc]; rfl)
    clear h e l1 l2
    generalize knd k = K at *
    go_enter Tryd.func17, Tryd.ntmps17
    go_wp2_with (first
      | (go_at_call 35; refine (hK.out _).mono ?_; rintro e w' ⟨rfl, rfl⟩)
      | (go_at_call 29; refine (hI.out).mono ?_; rintro e w' ⟨rfl, hb⟩))
    go_ret
    exact ⟨by rw [← e4.out, ← e3.out]; rfl, hb0.out.trans (hb.mono hb0.out.size)⟩
theorem nam_op {p : Int} (h : 0 ≤ p ∧ p ≤ 21) : namR p = bs (opB p) ∧ opB p ≠ [] := by
  have key : ∀ k : _root_.Fin 22, namL.getD k.1 ⟨#[]⟩ = bs (opL.getD k.1 []) ∧ opL.getD k.1 [] ≠ [] := by
    intro k
    refine ⟨?_, ?_⟩
    · revert k; decide +kernel
    · revert k; decide +kernel
  obtain ⟨k, rfl⟩ : ∃ k : Nat, p = k := ⟨p.toNat, by omega⟩
  have := key ⟨k, by omega⟩
  unfold namR opB
  rw [if_neg (by omega), if_pos (by omega), Int.toNat_natCast]
  exact this
theorem nam_no {p : Int} (h : ¬ (0 ≤ p ∧ p ≤ 21)) : namR p = bs [] ∧ opB p = 111 :: 112 :: numB p := by
  unfold namR opB
  rw [if_pos (by omega), if_neg h]
  exact ⟨rfl, rfl⟩
set_option maxHeartbeats 2000000 in
theorem optext_c {w : World} {p : Int} (hp : In64 p) (hg : Gl w) : Calls Tryd.prog 31 #[.int .i64 p] w fun e w' => e = .returned (.string (bs (opB p))) ∧ Below w.heap.size w w' := by
  have hK := Lib.hid (fun w => kname_c p hp w)
  have hI := Lib.hid (fun w1 (hb : Below w.heap.size w w1) => itoa_c (w := w1) hp (hg.up hb))
  by_cases h : 0 ≤ p ∧ p ≤ 21
  · obtain ⟨e1, e2⟩ := nam_op h
    rw [e1] at hK
    have g1 := bs_nem e2
    clear h e1 e2 hI
    generalize opB p = K at *
    go_enter Tryd.func31, Tryd.ntmps31
    go_wp2_with (go_at_call 51; refine (hK.out _).mono ?_; rintro e w' ⟨rfl, hb⟩)
    go_ret
    exact ⟨rfl, hb⟩
  · obtain ⟨e1, e2⟩ := nam_no h
    rw [e1] at hK
    rw [e2]
    have g1 := bs_em
    have l2 := numB_len p
    have r1 : ¬ (9223372036854775807 : Nat) < 2 + (bs (numB p)).size := by rw [bs_size]; omega
    have e4 := Lib.hid (show bs [111, 112] ++ bs (numB p) = bs (111 :: 112 :: numB p) by rw [bs_app]; rfl)
    clear h e1 e2 l2
    go_enter Tryd.func31, Tryd.ntmps31
    go_wp2_with (first
      | (go_at_call 51; refine (hK.out _).mono ?_; rintro e w' ⟨rfl, hb⟩; replace hI := Lib.hid (hI.out w' hb))
      | (go_at_call 29; refine (hI.out).mono ?_; rintro e w2 ⟨rfl, hb2⟩))
    go_ret
    exact ⟨by rw [← e4.out]; rfl, hb.trans (hb2.mono hb.size)⟩
theorem sgn8 {a : Int} (h : 0 ≤ a ∧ a ≤ 255) : IntKind.i64.wrap (IntKind.i8.wrap a) = (if 128 ≤ a then a - 256 else a) := by
  have e : IntKind.i8.wrap a = (if 128 ≤ a then a - 256 else a) := by
    unfold IntKind.wrap
    simp [IntKind.signed, IntKind.bits]
    split <;> omega
  rw [e, IntKind.wrap_i64]
  split <;> omega
set_option maxHeartbeats 2000000 in
theorem argtext_c {w : World} {p a : Int} (ha : 0 ≤ a ∧ a ≤ 255) (hg : Gl w) : Calls Tryd.prog 32 #[.agg #[.int .i64 p, .int .i64 a]] w fun e w' => e = .returned (.string (bs (numB (sgn p a)))) ∧ Below w.heap.size w w' := by
  have hb0 : Below w.heap.size w (w.alloc (.cells #[.int .i64 p, .int .i64 a] 75)) := (Below.refl _ _).alloc (Nat.le_refl _) _
  have hI := Lib.hid (fun (n : Int) (hn : In64 n) => itoa_c (w := w.alloc (.cells #[.int .i64 p, .int .i64 a] 75)) hn (hg.up hb0))
  replace hb0 := Lib.hid hb0
  by_cases h : p = 7
  · have e : sgn p a = IntKind.i64.wrap (IntKind.i8.wrap a) := by
      rw [sgn8 ha]; unfold sgn; rw [h]
      by_cases h2 : 128 ≤ a
      · rw [if_pos ⟨rfl, h2⟩, if_pos h2]
      · rw [if_neg (fun h => h2 h.2), if_neg h2]
    rw [IntWalk.i64_left] at e
    rw [e]
    replace hI := Lib.hid (hI.out (wrap64 (IntKind.i8.wrap a)) (by rw [← IntWalk.i64_left, sgn8 ha]; constructor <;> split <;> omega))
    clear e
    subst h
    go_enter Tryd.func32, Tryd.ntmps32
    go_wp2_with (go_at_call 29; refine (hI.out).mono ?_; rintro e w' ⟨rfl, hb⟩)
    go_ret
    exact ⟨rfl, hb0.out.trans (hb.mono hb0.out.size)⟩
  · have e : sgn p a = a := by unfold sgn; rw [if_neg (fun x => h x.1)]
    rw [e]
    replace hI := Lib.hid (hI.out a (by constructor <;> omega))
    have f7 : (p == 7) = false := by simpa using h
    clear e
    go_enter Tryd.func32, Tryd.ntmps32
    go_wp2_with (go_at_call 29; refine (hI.out).mono ?_; rintro e w' ⟨rfl, hb⟩)
    go_ret
    exact ⟨rfl, hb0.out.trans (hb.mono hb0.out.size)⟩
end Wd
end Go.Proofs.YtkodnioheifalaaDoor

/- The landed text: a line of parts. -/
namespace Go.Proofs.YtkodnioheifalaaDoor
open Go.RowKit
set_option linter.unusedVariables false
set_option maxRecDepth 20000
namespace Wd
/-- parts of a line, in a row of texts -/
def Pts (w : World) (g : Nat) (P : List Bs) : Prop := ∃ z, w.heap[g]? = some (.cells (P.map (fun x => Value.string (bs x))).toArray 9 z)
theorem Pts.at {w : World} {g : Nat} {P : List Bs} (h : Pts w g P) {k : Nat} {x : Bs} (hx : P[k]? = some x) : w.cell? ⟨g, k, none⟩ = some (.string (bs x)) := by
  obtain ⟨z, h⟩ := h
  rw [Lib.cell_of_heap h]
  simp [hx]
theorem Pts.lt {w : World} {g : Nat} {P : List Bs} (h : Pts w g P) : g < w.heap.size := by
  obtain ⟨z, h⟩ := h
  rcases Nat.lt_or_ge g w.heap.size with h' | h'
  · exact h'
  · rw [Array.getElem?_eq_none h'] at h; cases h
theorem Bld.ne {B b : Nat} {l : Bs} {w : World} (h : Bld B b l w) {g : Nat} {P : List Bs} (hp : Pts w g P) : g ≠ b := by
  intro e
  subst e
  obtain ⟨z, hz⟩ := hp
  have : ∃ cs, w.heap[g]? = some (.cells cs 71 (0, 0)) := by
    rcases h with h | h <;> obtain ⟨_, v, hb, _⟩ := h <;> exact ⟨_, hb⟩
  obtain ⟨cs, hc⟩ := this
  rw [hc] at hz
  simp at hz
theorem Pts.keep {w w' : World} {B b g : Nat} {l : Bs} {P : List Bs} (h : Pts w g P) (hb : Bld B b l w) (hk : ∀ k, k < w.heap.size → k ≠ b → (∀ cs z, w.heap[k]? ≠ some (.cells cs 5 z)) → w'.heap[k]? = w.heap[k]?) : Pts w' g P := by
  have hne := hb.ne h
  have hlt := h.lt
  obtain ⟨z, h⟩ := h
  refine ⟨z, (hk g hlt hne ?_).trans h⟩
  intro cs z e
  rw [h] at e
  simp at e
/-- what is no builder's and no row of bytes is as it was -/
def KpB (b : Nat) (w w' : World) : Prop := ∀ k, k < w.heap.size → k ≠ b → (∀ cs z, w.heap[k]? ≠ some (.cells cs 5 z)) → w'.heap[k]? = w.heap[k]?
theorem KpB.step {b : Nat} {w w1 w2 : World} (h : KpB b w w1) (h2 : KpB b w1 w2) (hz : w.heap.size ≤ w1.heap.size) : KpB b w w2 := fun k hk hb ht => by
  have e := h k hk hb ht
  exact (h2 k (by omega) hb (by rw [e]; exact ht)).trans e
/-- what putLine has written -/
structure PL (w wr : World) (B b g : Nat) (l : Bs) (P : List Bs) (k : Nat) : Prop where
  mk ::
  bld : Bld B b (l ++ (P.take k).flatten) wr
  pts : Pts wr g P
  bel : Below B w wr
  sz : w.heap.size ≤ wr.heap.size
  kp : KpB b w wr
theorem flat_take {P : List Bs} {k : Nat} {x : Bs} (hx : P[k]? = some x) : (P.take (k + 1)).flatten = (P.take k).flatten ++ x := by
  rw [take_next hx]; simp
theorem flat_le (P : List Bs) (k : Nat) : (P.take k).flatten.length ≤ P.flatten.length := by
  conv => rhs; rw [← List.take_append_drop k P, List.flatten_append, List.length_append]
  omega
set_option maxHeartbeats 4000000 in
theorem putline_c {w : World} {B b g n : Nat} {l : Bs} {P : List Bs} (hl : Bld B b l w) (hB : B ≤ w.heap.size) (hp : Pts w g P) (hlen : l.length + P.flatten.length + 1 ≤ 140737488355328) (hn : n = P.length) (hn9 : n ≤ 9) :
    Calls Tryd.prog 28 #[.pointer (some ⟨b, 0, none⟩), .slice (some ⟨g, 0, none⟩) n n] w fun e w' => e = .returned (.tuple #[]) ∧ Bld B b (l ++ P.flatten ++ [10]) w' ∧ Below B w w' ∧ w.heap.size ≤ w'.heap.size ∧ KpB b w w' := by
  have hn' := Lib.hid hn
  have S0 := Lib.hid (show PL w w B b g l P 0 from ⟨by simpa using hl, hp, Below.refl _ _, Nat.le_refl _, fun _ _ _ _ => rfl⟩)
  have hlen' := Lib.hid hlen
  have hB' := Lib.hid hB
  clear hl hp hn hlen hB
  go_enter Tryd.func28, Tryd.ntmps28
  go_wp2_with fail
  go_loopw [8] (fun i wr => ∃ (k : Nat), k ≤ n ∧ i = .int .i64 k ∧ Hid (PL w wr B b g l P k)) (fun i _ => n - (intOf i).toNat)
  case atStart => exact ⟨0, by omega, rfl, S0⟩
  case round =>
    obtain ⟨k, hk, rfl, hS⟩ := hrel
    by_cases hlt : k < n
    · have hlt' : decide ((k : Int) < (n : Int)) = true := by simp; omega
      have p0 : (0 : Int) ≤ (k : Int) := by omega
      have p1 : (k : Int) < (n : Int) := by omega
      obtain ⟨x, hx⟩ : ∃ x, P[k]? = some x := ⟨P[k]'(by have := hn'.out; omega), by simp⟩
      have c0 := hS.out.pts.at hx
      have hxH := Lib.hid hx
      have hle := Lib.hid (show (l ++ (P.take k).flatten).length + x.length ≤ 140737488355328 by
        have h1 := flat_le P (k + 1)
        rw [flat_take hx] at h1
        have := hlen'.out
        simp only [List.length_append] at h1 ⊢
        omega)
      have C := Lib.hid (bwrite_c x hS.out.bld hle.out (by have := hS.out.sz; have := hB'.out; omega))
      clear hx hlt S0
      go_wp2_with (go_at_call 49; refine (C.out).mono ?_; rintro e w2 ⟨⟨v, rfl⟩, h1, h2, h3, h4⟩)
      go_roundw
      case rel => exact ⟨k + 1, by omega, by go_num, Lib.hid ⟨by rw [flat_take hxH.out, ← List.append_assoc]; exact h1, hS.out.pts.keep hS.out.bld h3, hS.out.bel.trans h2, Nat.le_trans hS.out.sz h4, hS.out.kp.step h3 hS.out.sz⟩⟩
      case measure => simp [intOf]; omega
    · have hlt' : decide ((k : Int) < (n : Int)) = false := by simp; omega
      have hkn : k = P.length := by have := hn'.out; omega
      have hb := hS.out.bld
      rw [hkn, List.take_length] at hb
      have C := Lib.hid (bwrite_c [10] hb (by have := hlen'.out; simp only [List.length_append, List.length_cons, List.length_nil]; omega) (by have := hS.out.sz; have := hB'.out; omega))
      clear hkn hb
      go_wp2_with (go_at_call 49; refine (C.out).mono ?_; rintro e w2 ⟨⟨v, rfl⟩, h1, h2, h3, h4⟩)
      go_end0
      exact ⟨rfl, h1, hS.out.bel.trans h2, Nat.le_trans hS.out.sz h4, hS.out.kp.step h3 hS.out.sz⟩
end Wd
end Go.Proofs.YtkodnioheifalaaDoor

/- Steps of a script over a region that draws its order, in few words. -/
namespace Go.Proofs.YtkodnioheifalaaDoor
open Go.RowKit
namespace Wd
theorem nA : (∀ {α : Type} (l : List α) (i : Nat) (a : α), l.toArray.setIfInBounds i a = (l.set i a).toArray) ∧ (∀ {α : Type} (l : List α) (a b : α), (b :: l).set 0 a = a :: l) ∧ (∀ {α : Type} (l : List α) (i : Nat) (a b : α), (b :: l).set (i + 1) a = b :: l.set i a) :=
  ⟨fun _ _ _ => List.setIfInBounds_toArray .., fun _ _ _ => rfl, fun _ _ _ _ => rfl⟩
section
variable {P : Program} {ops : Array Oper} {Q : Exit → Act → World → Prop} {md : Region.Mode} {S : World → Prop}
theorem tk {i : Nat} {oi : Oper} {v : Value} {fuel : Nat} {listed : Array Bool} {a : Act} {w : World}
    (h : wpAnyH P md ops Q S fuel (listed.setIfInBounds i true) (a.put oi.dst v) w)
    (hi : ops[i]? = some oi := by rfl) (hs : Region.noSelect ops = true := by kernel_rfl) (hf : Region.free md ops listed i = true := by kernel_rfl) (hr : (Region.ready md ops listed).contains i = true := by kernel_rfl)
    (hw : Region.wanted oi (yielded ops a.tmps) = true := by rfl)
    (hy : ∀ w, S w → (execOp a.eval oi).run P w = .ok (.value v) w := by (intro w hSw; (try dsimp only at hSw); go_simp <;> with_reducible rfl))
    (hQ : ∀ c a w, Q (.panic c) (a.put oi.dst v) w → Q (.panic c) a w := by exact fun _ _ _ h => h) (hS : S w := by assumption) : wpAnyH P md ops Q S (fuel + 1) listed a w :=
  wpAnyH_take hi hs hf hr hQ (Or.inl ⟨hw, hy⟩) hS h
end
end Wd
end Go.Proofs.YtkodnioheifalaaDoor

/- The landed text: Print. -/
namespace Go.Proofs.YtkodnioheifalaaDoor
open Go.RowKit
set_option linter.unusedVariables false
set_option maxRecDepth 20000
namespace Wd
/-- while Print runs: the method's box, the builder behind it with the lines so far -/
structure PS (w wr : World) (m : MethA) (la ca : Option Addr) (lc cc : Nat) (ls : List Bs) : Prop where
  mk ::
  box : wr.heap[w.heap.size]? = some (.cells #[.int .i64 m.args, .int .i64 m.temps, .slice la m.lits.length lc, .slice ca m.code.length cc] 37 (0, 0))
  bld : Bld (w.heap.size + 1) (w.heap.size + 1) (joinL ls) wr
  bel : Below w.heap.size w wr
  sz : w.heap.size + 2 ≤ wr.heap.size
section
variable {w wr w2 : World} {m : MethA} {la ca : Option Addr} {lc cc : Nat} {ls : List Bs}
theorem PS.low (h : PS w wr m la ca lc cc ls) (b : Below wr.heap.size wr w2) : PS w w2 m la ca lc cc ls :=
  ⟨(b.block _ (by have := h.sz; omega)).trans h.box, h.bld.up b, h.bel.trans (b.mono h.bel.size), Nat.le_trans h.sz b.size⟩
theorem PS.put (h : PS w wr m la ca lc cc ls) {l : Bs} (hb : Bld (w.heap.size + 1) (w.heap.size + 1) (joinL ls ++ (l ++ [10])) w2) (b : Below (w.heap.size + 1) wr w2) (z : wr.heap.size ≤ w2.heap.size) : PS w w2 m la ca lc cc (ls ++ [l]) :=
  ⟨(b.block _ (by omega)).trans h.box, by rw [joinL_app, joinL_one]; exact hb, h.bel.trans (b.mono (by omega)), Nat.le_trans h.sz z⟩
theorem PS.c (h : PS w wr m la ca lc cc ls) : wr.cell? ⟨w.heap.size, 0, none⟩ = some (.int .i64 m.args) ∧ wr.cell? ⟨w.heap.size, 1, none⟩ = some (.int .i64 m.temps) ∧ wr.cell? ⟨w.heap.size, 2, none⟩ = some (.slice la m.lits.length lc) ∧ wr.cell? ⟨w.heap.size, 3, none⟩ = some (.slice ca m.code.length cc) := by
  refine ⟨?_, ?_, ?_, ?_⟩ <;> rw [Lib.cell_of_heap h.box] <;> rfl
end
/-- an instruction in a box, no builder's -/
structure InB (b q : Nat) (y : World) (o a : Int) : Prop where
  mk ::
  h : y.heap[q]? = some (.cells #[.int .i64 o, .int .i64 a] 75 (0, 0))
  ne : q ≠ b
theorem InB.born {b : Nat} (y : World) (o a : Int) (h : b < y.heap.size) : InB b y.heap.size (y.alloc (.cells #[.int .i64 o, .int .i64 a] 75)) o a := ⟨heap_alloc_new y _, by omega⟩
theorem InB.lt {b q : Nat} {y : World} {o a : Int} (h : InB b q y o a) : q < y.heap.size := by
  rcases Nat.lt_or_ge q y.heap.size with h' | h'
  · exact h'
  · have := h.h; rw [Array.getElem?_eq_none h'] at this; cases this
theorem InB.up {b q : Nat} {y y2 : World} {o a : Int} (h : InB b q y o a) (hb : Below y.heap.size y y2) : InB b q y2 o a := ⟨(hb.block _ h.lt).trans h.h, h.ne⟩
theorem InB.put {b q : Nat} {y y2 : World} {o a : Int} (h : InB b q y o a) (hb : KpB b y y2) : InB b q y2 o a := ⟨(hb q h.lt h.ne (fun cs z e => by rw [h.h] at e; simp at e)).trans h.h, h.ne⟩
theorem InB.c {b q : Nat} {y : World} {o a : Int} (h : InB b q y o a) : y.cell? ⟨q, 0, none⟩ = some (.int .i64 o) ∧ y.cell? ⟨q, 1, none⟩ = some (.int .i64 a) := by
  refine ⟨?_, ?_⟩ <;> rw [Lib.cell_of_heap h.h] <;> rfl
theorem pts_born (y : World) (P : List Bs) : Pts (y.alloc (.cells (P.map (fun x => Value.string (bs x))).toArray 9)) y.heap.size P := ⟨_, heap_alloc_new y _⟩
theorem joinL_le : ∀ (ls : List Bs) (n : Nat), (∀ l ∈ ls, l.length ≤ n) → (joinL ls).length ≤ ls.length * (n + 1)
  | [], n, _ => by simp [joinL]
  | l :: r, n, h => by
    have h1 := joinL_le r n (fun x hx => h x (by simp [hx]))
    have h2 := h l (by simp)
    rw [joinL_cons, List.length_append, List.length_cons, List.length_cons, Nat.add_mul]
    omega
theorem litB_len (v : Int × Int) : (litB v).length ≤ 25 := by
  unfold litB
  split
  · simp
  · rename_i h
    have : (knd v.1).length = 3 := by rcases knd_some h with e | e | e | e <;> rw [e] <;> rfl
    have := numB_len v.2
    simp only [List.length_append, List.length_cons]
    omega
theorem opB_len (p : Int) : (opB p).length ≤ 40 := by
  by_cases h : 0 ≤ p ∧ p ≤ 21
  · have key : ∀ k : _root_.Fin 22, (opL.getD k.1 []).length ≤ 40 := by decide +kernel
    obtain ⟨k, rfl⟩ : ∃ k : Nat, p = k := ⟨p.toNat, by omega⟩
    unfold opB
    rw [if_pos (by omega), Int.toNat_natCast]
    exact key ⟨k, by omega⟩
  · rw [(nam_no h).2]
    have := numB_len p
    simp only [List.length_cons]
    omega
theorem hdL_len (a t : Int) : (hdL a t).length ≤ 80 := by
  have := numB_len a; have := numB_len t
  simp only [hdL, tMethod, List.length_append, List.length_cons, List.length_nil]
  omega
theorem liL_len (v : Int × Int) : (liL v).length ≤ 80 := by
  have := litB_len v
  simp only [liL, tLit, List.length_append, List.length_cons, List.length_nil]
  omega
theorem ixL_len (o a : Int) : (ixL o a).length ≤ 80 := by
  have := opB_len o; have := numB_len (sgn o a)
  simp only [ixL, List.length_append, List.length_cons]
  omega
theorem byL_len (b : Int) : (byL b).length ≤ 80 := by
  have := numB_len b
  simp only [byL, tByte, List.length_append, List.length_cons, List.length_nil]
  omega
theorem insL_len : ∀ (C : List Int), (insL C).length ≤ C.length
  | [] => by simp [insL]
  | [b] => by simp [insL]
  | o :: a :: r => by have := insL_len r; simp [insL]; omega
theorem insL_80 : ∀ (C : List Int), ∀ l ∈ insL C, l.length ≤ 80 := fun C l h => by
  rcases insL_mem C l h with ⟨o, a, rfl⟩ | ⟨b, rfl⟩
  · exact ixL_len o a
  · exact byL_len b
/-- the lines of a method, so many of its literals and bytes -/
def lnK (m : MethA) (i j : Nat) : List Bs := hdL m.args m.temps :: ((m.lits.take i).map liL ++ insL (m.code.take j))
theorem lnK_len (m : MethA) (i j : Nat) (hL : m.lits.length ≤ 1000000) (hC : m.code.length ≤ 1000000) : (joinL (lnK m i j)).length + 200 ≤ 140737488355328 := by
  have h1 := joinL_le (lnK m i j) 80 (fun l hl => by
    simp only [lnK, List.mem_cons, List.mem_append, List.mem_map] at hl
    rcases hl with rfl | ⟨v, _, rfl⟩ | h
    · exact hdL_len _ _
    · exact liL_len v
    · exact insL_80 _ _ h)
  have h2 := insL_len (m.code.take j)
  have h3 : (lnK m i j).length ≤ 2000001 := by
    simp only [lnK, List.length_cons, List.length_append, List.length_map, List.length_take] at h2 ⊢
    omega
  omega
theorem lnK_lit {m : MethA} {i : Nat} {v : Int × Int} (h : m.lits[i]? = some v) : lnK m (i + 1) 0 = lnK m i 0 ++ [liL v] := by
  unfold lnK
  rw [take_next h]
  simp [insL]
theorem lnK_all (m : MethA) : lnK m m.lits.length m.code.length = lineR m.args m.temps m.lits m.code := by
  unfold lnK lineR
  rw [List.take_length, List.take_length]
theorem lnK_in {m : MethA} {j : Nat} (he : j % 2 = 0) (h : j + 1 < m.code.length) : lnK m m.lits.length (j + 2) = lnK m m.lits.length j ++ [ixL (byAt m.code j) (byAt m.code (j + 1))] := by
  unfold lnK
  have h0 : m.code[j]? = some (byAt m.code j) := by unfold byAt; rw [List.getD_eq_getElem?_getD, List.getElem?_eq_getElem (by omega)]; rfl
  have h1 : m.code[j + 1]? = some (byAt m.code (j + 1)) := by unfold byAt; rw [List.getD_eq_getElem?_getD, List.getElem?_eq_getElem (by omega)]; rfl
  rw [take_next h1, take_next h0, List.append_assoc, insL_app _ _ (by rw [List.length_take]; omega)]
  simp [insL]
theorem lnK_by {m : MethA} {j : Nat} (he : j % 2 = 0) (h : j + 1 = m.code.length) : lnK m m.lits.length (j + 2) = lnK m m.lits.length j ++ [byL (byAt m.code j)] := by
  unfold lnK
  have h0 : m.code[j]? = some (byAt m.code j) := by unfold byAt; rw [List.getD_eq_getElem?_getD, List.getElem?_eq_getElem (by omega)]; rfl
  have e2 : m.code.take (j + 2) = m.code.take j ++ [byAt m.code j] := by rw [← take_next h0, List.take_of_length_le (by omega), List.take_of_length_le (by omega)]
  rw [e2, insL_app _ _ (by rw [List.length_take]; omega)]
  simp [insL]
theorem lnK_end {m : MethA} {j : Nat} (h : m.code.length ≤ j) : joinL (lnK m m.lits.length j) = printR m.args m.temps m.lits m.code := by
  unfold printR
  rw [← lnK_all]
  unfold lnK
  rw [List.take_of_length_le h, List.take_length, List.take_length]
theorem fetP_yes {C : List Int} {j : Nat} (he : j % 2 = 0) (h : j + 1 < C.length) : fetR C (j : Int) = (byAt C j, byAt C (j + 1), true) := by
  unfold fetR
  rw [if_neg (by omega), Int.toNat_natCast]
theorem fetP_no {C : List Int} {j : Nat} (he : j % 2 = 0) (h : j + 1 = C.length) : fetR C (j : Int) = (0, 0, false) := by
  unfold fetR
  rw [if_pos (by omega)]
set_option maxHeartbeats 16000000 in
theorem print_c {w : World} {v : Value} {m : MethA} (hm : MeV w v m) (hg : Gl w) (hL : m.lits.length ≤ 1000000) (hC : m.code.length ≤ 1000000) :
    Calls Tryd.prog 15 #[v] w fun e w' => e = .returned (.string (bs (printR m.args m.temps m.lits m.code))) ∧ Below w.heap.size w w' := by
  obtain ⟨la, lc, ca, cc, rfl, hl, hc⟩ := hm.ex
  have ha64 := Lib.hid hm.a64
  have ht64 := Lib.hid hm.t64
  replace hl := Lib.hid hl
  replace hc := Lib.hid hc
  replace hg := Lib.hid hg
  have hsz := Lib.hid (fun i j => lnK_len m i j hL hC)
  have hC9 := Lib.hid hC
  have hL9 := Lib.hid hL
  have S0 : Hid (PS w ((w.alloc (.cells #[.int .i64 m.args, .int .i64 m.temps, .slice la m.lits.length lc, .slice ca m.code.length cc] 37)).alloc (.cells #[.pointer none, .slice none 0 0] 71)) m la ca lc cc []) := by
    refine Lib.hid ⟨?_, ?_, ?_, by simp⟩
    · rw [Lib.alloc_old _ _ _ (by simp)]
      exact heap_alloc_new w _
    · have := Bld.born (w.alloc (.cells #[.int .i64 m.args, .int .i64 m.temps, .slice la m.lits.length lc, .slice ca m.code.length cc] 37))
      rw [show joinL [] = [] from rfl]
      simpa using this
    · exact ((Below.refl w.heap.size w).alloc (Nat.le_refl _) _).alloc (by simp) _
  have i1 : (w.alloc (.cells #[.int .i64 m.args, .int .i64 m.temps, .slice la m.lits.length lc, .slice ca m.code.length cc] 37)).heap.size = w.heap.size + 1 := by simp
  have PM := Lib.hid (fun (w' : World) (b : Below w.heap.size w w') => hm.up b)
  obtain ⟨dM, hdM, hrM⟩ := rowM
  replace hdM := Lib.hid hdM
  replace hrM := Lib.hid hrM
  clear hm hL hC
  go_enter Tryd.func15, Tryd.ntmps15
  go_upto_region 2 with fail
  generalize (w.alloc (.cells #[.int .i64 m.args, .int .i64 m.temps, .slice la m.lits.length lc, .slice ca m.code.length cc] 37)).alloc (.cells #[.pointer none, .slice none 0 0] 71) = W at *
  clear i1
  have hS := Lib.hid (S0.out.low ((Below.refl _ _).drew))
  clear S0
  refine wp_region_held_drew (S := (fun wr' => wr'.cell? ⟨w.heap.size, 0, none⟩ = some (.int .i64 m.args) ∧ wr'.cell? ⟨w.heap.size, 1, none⟩ = some (.int .i64 m.temps))) (by kernel_rfl) ?_ (fun hHeld => ?_)
  · (try dsimp only); exact ⟨hS.out.c.1, hS.out.c.2.1⟩
  try simp only [Act.put, nA]
  refine tk (i := 0) (oi := ⟨some 9, .fieldAddr 37 (.tmp 1) 0, 0, "text.go:32", #[], none⟩) (hy := by intro w hSw; (try dsimp only at hSw); obtain ⟨q0, q1⟩ := hSw; go_simp <;> with_reducible rfl) ?_
  try simp only [Act.put, nA]
  refine tk (i := 1) (oi := ⟨some 10, .load 3 (.tmp 9), 3, "text.go:32", #[⟨0, .data⟩], none⟩) (hy := by intro w hSw; (try dsimp only at hSw); obtain ⟨q0, q1⟩ := hSw; go_simp <;> with_reducible rfl) ?_
  try simp only [Act.put, nA]
  refine tk (i := 3) (oi := ⟨some 12, .fieldAddr 37 (.tmp 1) 1, 0, "text.go:32", #[], none⟩) (hy := by intro w hSw; (try dsimp only at hSw); obtain ⟨q0, q1⟩ := hSw; go_simp <;> with_reducible rfl) ?_
  try simp only [Act.put, nA]
  refine tk (i := 4) (oi := ⟨some 13, .load 3 (.tmp 12), 3, "text.go:32", #[⟨3, .data⟩], none⟩) (hy := by intro w hSw; (try dsimp only at hSw); obtain ⟨q0, q1⟩ := hSw; go_simp <;> with_reducible rfl) ?_
  try simp only [Act.put, nA]
  refine wpAnyH_ready (rs := [2]) (by kernel_rfl) (by simp) ?_
  refine AllReadyH.cons (o := ⟨some 11, .call { callee := .value (.func 29), args := #[.tmp 10], argTypes := #[3] }, 9, "text.go:32", #[⟨1, .data⟩], none⟩) rfl (fun K9 hK => ?_) AllReadyH.nil
  go_simp
  with_reducible refine (itoa_c ha64.out (hg.out.up hS.out.bel)).mono ?_
  rintro e y1 ⟨rfl, hb⟩
  replace hS := Lib.hid (hS.out.low hb)
  clear hb
  go_wp2_with fail
  refine hK.out _ _ ?_ ?_
  · (try dsimp only); exact ⟨hS.out.c.1, hS.out.c.2.1⟩
  clear hK K9 hHeld; intro hHeld
  try simp only [Act.put, nA]
  refine wpAnyH_ready (rs := [5]) (by kernel_rfl) (by simp) ?_
  refine AllReadyH.cons (o := ⟨some 14, .call { callee := .value (.func 29), args := #[.tmp 13], argTypes := #[3] }, 9, "text.go:32", #[⟨4, .data⟩, ⟨2, .chain⟩], none⟩) rfl (fun K9 hK => ?_) AllReadyH.nil
  go_simp
  with_reducible refine (itoa_c ht64.out (hg.out.up hS.out.bel)).mono ?_
  rintro e y2 ⟨rfl, hb⟩
  replace hS := Lib.hid (hS.out.low hb)
  clear hb
  go_wp2_with fail
  refine hK.out _ _ ?_ ?_
  · (try dsimp only); exact ⟨hS.out.c.1, hS.out.c.2.1⟩
  clear hK K9 hHeld; intro hHeld
  try simp only [Act.put, nA]
  refine wpAnyH_ready (rs := [6]) (by kernel_rfl) (by simp) ?_
  refine AllReadyH.cons (o := ⟨some 15, .buildSlice 22 4 #[(0, .const (Value.string { data := #[109, 101, 116, 104, 111, 100, 32] })), (1, .tmp 11), (2, .const (Value.string { data := #[32] })), (3, .tmp 14)], 22, "text.go:32", #[⟨2, .data⟩, ⟨5, .data⟩], none⟩) rfl (fun K9 hK => ?_) AllReadyH.nil
  go_simp
  have hp : Hid (Pts (y2.alloc (.cells #[.string ⟨#[109, 101, 116, 104, 111, 100, 32]⟩, .string (bs (numB m.args)), .string ⟨#[32]⟩, .string (bs (numB m.temps))] 9)) y2.heap.size [tMethod, numB m.args, [32], numB m.temps]) := Lib.hid (pts_born y2 [tMethod, numB m.args, [32], numB m.temps])
  replace hS := Lib.hid (hS.out.low ((Below.refl _ _).alloc (Nat.le_refl _) (.cells #[.string ⟨#[109, 101, 116, 104, 111, 100, 32]⟩, .string (bs (numB m.args)), .string ⟨#[32]⟩, .string (bs (numB m.temps))] 9)))
  refine hK.out _ _ ?_ ?_
  · (try dsimp only); exact ⟨hS.out.c.1, hS.out.c.2.1⟩
  clear hK K9 hHeld; intro hHeld
  try simp only [Act.put, nA]
  refine wpAnyH_ready (rs := [7]) (by kernel_rfl) (by simp) ?_
  refine AllReadyH.cons (o := ⟨some 16, .call { callee := .value (.func 28), args := #[.tmp 3, .tmp 15], argTypes := #[69, 22] }, 0, "text.go:32", #[⟨6, .data⟩, ⟨5, .chain⟩], none⟩) rfl (fun K9 hK => ?_) AllReadyH.nil
  go_simp
  have hlen : Hid ([tMethod, numB m.args, [32], numB m.temps].flatten.length ≤ 90) := Lib.hid (by have h9 := hdL_len m.args m.temps; simp only [tMethod, hdL, List.flatten_cons, List.flatten_nil, List.length_append, List.length_cons, List.length_nil] at h9 ⊢; omega)
  with_reducible refine (putline_c (n := 4) hS.out.bld (by have := hS.out.sz; omega) hp.out (by have := hlen.out; have := (show (joinL []).length = 0 from rfl); omega) rfl (by decide)).mono ?_
  rintro e y32 ⟨rfl, hb1, hb2, hb3, hb4⟩
  replace hS := Lib.hid (hS.out.put (l := hdL m.args m.temps) (by rw [List.append_assoc, show [tMethod, numB m.args, [32], numB m.temps].flatten = hdL m.args m.temps from by simp [tMethod, hdL]] at hb1; exact hb1) hb2 hb3)
  clear hb1 hb2 hb3 hb4 hp hlen
  go_wp2_with fail
  refine hK.out _ _ ?_ ?_
  · (try dsimp only); exact ⟨hS.out.c.1, hS.out.c.2.1⟩
  clear hK K9 hHeld; intro hHeld
  try simp only [Act.put, nA]
  refine wpAnyH_done (by kernel_rfl) ?_ _
  rw [List.nil_append] at hS
  have hS0 : Hid (PS w y32 m la ca lc cc (lnK m 0 0)) := Lib.hid (by have := hS.out; simpa [lnK, insL] using this)
  clear hS hHeld
  have a2 := hS0.out.c.2.2.1
  go_wp2_with fail
  go_loopw [20] (fun i wr => ∃ (k : Nat), k ≤ m.lits.length ∧ i = .int .i64 k ∧ Hid (PS w wr m la ca lc cc (lnK m k 0))) (fun i _ => m.lits.length - (intOf i).toNat)
  case atStart => exact ⟨0, by omega, rfl, hS0⟩
  case round =>
    obtain ⟨k, hk, rfl, hS⟩ := hrel
    clear a2 hS0
    by_cases hlt : k < m.lits.length
    · have hlt' : decide ((k : Int) < (m.lits.length : Int)) = true := by simp; omega
      have p0 : (0 : Int) ≤ (k : Int) := by omega
      have p1 : (k : Int) < (m.lits.length : Int) := by omega
      have hL8 := hL9.out
      obtain ⟨⟨x1, x2⟩, hx⟩ : ∃ x, m.lits[k]? = some x := ⟨m.lits[k]'(by omega), by simp⟩
      obtain ⟨i1, i2, g, off, rfl, c0, c1⟩ := PrV.at (hl.out.up hS.out.bel) hx
      simp only at c0 c1 i2
      have hxH := Lib.hid hx
      replace i2 := Lib.hid i2
      clear hx i1 hlt
      replace hS := Lib.hid (hS.out.low ((Below.refl wr.heap.size wr).alloc (Nat.le_refl _) (.cells #[.int .i64 x1, .int .i64 x2] 49)))
      go_wp2_with (first
        | (go_at_call 17; (with_reducible refine (lit_c i2.out (hg.out.up hS.out.bel)).mono ?_); rintro e y4 ⟨rfl, hb⟩; (replace hS := Lib.hid (hS.out.low hb)); clear hb c0 c1)
        | (go_at_call 28; (have hp : Hid (Pts (y4.alloc (.cells #[.string ⟨#[108, 105, 116, 32]⟩, .string (bs (litB (x1, x2)))] 9)) y4.heap.size [tLit, litB (x1, x2)]) := Lib.hid (pts_born y4 [tLit, litB (x1, x2)])); (replace hS := Lib.hid (hS.out.low ((Below.refl _ _).alloc (Nat.le_refl _) (.cells #[.string ⟨#[108, 105, 116, 32]⟩, .string (bs (litB (x1, x2)))] 9)))); (have hlen : Hid ([tLit, litB (x1, x2)].flatten.length ≤ 90) := Lib.hid (by have h9 := liL_len (x1, x2); simp only [tLit, liL, List.flatten_cons, List.flatten_nil, List.length_append, List.length_cons, List.length_nil] at h9 ⊢; omega)); (with_reducible refine (putline_c (n := 2) hS.out.bld (by have := hS.out.sz; omega) hp.out (by have := hlen.out; have := hsz.out k 0; omega) rfl (by decide)).mono ?_); rintro e y5 ⟨rfl, hb1, hb2, hb3, hb4⟩; (replace hS := Lib.hid (hS.out.put (l := liL (x1, x2)) (by rw [List.append_assoc, show [tLit, litB (x1, x2)].flatten = liL (x1, x2) from by simp [tLit, liL]] at hb1; exact hb1) hb2 hb3)); clear hb1 hb2 hb3 hb4 hp hlen))
      rw [← lnK_lit hxH.out] at hS
      go_roundw
      case rel => exact ⟨k + 1, by omega, by go_num, hS⟩
      case measure => simp [intOf]; omega
    · have hlt' : decide ((k : Int) < (m.lits.length : Int)) = false := by simp; omega
      obtain rfl : k = m.lits.length := by omega
      clear hlt hk
      go_wp2_with fail
      go_loopw [6] (fun i wr => ∃ (j : Nat), j % 2 = 0 ∧ j ≤ m.code.length + 1 ∧ i = .int .i64 j ∧ Hid (PS w wr m la ca lc cc (lnK m m.lits.length j))) (fun i _ => m.code.length + 1 - (intOf i).toNat)
      case atStart => exact ⟨0, rfl, by omega, rfl, hS⟩
      case round =>
        clear hS
        obtain ⟨j, hj2, hj, rfl, hS⟩ := hrel
        have hj2' := Lib.hid hj2
        have hcl := hC9.out
        by_cases hlt : j < m.code.length
        · have hlt2 : decide ((j : Int) < (m.code.length : Int)) = true := by simp; omega
          have PF := Lib.hid (kfetch_c (PM.out _ hS.out.bel) (j : Int) ⟨by omega, by omega⟩)
          obtain ⟨a0, a1, a2, a3⟩ := hS.out.c
          obtain ⟨r0, r1, g, off, rfl, e0⟩ : 0 ≤ byAt m.code j ∧ byAt m.code j ≤ 255 ∧ ∃ g off, ca = some ⟨g, off, none⟩ ∧ ∀ y, Below w.heap.size w y → y.cell? ⟨g, off + j, none⟩ = some (.int .u8 (byAt m.code j)) := by
            have hx : m.code[j]? = some (byAt m.code j) := by unfold byAt; rw [List.getD_eq_getElem?_getD, List.getElem?_eq_getElem hlt]; rfl
            obtain ⟨⟨q0, q1⟩, g, off, e, c⟩ := ByV.at hc.out hx
            exact ⟨q0, q1, g, off, e, fun y b => cell_up b c⟩
          replace e0 := Lib.hid e0
          by_cases hin : j + 1 < m.code.length
          · rw [fetP_yes hj2 hin] at PF
            have hr1 : Hid (0 ≤ byAt m.code (j + 1) ∧ byAt m.code (j + 1) ≤ 255) := by
              have hx : m.code[j + 1]? = some (byAt m.code (j + 1)) := by unfold byAt; rw [List.getD_eq_getElem?_getD, List.getElem?_eq_getElem hin]; rfl
              exact Lib.hid (ByV.at hc.out hx).1
            have hr0 := Lib.hid (And.intro r0 r1)
            have hnx := Lib.hid (lnK_in hj2 hin)
            clear hin hj2 r0 r1
            simp only at PF
            generalize hX : byAt m.code j = X0 at *
            generalize hY : byAt m.code (j + 1) = X1 at *
            clear hX hY
            go_upto_region 13 with (go_at_call 30; (with_reducible refine PF.out.mono ?_); rintro e y6 ⟨rfl, hb⟩; (replace hS := Lib.hid (hS.out.low hb)); clear hb PF a0 a1 a2 a3)
            have hI := Lib.hid (InB.born (b := w.heap.size + 1) y6 X0 X1 (by have := hS.out.sz; omega))
            replace hS := Lib.hid (hS.out.low ((Below.refl y6.heap.size y6).alloc (Nat.le_refl _) (.cells #[.int .i64 X0, .int .i64 X1] 75)))
            generalize y6.alloc (.cells #[.int .i64 X0, .int .i64 X1] 75) = y9 at *
            obtain ⟨q, hq⟩ : ∃ q, y6.heap.size = q := ⟨_, rfl⟩
            simp only [hq] at hI ⊢
            clear hq
            have b9 := (Below.refl y9.heap.size y9).drew
            replace hS := Lib.hid (hS.out.low b9)
            replace hI := Lib.hid (hI.out.up b9)
            clear b9
            have hr64 : Hid (In64 X0) := Lib.hid ⟨by have := hr0.out; omega, by have := hr0.out; omega⟩
            refine wp_region_held_drew (S := (fun wr' => wr'.cell? ⟨q, 0, none⟩ = some (.int .i64 X0) ∧ wr'.cell? ⟨q, 1, none⟩ = some (.int .i64 X1))) (by kernel_rfl) ?_ (fun hHeld => ?_)
            · (try dsimp only); exact hI.out.c
            try simp only [Act.put, nA]
            refine tk (i := 0) (oi := ⟨some 43, .fieldAddr 75 (.tmp 7) 0, 0, "text.go:39", #[], none⟩) (hy := by intro w hSw; (try dsimp only at hSw); obtain ⟨q0, q1⟩ := hSw; go_simp <;> with_reducible rfl) ?_
            try simp only [Act.put, nA]
            refine tk (i := 1) (oi := ⟨some 44, .load 3 (.tmp 43), 3, "text.go:39", #[⟨0, .data⟩], none⟩) (hy := by intro w hSw; (try dsimp only at hSw); obtain ⟨q0, q1⟩ := hSw; go_simp <;> with_reducible rfl) ?_
            try simp only [Act.put, nA]
            refine tk (i := 3) (oi := ⟨some 46, .load 75 (.tmp 7), 75, "text.go:39", #[], none⟩) (hy := by intro w hSw; (try dsimp only at hSw); obtain ⟨q0, q1⟩ := hSw; go_simp <;> with_reducible rfl) ?_
            try simp only [Act.put, nA]
            refine wpAnyH_ready (rs := [2]) (by kernel_rfl) (by simp) ?_
            refine AllReadyH.cons (o := ⟨some 45, .call { callee := .value (.func 31), args := #[.tmp 44], argTypes := #[3] }, 9, "text.go:39", #[⟨1, .data⟩], none⟩) rfl (fun K9 hK => ?_) AllReadyH.nil
            go_simp
            with_reducible refine (optext_c hr64.out (hg.out.up hS.out.bel)).mono ?_
            rintro e y1 ⟨rfl, hb⟩
            replace hS := Lib.hid (hS.out.low hb)
            replace hI := Lib.hid (hI.out.up hb)
            clear hb
            go_wp2_with fail
            refine hK.out _ _ ?_ ?_
            · (try dsimp only); exact hI.out.c
            clear hK K9 hHeld; intro hHeld
            try simp only [Act.put, nA]
            refine wpAnyH_ready (rs := [4]) (by kernel_rfl) (by simp) ?_
            refine AllReadyH.cons (o := ⟨some 47, .call { callee := .value (.func 32), args := #[.tmp 46], argTypes := #[75] }, 9, "text.go:39", #[⟨3, .data⟩, ⟨2, .chain⟩], none⟩) rfl (fun K9 hK => ?_) AllReadyH.nil
            go_simp
            with_reducible refine (argtext_c hr1.out (hg.out.up hS.out.bel)).mono ?_
            rintro e y11 ⟨rfl, hb⟩
            replace hS := Lib.hid (hS.out.low hb)
            replace hI := Lib.hid (hI.out.up hb)
            clear hb
            go_wp2_with fail
            refine hK.out _ _ ?_ ?_
            · (try dsimp only); exact hI.out.c
            clear hK K9 hHeld; intro hHeld
            try simp only [Act.put, nA]
            refine wpAnyH_ready (rs := [5]) (by kernel_rfl) (by simp) ?_
            refine AllReadyH.cons (o := ⟨some 48, .buildSlice 22 4 #[(0, .const (Value.string { data := #[32, 32] })), (1, .tmp 45), (2, .const (Value.string { data := #[32] })), (3, .tmp 47)], 22, "text.go:39", #[⟨2, .data⟩, ⟨4, .data⟩], none⟩) rfl (fun K9 hK => ?_) AllReadyH.nil
            go_simp
            have hp : Hid (Pts (y11.alloc (.cells #[.string ⟨#[32, 32]⟩, .string (bs (opB X0)), .string ⟨#[32]⟩, .string (bs (numB (sgn X0 X1)))] 9)) y11.heap.size [[32, 32], opB X0, [32], numB (sgn X0 X1)]) := Lib.hid (pts_born y11 [[32, 32], opB X0, [32], numB (sgn X0 X1)])
            have hb := (Below.refl y11.heap.size y11).alloc (Nat.le_refl _) (.cells #[.string ⟨#[32, 32]⟩, .string (bs (opB X0)), .string ⟨#[32]⟩, .string (bs (numB (sgn X0 X1)))] 9)
            replace hS := Lib.hid (hS.out.low hb)
            replace hI := Lib.hid (hI.out.up hb)
            clear hb
            refine hK.out _ _ ?_ ?_
            · (try dsimp only); exact hI.out.c
            clear hK K9 hHeld; intro hHeld
            try simp only [Act.put, nA]
            refine wpAnyH_ready (rs := [6]) (by kernel_rfl) (by simp) ?_
            refine AllReadyH.cons (o := ⟨some 49, .call { callee := .value (.func 28), args := #[.tmp 3, .tmp 48], argTypes := #[69, 22] }, 0, "text.go:39", #[⟨5, .data⟩, ⟨4, .chain⟩], none⟩) rfl (fun K9 hK => ?_) AllReadyH.nil
            go_simp
            have hlen : Hid ([[32, 32], opB X0, [32], numB (sgn X0 X1)].flatten.length ≤ 90) := Lib.hid (by have h9 := ixL_len X0 X1; simp only [ixL, List.flatten_cons, List.flatten_nil, List.length_append, List.length_cons, List.length_nil] at h9 ⊢; omega)
            with_reducible refine (putline_c (n := 4) hS.out.bld (by have := hS.out.sz; omega) hp.out (by have := hlen.out; have := hsz.out m.lits.length j; omega) rfl (by decide)).mono ?_
            rintro e y12 ⟨rfl, hb1, hb2, hb3, hb4⟩
            replace hI := Lib.hid (hI.out.put hb4)
            replace hS := Lib.hid (hS.out.put (l := ixL X0 X1) (by rw [List.append_assoc, show [[32, 32], opB X0, [32], numB (sgn X0 X1)].flatten = ixL X0 X1 from by simp [ixL]] at hb1; exact hb1) hb2 hb3)
            clear hb1 hb2 hb3 hb4 hp hlen
            go_wp2_with fail
            refine hK.out _ _ ?_ ?_
            · (try dsimp only); exact hI.out.c
            clear hK K9 hHeld; intro hHeld
            try simp only [Act.put, nA]
            refine wpAnyH_done (by kernel_rfl) ?_ _
            rw [← hnx.out] at hS
            clear hHeld hI
            go_wp2_with fail
            go_roundw
            case rel => exact ⟨j + 2, by have := hj2'.out; omega, by omega, by go_num, hS⟩
            case measure => simp [intOf]; omega
          · rw [fetP_no hj2 (by omega)] at PF
            have hnx := Lib.hid (lnK_by hj2 (show j + 1 = m.code.length by omega))
            have hr0 := Lib.hid (And.intro r0 r1)
            have hr64 : Hid (In64 (byAt m.code j)) := Lib.hid ⟨by omega, by omega⟩
            have p0 : (0 : Int) ≤ (j : Int) := by omega
            have p1 : (j : Int) < (m.code.length : Int) := by omega
            clear hin hj2
            simp only at PF
            go_upto_region 14 with (go_at_call 30; (with_reducible refine PF.out.mono ?_); rintro e y6 ⟨rfl, hb⟩; (replace hS := Lib.hid (hS.out.low hb)); clear hb PF a0 a1 a2 a3)
            replace hS := Lib.hid (hS.out.low ((Below.refl y6.heap.size y6).alloc (Nat.le_refl _) (.cells #[.int .i64 0, .int .i64 0] 75)))
            generalize y6.alloc (.cells #[.int .i64 0, .int .i64 0] 75) = y9 at *
            have a3 := hS.out.c.2.2.2
            have c0 := e0.out y9 hS.out.bel
            go_wp2_with (first
              | (go_at_call 29; (with_reducible refine (itoa_c hr64.out (hg.out.up hS.out.bel)).mono ?_); rintro e y7 ⟨rfl, hb⟩; (replace hS := Lib.hid (hS.out.low hb)); clear hb c0 a3)
              | (go_at_call 28; (have hp : Hid (Pts (y7.alloc (.cells #[.string ⟨#[98, 121, 116, 101, 32]⟩, .string (bs (numB (byAt m.code j)))] 9)) y7.heap.size [tByte, numB (byAt m.code j)]) := Lib.hid (pts_born y7 [tByte, numB (byAt m.code j)])); (replace hS := Lib.hid (hS.out.low ((Below.refl _ _).alloc (Nat.le_refl _) (.cells #[.string ⟨#[98, 121, 116, 101, 32]⟩, .string (bs (numB (byAt m.code j)))] 9)))); (have hlen : Hid ([tByte, numB (byAt m.code j)].flatten.length ≤ 90) := Lib.hid (by have h9 := byL_len (byAt m.code j); simp only [tByte, byL, List.flatten_cons, List.flatten_nil, List.length_append, List.length_cons, List.length_nil] at h9 ⊢; omega)); (with_reducible refine (putline_c (n := 2) hS.out.bld (by have := hS.out.sz; omega) hp.out (by have := hlen.out; have := hsz.out m.lits.length j; omega) rfl (by decide)).mono ?_); rintro e y8 ⟨rfl, hb1, hb2, hb3, hb4⟩; (replace hS := Lib.hid (hS.out.put (l := byL (byAt m.code j)) (by rw [List.append_assoc, show [tByte, numB (byAt m.code j)].flatten = byL (byAt m.code j) from by simp [tByte, byL]] at hb1; exact hb1) hb2 hb3)); clear hb1 hb2 hb3 hb4 hp hlen))
            rw [← hnx.out] at hS
            go_roundw
            case rel => exact ⟨j + 2, by have := hj2'.out; omega, by omega, by go_num, hS⟩
            case measure => simp [intOf]; omega
        · have hlt2 : decide ((j : Int) < (m.code.length : Int)) = false := by simp; omega
          have hend := Lib.hid (lnK_end (m := m) (j := j) (by omega))
          have a3 := hS.out.c.2.2.2
          clear hj2 hj
          go_wp2_with (go_at_call 33; (with_reducible refine (bstring_c hS.out.bld (by have := hS.out.sz; omega)).mono ?_); rintro e y6 ⟨rfl, hb⟩)
          go_ret
          exact ⟨by rw [← hend.out]; rfl, hS.out.bel.trans (hb.mono (by omega))⟩
end Wd
end Go.Proofs.YtkodnioheifalaaDoor
