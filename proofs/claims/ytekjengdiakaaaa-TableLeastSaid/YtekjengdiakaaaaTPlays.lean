/- What the laws ask of a table of identities: TablePlays. -/
import Derived.Test.YtekjengdiakaaaaTPlay
import Derived.Deep.AppendLies
import Derived.Deep.RegionHeld3
namespace Go.Proofs.Ytekjengdiakaaaa
open Go.RowKit
set_option linter.unusedVariables false
namespace Wd
/-- asks as cells -/
def tri : List (Int × Int × Int) → List Value
  | [] => []
  | t :: T => .int .i64 t.1 :: .int .i64 t.2.1 :: .int .i64 t.2.2 :: tri T
theorem tri_app : ∀ (A B : List (Int × Int × Int)), tri (A ++ B) = tri A ++ tri B
  | [], _ => rfl
  | t :: A, B => by simp [tri, tri_app A B]
theorem tri_get : ∀ (T : List (Int × Int × Int)) (k : Nat) (t : Int × Int × Int), T[k]? = some t → (tri T)[k * 3]? = some (.int .i64 t.1) ∧ (tri T)[k * 3 + 1]? = some (.int .i64 t.2.1) ∧ (tri T)[k * 3 + 2]? = some (.int .i64 t.2.2)
  | [], k, t, h => by simp at h
  | s :: T, 0, t, h => by simp at h; subst h; simp [tri]
  | s :: T, k + 1, t, h => by
    have := tri_get T k t (by simpa using h)
    rw [show (k + 1) * 3 = k * 3 + 3 by omega]
    simpa [tri] using this
def InB (x : Int) : Prop := -9223372036854775808 ≤ x ∧ x ≤ 9223372036854775807
theorem asks_own {w : World} {base k : Nat} {v : Value} {T : List (Int × Int × Int)} (h : w.ownsRow base 24 3 v k (tri T)) (hk : T.length = k) (hb : ∀ t, t ∈ T → InB t.1 ∧ InB t.2.1 ∧ InB t.2.2) :
    ∃ ad cap, v = .slice ad k cap ∧ Asks w ad k := by
  rcases h.2 with ⟨rfl, h0⟩ | ⟨g, cap, cur, rfl, h1, h2, h3⟩
  · exact ⟨_, _, by rw [h0], fun _ _ q hq => by omega⟩
  · refine ⟨_, _, rfl, fun wr hbl q hq => ?_⟩
    obtain ⟨t, ht⟩ : ∃ t, T[q]? = some t := ⟨T[q]'(by omega), by simp⟩
    obtain ⟨c0, c1, c2⟩ := tri_get T q t ht
    obtain ⟨b0, b1, b2⟩ := hb t (List.mem_of_getElem? ht)
    refine ⟨g, 0, t.1, t.2.1, t.2.2, rfl, b0, b1, b2, ?_, ?_, ?_⟩
    · rw [Nat.zero_add]; exact cell_up hbl ((h.cellAt (q * 3) (by omega)).trans c0)
    · rw [Nat.zero_add]; exact cell_up hbl ((h.cellAt (q * 3 + 1) (by omega)).trans c1)
    · rw [Nat.zero_add]; exact cell_up hbl ((h.cellAt (q * 3 + 2) (by omega)).trans c2)
theorem Asks.up {w0 w1 : World} {ad : Option Addr} {len : Nat} (h : Asks w0 ad len) (b : Below w0.heap.size w0 w1) : Asks w1 ad len := fun wr g k hk => h wr (b.trans (g.mono b.size)) k hk
theorem infoA : (Try.prog.info? 24).map (fun i => (i.zero, i.size, i.bytes)) = some (some (.agg #[.int .i64 0, .int .i64 0, .int .i64 0]), 3, 24) := by kernel_rfl
/-- the asks that were brought into bounds so far -/
structure Some_ (w wr : World) (k : Nat) (v : Value) (T : List (Int × Int × Int)) : Prop where
  own : wr.ownsRow w.heap.size 24 3 v k (tri T)
  len : T.length = k
  bd : ∀ t, t ∈ T → InB t.1 ∧ InB t.2.1 ∧ InB t.2.2
  bel : Below w.heap.size w wr
theorem tri_one : ∀ (T : List (Int × Int × Int)), ∀ u ∈ tri T, u.oneCell' = true
  | [], u, h => by cases h
  | t :: T, u, h => by
    simp only [tri, List.mem_cons] at h
    rcases h with rfl | rfl | rfl | h
    · rfl
    · rfl
    · rfl
    · exact tri_one T u h
theorem Some_.next {w wr w1 : World} {k g cap : Nat} {v : Value} {T : List (Int × Int × Int)} {t : Int × Int × Int} {c : Array Value} {ty : TypeId} (h : Some_ w wr k v T) (ht : InB t.1 ∧ InB t.2.1 ∧ InB t.2.2)
    (hown : w1.ownsRow w.heap.size 24 3 (.slice (some ⟨g, 0, none⟩) (k + 1) cap) (k + 1) (tri T ++ tri [t])) (hg : (wr.alloc (.cells c ty)).drew.grownBy w1 v.ownBlock) : Some_ w w1 (k + 1) (.slice (some ⟨g, 0, none⟩) (k + 1) cap) (T ++ [t]) := by
  refine ⟨by rw [tri_app]; exact hown, by simp [h.len], fun s hs => ?_, ?_⟩
  · rcases List.mem_append.1 hs with hs | hs
    · exact h.bd s hs
    · simp only [List.mem_singleton] at hs; subst hs; exact ht
  · have b1 : Below w.heap.size w (wr.alloc (.cells c ty)).drew := (h.bel.alloc h.bel.size _).drew
    exact b1.grown hg b1.size (fun q hq => (h.own.lt q hq).1)
set_option maxHeartbeats 16000000 in
theorem plays_any {TA : TAt} (K : TableK TA) (ad : Option Addr) (len cap : Nat) (w : World) (HA : Asks w ad len) (hlen : len * 24 ≤ 140737488351232) :
    Calls Try.prog 4 #[.slice ad len cap] w fun e w' => e = .returned (.bool true) ∧ Below w.heap.size w w' := by
  obtain ⟨i0, hi0, hz0, hz1, hz2⟩ := info_parts infoA
  have hmx : Hid (len + 1 ≤ maxLen) := Lib.hid (by simp only [maxLen]; omega)
  replace HA := Lib.hid HA
  go_enter Try.func4, Try.ntmps4
  have s0 : Hid (Some_ w w 0 (.slice none 0 0) []) := Lib.hid ⟨World.ownsRow_nil _ _ _ _, rfl, fun _ h => (by cases h), Below.refl _ _⟩
  go_wp2
  go_loopw [3, 7] (fun v i wr => ∃ k : Nat, k ≤ len ∧ i = .int .i64 k ∧ ∃ vv T, v = vv ∧ Hid (Some_ w wr k vv T)) (fun _ i _ => len - (intOf i).toNat)
  case atStart => exact ⟨0, by omega, rfl, _, [], rfl, s0⟩
  case round =>
    clear s0
    obtain ⟨k, hk, rfl, vv, T, rfl, hst⟩ := hrel
    by_cases hlt : k < len
    · obtain ⟨g, off, x, y, z, rfl, ⟨x0, x1⟩, ⟨y0, y1⟩, ⟨z0, z1⟩, cx, cy, cz⟩ := HA.out wr hst.out.bel k hlt
      have d1 : decide ((k : Int) < (len : Int)) = true := by simp; omega
      go_wp2
      have hg1 : g < w.heap.size := by
        obtain ⟨g', o', _, _, _, e, _, _, _, c, _⟩ := HA.out w (Below.refl _ _) k hlt
        cases e
        exact World.block_lt_of_cell? w _ c
      have hgv : some g ≠ u3.ownBlock := fun e => by have := (hst.out.own.lt g e.symm).1; omega
      have gA : Below wr.heap.size wr (wr.alloc (.cells #[.int .i64 (within x 0 4), .int .i64 (within y 0 14), .int .i64 (within z 0 14)] 24)).drew := ((Below.refl _ _).alloc (Nat.le_refl _) _).drew
      have hnw : Hid (∀ j u, (tri [(within x 0 4, within y 0 14, within z 0 14)])[j]? = some u → (wr.alloc (.cells #[.int .i64 (within x 0 4), .int .i64 (within y 0 14), .int .i64 (within z 0 14)] 24)).drew.cell? ((⟨wr.heap.size, 0, none⟩ : Addr).add j) = some u) := Lib.hid (World.news_of_block (heap_alloc_new wr _))
      have tb : Hid (InB (within x 0 4) ∧ InB (within y 0 14) ∧ InB (within z 0 14)) := Lib.hid (by
        have h1 := within_bd x 0 4 (by omega)
        have h2 := within_bd y 0 14 (by omega)
        have h3 := within_bd z 0 14 (by omega)
        unfold InB; omega)
      go_region_held3 (fun w' => w'.cell? ⟨g, off + k * 3, none⟩ = some (.int .i64 x) ∧ w'.cell? ⟨g, off + k * 3 + 1, none⟩ = some (.int .i64 y) ∧ w'.cell? ⟨g, off + k * 3 + 2, none⟩ = some (.int .i64 z)) (first | assumption | exact ⟨cx, cy, cz⟩ | exact ⟨cell_up gA cx, cell_up gA cy, cell_up gA cz⟩ | exact ⟨hgrow.cell (cell_up gA cx) hgv, hgrow.cell (cell_up gA cy) hgv, hgrow.cell (cell_up gA cz) hgv⟩) (first
        | (refine step_append_lies _ rfl (.tmp 10) (.tmp 30) 22 rfl w.heap.size 24 i0 (.agg #[.int .i64 0, .int .i64 0, .int .i64 0]) 3 24 Try.underlying22 hi0 hz0 hz1 hz2 rfl (by decide) u3 k _ (by simp [Act.eval]) (hst.out.own.alloc _) ⟨wr.heap.size, 0, none⟩ 1 1 (tri [(within x 0 4, within y 0 14, within z 0 14)]) (by simp [Act.eval]) rfl hnw.out (tri_one _) (by omega) (by have := hmx.out; omega) (by omega) (by have := hst.out.bel.size; simp; omega) _ rfl ?_; intro g2 cap2 w5 hown hgrow hat hlt2)
        | (go_at_call 12; ((with_reducible refine (within_c _ _ _ (by assumption) (by assumption) (by omega) (by omega) (by omega) _).mono ?_); rintro e w' ⟨rfl, rfl⟩)))
      go_wp2
      go_roundw
      case rel => exact ⟨k + 1, by omega, by go_num, _, _, rfl, Lib.hid (hst.out.next tb.out hown hgrow)⟩
      case measure => simp [intOf]; omega
    · have d1 : decide ((k : Int) < (len : Int)) = false := by simp; omega
      obtain ⟨ad2, cap2, e2, HB⟩ := asks_own hst.out.own hst.out.len hst.out.bd
      subst e2
      have hbel := Lib.hid hst.out.bel
      replace HB := Lib.hid HB
      clear hst
      go_wp2_with fail
      refine (play_any K ad len cap wr (HA.out.up hbel.out) (by omega)).mono ?_
      rintro e w5 ⟨rfl, hd⟩
      replace HB := Lib.hid (HB.out.up hd)
      replace hbel := Lib.hid (hbel.out.trans (hd.mono hbel.out.size))
      clear hd
      go_wp2_with fail
      refine (play_any K ad2 k cap2 w5 HB.out (by omega)).mono ?_
      rintro e w6 ⟨rfl, hd⟩
      replace hbel := Lib.hid (hbel.out.trans (hd.mono hbel.out.size))
      clear hd
      go_wp2_with fail
      refine (known_any K w6).mono ?_
      rintro e w7 ⟨rfl, hd⟩
      replace hbel := Lib.hid (hbel.out.trans (hd.mono hbel.out.size))
      clear hd
      go_wp2
      go_ret
      exact ⟨rfl, hbel.out⟩
end Wd
end Go.Proofs.Ytekjengdiakaaaa
