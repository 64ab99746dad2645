/- The literals of a tape's method. -/
import Derived.Test.YthlijmdohejheaaKR
namespace Go.Proofs.Ythlijmdohejheaa
open Go.RowKit
set_option linter.unusedVariables false
set_option maxRecDepth 20000
namespace Wd
def numLit (x : Int × Int) : Prop := x.1 = 3 ∧ (x.2 = 0 ∨ x.2 = 7 ∨ x.2 = 1073741823 ∨ x.2 = -1073741824 ∨ x.2 = 100000)
def sels (k : Nat) : List (Int × Int) := (List.range k).map (fun (i : Nat) => ((5 : Int), (i : Int)))
theorem sels_succ (k : Nat) : sels (k + 1) = sels k ++ [(5, (k : Int))] := by simp [sels, List.range_succ]
def clsLit (c : Int) (x : Int × Int) : Prop := x.1 = 6 ∧ 2 ≤ x.2 ∧ x.2 < c
/-- the literals of a tape's method: four numbers, six names, two classes, two blocks -/
def litsOk (c : Int) (X : List (Int × Int)) : Prop := ∃ A B, X = A ++ sels 6 ++ B ++ [(7, 7), (7, 8)] ∧ A.length = 4 ∧ B.length = 2 ∧ (∀ x ∈ A, numLit x) ∧ ∀ x ∈ B, clsLit c x
theorem quad_at {w : World} {g : Nat} {x y z u : Int} (h0 : w.cell? ⟨g, 0, none⟩ = some (.int .i64 x)) (h1 : w.cell? ⟨g, 1, none⟩ = some (.int .i64 y)) (h2 : w.cell? ⟨g, 2, none⟩ = some (.int .i64 z)) (h3 : w.cell? ⟨g, 3, none⟩ = some (.int .i64 u)) : ∀ j v, (pr2 [(x, y), (z, u)])[j]? = some v → w.cell? ((⟨g, 0, none⟩ : Addr).add j) = some v := by
  intro j v hu
  match j, hu with
  | 0, hu =>
    simp [pr2] at hu; subst hu
    rw [Addr.add_lit]; exact h0
  | 1, hu =>
    simp [pr2] at hu; subst hu
    rw [Addr.add_lit]; exact h1
  | 2, hu =>
    simp [pr2] at hu; subst hu
    rw [Addr.add_lit]; exact h2
  | 3, hu =>
    simp [pr2] at hu; subst hu
    rw [Addr.add_lit]; exact h3
set_option maxHeartbeats 64000000 in
theorem lits_c {w0 w : World} {p n : Nat} {ad : Option Addr} (h : Ks w0 w p n ad) (c : Int) (hc0 : 3 ≤ c) (hc1 : c ≤ 100) :
    Calls Try.prog 31 #[.pointer (some ⟨p, 0, none⟩), .int .i64 c] w fun e w' => ∃ v' X, e = .returned v' ∧ litsOk c X ∧ Rw w0 w w' p n ad (.slice none 0 0) v' 41 2 14 (pr2 X) := by
  obtain ⟨i0, hi0, hz0, hz1, hz2⟩ := info_parts infoVal
  have hmx : 100000 ≤ maxLen := by decide
  have hst := Lib.hid (Rw.nil h 41 2)
  have hsz0 := h.cg.size
  clear h
  go_enter Try.func31, Try.ntmps31
  go_wp2
  go_loopw [5, 6] (fun i5 i6 wr => ∃ (k : Nat) (X : List (Int × Int)) (a : Option Addr) (cp : Nat), k ≤ 4 ∧ i6 = .int .i64 k ∧ i5 = .slice a k cp ∧ Hid (X.length = k ∧ (∀ x ∈ X, numLit x) ∧ Rw w0 w wr p n ad (.slice none 0 0) (.slice a k cp) 41 2 k (pr2 X))) (fun _ i6 _ => 4 - (intOf i6).toNat)
  case atStart => exact ⟨0, [], none, 0, by omega, rfl, rfl, Lib.hid ⟨rfl, by simp, hst.out⟩⟩
  case round =>
    obtain ⟨k, X, a, cp, hk, rfl, rfl, hX⟩ := hrel
    by_cases hk4 : k < 4
    · have hk4' : (k : Int) < 4 := by omega
      have hb1 := (Below.refl wr.heap.size wr).alloc (Nat.le_refl _) (.cells #[.int .i64 0, .int .i64 7, .int .i64 1073741823, .int .i64 (-1073741824), .int .i64 100000] 3)
      have h1 := Lib.hid (hX.out.2.2.keep hb1)
      clear hb1
      go_wp2_with fail
      refine (next_c 5 (by omega) (by omega) h1.out.ks.tp).mono ?_
      rintro e w2 ⟨x, rfl, ⟨x0, x1⟩, t1, c1⟩
      have h2 := Lib.hid (h1.out.next t1 c1)
      have hsz := hX.out.2.2.ks.cg.size
      have hp0 := hX.out.2.2.ks.p0
      have hne : wr.heap.size ≠ p := by omega
      have kb := c1.block wr.heap.size (by simp) hne
      obtain ⟨s, hs, j, rfl, hj, hc⟩ : ∃ s : Int, (s = 0 ∨ s = 7 ∨ s = 1073741823 ∨ s = -1073741824 ∨ s = 100000) ∧ ∃ j : Nat, x = j ∧ j < 5 ∧ w2.cell? ⟨wr.heap.size, j, none⟩ = some (.int .i64 s) := by
        rcases (show x = 0 ∨ x = 1 ∨ x = 2 ∨ x = 3 ∨ x = 4 by omega) with rfl | rfl | rfl | rfl | rfl
        · exact ⟨0, by omega, 0, rfl, by omega, (World.cell?_of_block (a := ⟨wr.heap.size, 0, none⟩) kb).trans (by simp)⟩
        · exact ⟨7, by omega, 1, rfl, by omega, (World.cell?_of_block (a := ⟨wr.heap.size, 1, none⟩) kb).trans (by simp)⟩
        · exact ⟨1073741823, by omega, 2, rfl, by omega, (World.cell?_of_block (a := ⟨wr.heap.size, 2, none⟩) kb).trans (by simp)⟩
        · exact ⟨-1073741824, by omega, 3, rfl, by omega, (World.cell?_of_block (a := ⟨wr.heap.size, 3, none⟩) kb).trans (by simp)⟩
        · exact ⟨100000, by omega, 4, rfl, by omega, (World.cell?_of_block (a := ⟨wr.heap.size, 4, none⟩) kb).trans (by simp)⟩
      have hj1 : (j : Int) < 5 := by omega
      have hX1 := Lib.hid (And.intro hX.out.1 hX.out.2.1)
      have hcd := Lib.hid h2.out.cd
      have hs0 : Hid (w0.heap.size ≤ w2.heap.size) := Lib.hid h2.out.ks.cg.size
      clear t1 c1 kb h1 hX hsz hp0 hne
      go_wp2_with (first | (at_builtin; refine wpList_append_lies _ rfl (.tmp 13) (.tmp 20) 34 rfl w0.heap.size 41 i0 (.agg #[.int .i64 0, .int .i64 0]) 2 16 Try.underlying34 hi0 hz0 hz1 hz2 rfl (by decide) (.slice a k cp) k _ (by simp [Act.eval]) (hcd.out.alloc _) ⟨w2.heap.size, 0, none⟩ 1 1 (pr2 [(3, s)]) (by simp [Act.eval]) (by simp [pr2]) (pair_at ((World.cell?_alloc_new _ _ _ 0).trans rfl) ((World.cell?_alloc_new _ _ _ 1).trans rfl)) (pr2_one _) (by omega) (by omega) (by omega) (by have := hs0.out; simp; omega) _ rfl ?_; intro g1 cap1 w3 hown1 hgrow1 hat1 hlt1))
      have h3 := Lib.hid (h2.out.grow ((Below.refl _ w2).alloc (Nat.le_refl _) _) (by rw [← pr2_app] at hown1; exact hown1) hgrow1 (at_hat hat1))
      clear hown1 hgrow1 hat1 hlt1
      go_roundw
      case rel => exact ⟨k + 1, X ++ [(3, s)], _, _, by omega, by go_num, rfl, Lib.hid ⟨by simp [hX1.out.1], fun y hy => by
        rcases List.mem_append.1 hy with hy | hy
        · exact hX1.out.2 y hy
        · rw [List.mem_singleton.1 hy]; exact ⟨rfl, hs⟩, h3.out⟩⟩
      case measure => simp [intOf]; omega
    · obtain rfl : k = 4 := by omega
      go_wp2_with fail
      refine (names_c _).mono ?_
      rintro e w2 ⟨rfl, hw2⟩
      have h2 := Lib.hid (hX.out.2.2.keep (by rw [hw2]; exact (Below.refl _ _).alloc (Nat.le_refl _) _ : Below wr.heap.size wr w2))
      have hA := Lib.hid (And.intro hX.out.1 hX.out.2.1)
      clear hX hw2 hst hsz0
      go_wp2
      go_loopw [5, 24] (fun i5 i24 wr => ∃ (k : Nat) (a : Option Addr) (cp m : Nat), k ≤ 6 ∧ m ≤ 14 ∧ Hid (m = 4 + k) ∧ i24 = .int .i64 k ∧ i5 = .slice a m cp ∧ Hid (Rw w0 w wr p n ad (.slice none 0 0) (.slice a m cp) 41 2 m (pr2 (X ++ sels k)))) (fun _ i24 _ => 6 - (intOf i24).toNat)
      case atStart => exact ⟨0, _, _, 4, by omega, by omega, Lib.hid rfl, rfl, rfl, Lib.hid (by rw [show sels 0 = [] from rfl, List.append_nil]; exact h2.out)⟩
      case round =>
        clear h2
        obtain ⟨k, a, cp, m, hk, hm14, hm, rfl, rfl, hR⟩ := hrel
        by_cases hk6 : k < 6
        · have hk6' : (k : Int) < 6 := by omega
          have hcd := Lib.hid hR.out.cd
          have hs0 : Hid (w0.heap.size ≤ wr.heap.size) := Lib.hid hR.out.ks.cg.size
          go_wp2_with (first | (at_builtin; refine wpList_append_lies _ rfl (.tmp 27) (.tmp 30) 34 rfl w0.heap.size 41 i0 (.agg #[.int .i64 0, .int .i64 0]) 2 16 Try.underlying34 hi0 hz0 hz1 hz2 rfl (by decide) (.slice a m cp) m _ (by simp [Act.eval]) (hcd.out.alloc _) ⟨wr.heap.size, 0, none⟩ 1 1 (pr2 [(5, (k : Int))]) (by simp [Act.eval]) (by simp [pr2]) (pair_at ((World.cell?_alloc_new _ _ _ 0).trans rfl) ((World.cell?_alloc_new _ _ _ 1).trans rfl)) (pr2_one _) (by omega) (by omega) (by omega) (by have := hs0.out; simp; omega) _ rfl ?_; intro g1 cap1 w3 hown1 hgrow1 hat1 hlt1))
          have h3 := Lib.hid (hR.out.grow ((Below.refl _ wr).alloc (Nat.le_refl _) _) (by rw [← pr2_app, List.append_assoc, ← sels_succ] at hown1; exact hown1) hgrow1 (at_hat hat1))
          clear hown1 hgrow1 hat1 hlt1 hR hcd
          go_roundw
          case rel => exact ⟨k + 1, _, _, m + 1, by omega, by have := hm.out; omega, Lib.hid (by have := hm.out; omega), by go_num, rfl, h3⟩
          case measure => simp [intOf]; omega
        · obtain rfl : k = 6 := by omega
          obtain rfl : m = 10 := by have := hm.out; omega
          clear hm hk hm14
          rw [show ((6 : Nat) : Int) = 6 from rfl]
          go_wp2
          go_loopw [5, 8] (fun i5 i8 wr => ∃ (k : Nat) (B : List (Int × Int)) (a : Option Addr) (cp m : Nat), k ≤ 2 ∧ m ≤ 14 ∧ Hid (m = 10 + k) ∧ i8 = .int .i64 k ∧ i5 = .slice a m cp ∧ Hid (B.length = k ∧ (∀ x ∈ B, clsLit c x) ∧ Rw w0 w wr p n ad (.slice none 0 0) (.slice a m cp) 41 2 m (pr2 (X ++ sels 6 ++ B)))) (fun _ i8 _ => 2 - (intOf i8).toNat)
          case atStart => exact ⟨0, [], _, _, 10, by omega, by omega, Lib.hid rfl, rfl, rfl, Lib.hid ⟨rfl, by simp, by rw [List.append_nil]; exact hR.out⟩⟩
          case round =>
            clear hR
            obtain ⟨k, B, a, cp, m, hk, hm14, hm, rfl, rfl, hB⟩ := hrel
            by_cases hk2 : k < 2
            · have hk2' : (k : Int) < 2 := by omega
              have hw1 : IntKind.i64.wrap (c - 2) = c - 2 := by rw [IntKind.wrap_i64]; omega
              go_wp2_with fail
              refine (next_c (c - 2) (by omega) (by omega) hB.out.2.2.ks.tp).mono ?_
              rintro e w2 ⟨x, rfl, ⟨x0, x1⟩, t1, c1⟩
              have h2 := Lib.hid (hB.out.2.2.next t1 c1)
              have hcd := Lib.hid h2.out.cd
              have hs0 : Hid (w0.heap.size ≤ w2.heap.size) := Lib.hid h2.out.ks.cg.size
              have hw3 : IntKind.i64.wrap (2 + x) = 2 + x := by rw [IntKind.wrap_i64]; omega
              clear t1 c1
              go_wp2_with (first | (at_builtin; refine wpList_append_lies _ rfl (.tmp 37) (.tmp 44) 34 rfl w0.heap.size 41 i0 (.agg #[.int .i64 0, .int .i64 0]) 2 16 Try.underlying34 hi0 hz0 hz1 hz2 rfl (by decide) (.slice a m cp) m _ (by simp [Act.eval]) (hcd.out.alloc _) ⟨w2.heap.size, 0, none⟩ 1 1 (pr2 [(6, 2 + x)]) (by simp [Act.eval]) (by simp [pr2]) (pair_at ((World.cell?_alloc_new _ _ _ 0).trans rfl) ((World.cell?_alloc_new _ _ _ 1).trans rfl)) (pr2_one _) (by omega) (by omega) (by omega) (by have := hs0.out; simp; omega) _ rfl ?_; intro g1 cap1 w3 hown1 hgrow1 hat1 hlt1))
              have h3 := Lib.hid (h2.out.grow ((Below.refl _ w2).alloc (Nat.le_refl _) _) (by rw [← pr2_app, List.append_assoc] at hown1; exact hown1) hgrow1 (at_hat hat1))
              clear hown1 hgrow1 hat1 hlt1 hcd
              go_roundw
              case rel => exact ⟨k + 1, B ++ [(6, 2 + x)], _, _, m + 1, by omega, by have := hm.out; omega, Lib.hid (by have := hm.out; omega), by go_num, rfl, Lib.hid ⟨by simp [hB.out.1], fun y hy => by
                rcases List.mem_append.1 hy with hy | hy
                · exact hB.out.2.1 y hy
                · rw [List.mem_singleton.1 hy]; exact ⟨rfl, by simp only; omega, by simp only; omega⟩, h3.out⟩⟩
              case measure => simp [intOf]; omega
            · obtain rfl : k = 2 := by omega
              obtain rfl : m = 12 := by have := hm.out; omega
              have hcd := Lib.hid hB.out.2.2.cd
              have hs0 : Hid (w0.heap.size ≤ wr.heap.size) := Lib.hid hB.out.2.2.ks.cg.size
              go_wp2_with (first | (at_builtin; refine wpList_append_lies _ rfl (.tmp 46) (.tmp 49) 34 rfl w0.heap.size 41 i0 (.agg #[.int .i64 0, .int .i64 0]) 2 16 Try.underlying34 hi0 hz0 hz1 hz2 rfl (by decide) (.slice a 12 cp) 12 _ (by simp [Act.eval]) (hcd.out.alloc _) ⟨wr.heap.size, 0, none⟩ 2 2 (pr2 [(7, 7), (7, 8)]) (by simp [Act.eval]) (by simp [pr2]) (quad_at ((World.cell?_alloc_new _ _ _ 0).trans rfl) ((World.cell?_alloc_new _ _ _ 1).trans rfl) ((World.cell?_alloc_new _ _ _ 2).trans rfl) ((World.cell?_alloc_new _ _ _ 3).trans rfl)) (pr2_one _) (by omega) (by omega) (by omega) (by have := hs0.out; simp; omega) _ rfl ?_; intro g1 cap1 w3 hown1 hgrow1 hat1 hlt1))
              have h3 := Lib.hid (hB.out.2.2.grow ((Below.refl _ wr).alloc (Nat.le_refl _) _) (by rw [← pr2_app] at hown1; exact hown1) hgrow1 (at_hat hat1))
              go_ret
              exact ⟨_, rfl, _, ⟨X, B, rfl, hA.out.1, hB.out.1, hA.out.2, hB.out.2.1⟩, h3.out⟩
end Wd
end Go.Proofs.Ythlijmdohejheaa
