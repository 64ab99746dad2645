/- DictNumbers, over what the laws ask of the package. -/
import Derived.Test.YtdpckckfkpefnaaJTells
namespace Go.Proofs.Ytdpckckfkpefnaa
open Go.RowKit
set_option linter.unusedVariables false
set_option maxRecDepth 20000
namespace Wd
/-- a row of asks, and one of binds, of the call's own -/
structure TwoR (w0 wr : World) (a : Option Addr) (i c : Nat) (b : Option Addr) (m d : Nat) (T : List (Int × Int × Int)) (P : List (Int × Int)) : Prop where
  o1 : wr.ownsRow w0.heap.size 25 3 (.slice a i c) i (ak3 T)
  o2 : wr.ownsRow w0.heap.size 27 2 (.slice b m d) m (pr2 P)
  l1 : i = T.length
  l2 : m = P.length
  b1 : ∀ x ∈ T, I64 x.1 ∧ I64 x.2.1 ∧ I64 x.2.2
  b2 : ∀ x ∈ P, I64 x.1 ∧ I64 x.2
  ne : ∀ g, (Value.slice a i c).ownBlock = some g → ¬ (Value.slice b m d).ownBlock = some g
  bel : Below w0.heap.size w0 wr
theorem TwoR.start {w0 wr : World} (h : Below w0.heap.size w0 wr) : TwoR w0 wr none 0 0 none 0 0 [] [] :=
  ⟨World.ownsRow_nil _ _ _ _, World.ownsRow_nil _ _ _ _, rfl, rfl, by simp, by simp, by simp [Value.ownBlock], h⟩
theorem TwoR.app1 {w0 wr w1 : World} {a b : Option Addr} {i c m d : Nat} {T : List (Int × Int × Int)} {P : List (Int × Int)} (h : TwoR w0 wr a i c b m d T P) {x : Int × Int × Int} (hx : I64 x.1 ∧ I64 x.2.1 ∧ I64 x.2.2) {o : Obj} {g cap H : Nat}
    (hown : w1.ownsRow w0.heap.size 25 3 (.slice (some ⟨g, 0, none⟩) (i + 1) cap) (i + 1) (ak3 T ++ ak3 [x])) (hg : (wr.alloc o).grownBy w1 (Value.slice a i c).ownBlock) (hat : (Value.slice a i c).ownBlock = some g ∨ g = H) (hH : (wr.alloc o).heap.size = H) :
    TwoR w0 w1 (some ⟨g, 0, none⟩) (i + 1) cap b m d (T ++ [x]) P := by
  have hne : (Value.slice b m d).ownBlock = none ∨ (Value.slice b m d).ownBlock ≠ (Value.slice a i c).ownBlock := by
    cases hb : (Value.slice b m d).ownBlock with
    | none => exact Or.inl rfl
    | some q => exact Or.inr (fun e => h.ne q e.symm hb)
  refine ⟨by rw [ak3_app]; exact hown, (h.o2.alloc o).kept hg hne, by simp [h.l1], h.l2, fun y hy => ?_, h.b2, fun q hq hb => ?_, (h.bel.alloc h.bel.size _).grown hg (by have := h.bel.size; simp; omega) (fun k hk => (h.o1.lt k hk).1)⟩
  · rcases List.mem_append.1 hy with hy | hy
    · exact h.b1 y hy
    · rw [List.mem_singleton.1 hy]; exact hx
  · have e : q = g := by simpa [Value.ownBlock] using hq.symm
    subst e
    rcases hat with e2 | e2
    · exact h.ne q e2 hb
    · have := (h.o2.lt q hb).2
      rw [e2, ← hH] at this
      simp at this
      omega
theorem TwoR.app2 {w0 wr w1 : World} {a b : Option Addr} {i c m d : Nat} {T : List (Int × Int × Int)} {P : List (Int × Int)} (h : TwoR w0 wr a i c b m d T P) {x : Int × Int} (hx : I64 x.1 ∧ I64 x.2) {o : Obj} {g cap H : Nat}
    (hown : w1.ownsRow w0.heap.size 27 2 (.slice (some ⟨g, 0, none⟩) (m + 1) cap) (m + 1) (pr2 P ++ pr2 [x])) (hg : (wr.alloc o).grownBy w1 (Value.slice b m d).ownBlock) (hat : (Value.slice b m d).ownBlock = some g ∨ g = H) (hH : (wr.alloc o).heap.size = H) :
    TwoR w0 w1 a i c (some ⟨g, 0, none⟩) (m + 1) cap T (P ++ [x]) := by
  have hne : (Value.slice a i c).ownBlock = none ∨ (Value.slice a i c).ownBlock ≠ (Value.slice b m d).ownBlock := by
    cases hb : (Value.slice a i c).ownBlock with
    | none => exact Or.inl rfl
    | some q => exact Or.inr (fun e => h.ne q hb e.symm)
  refine ⟨(h.o1.alloc o).kept hg hne, by rw [pr2_app]; exact hown, h.l1, by simp [h.l2], h.b1, fun y hy => ?_, fun q hq hb => ?_, (h.bel.alloc h.bel.size _).grown hg (by have := h.bel.size; simp; omega) (fun k hk => (h.o2.lt k hk).1)⟩
  · rcases List.mem_append.1 hy with hy | hy
    · exact h.b2 y hy
    · rw [List.mem_singleton.1 hy]; exact hx
  · have e : q = g := by simpa [Value.ownBlock] using hb.symm
    subst e
    rcases hat with e2 | e2
    · exact h.ne q hq e2
    · have := (h.o1.lt q hq).2
      rw [e2, ← hH] at this
      simp at this
      omega
theorem mod_nat (a q : Nat) : Int.tmod (a : Int) (q : Int) = ((a % q : Nat) : Int) := (Int.ofNat_tmod a q).symm
theorem ask4 (w : World) (g : Nat) (hg : g = w.heap.size) : AskV (w.alloc (.cells #[.int .i64 0, .int .i64 9223372036854775807, .int .i64 1, .int .i64 0, .int .i64 9223372036854775791, .int .i64 2, .int .i64 0, .int .i64 (-9223372036854775808), .int .i64 0, .int .i64 2, .int .i64 9223372036854775807, .int .i64 0] 25)) (some ⟨g, 0, none⟩) 4 := by
  subst hg
  intro k hk
  rcases (show k = 0 ∨ k = 1 ∨ k = 2 ∨ k = 3 by omega) with rfl | rfl | rfl | rfl
  · exact ⟨_, 0, 0, 9223372036854775807, 1, rfl, ⟨by decide, by decide⟩, ⟨by decide, by decide⟩, ⟨by decide, by decide⟩, by simp, by simp, by simp⟩
  · exact ⟨_, 0, 0, 9223372036854775791, 2, rfl, ⟨by decide, by decide⟩, ⟨by decide, by decide⟩, ⟨by decide, by decide⟩, by simp, by simp, by simp⟩
  · exact ⟨_, 0, 0, (-9223372036854775808), 0, rfl, ⟨by decide, by decide⟩, ⟨by decide, by decide⟩, ⟨by decide, by decide⟩, by simp, by simp, by simp⟩
  · exact ⟨_, 0, 2, 9223372036854775807, 0, rfl, ⟨by decide, by decide⟩, ⟨by decide, by decide⟩, ⟨by decide, by decide⟩, by simp, by simp, by simp⟩
theorem prv_neg (w : World) (g : Nat) (hg : g = w.heap.size) : PrV (w.alloc (.cells #[.int .i64 (-1), .int .i64 0] 27)) (.slice (some ⟨g, 0, none⟩) 1 1) [(-1, 0)] := by
  subst hg
  refine ⟨_, _, rfl, by decide, by decide, fun k x hk => ?_⟩
  have hk1 : k < 1 := (List.getElem?_eq_some_iff.1 hk).1
  obtain rfl : k = 0 := by omega
  cases hk
  exact ⟨⟨by decide, by decide⟩, ⟨by decide, by decide⟩, _, 0, rfl, by simp, by simp⟩
set_option maxHeartbeats 16000000 in
theorem numbers_any {DA : DAt} (K : DicK DA) (w : World) :
    Calls Try.prog 3 #[] w fun e w' => e = .returned (.bool true) ∧ Below w.heap.size w w' := by
  obtain ⟨i0, hi0, hz0, hz1, hz2⟩ := info_parts infoAsk
  obtain ⟨j0, hj0, hy0, hy1, hy2⟩ := info_parts infoBind
  have hmx : 100000 ≤ maxLen := by decide
  have hB0 := Lib.hid (Below.refl w.heap.size w)
  go_enter Try.func3, Try.ntmps3
  go_wp2
  go_loopw [1] (fun i1 wr => ∃ k : Nat, k ≤ 40 ∧ i1 = .int .i64 k ∧ Hid (Below w.heap.size w wr)) (fun i1 _ => 40 - (intOf i1).toNat)
  case atStart => exact ⟨0, by omega, rfl, hB0⟩
  case round =>
    clear hB0
    obtain ⟨k, hk, rfl, hB⟩ := hrel
    by_cases hlt : k < 40
    · have d1 : decide ((k : Int) < 40) = true := by simp; omega
      have hst := Lib.hid (TwoR.start hB.out)
      go_wp2
      go_loopw [2, 3, 4] (fun i2 i3 i4 wr => ∃ (i : Nat) (a b : Option Addr) (c m d : Nat) (T : List (Int × Int × Int)) (P : List (Int × Int)), i ≤ 40 ∧ m ≤ i ∧ i4 = .int .i64 i ∧ i2 = .slice a i c ∧ i3 = .slice b m d ∧ Hid (TwoR w wr a i c b m d T P)) (fun _ _ i4 _ => 40 - (intOf i4).toNat)
      case atStart => exact ⟨0, none, none, 0, 0, 0, [], [], by omega, by omega, rfl, rfl, rfl, hst⟩
      case round =>
        clear hst hB
        obtain ⟨i, a, b, c, m, d, T, P, hi, hmi, rfl, rfl, rfl, hR⟩ := hrel
        by_cases hit : i < 40
        · have e1 : decide ((i : Int) < 40) = true := by simp; omega
          have hs1 : i * i ≤ 40 * 40 := Nat.mul_le_mul (by omega) (by omega)
          have hs2 : k * i ≤ 40 * 40 := Nat.mul_le_mul (by omega) (by omega)
          have hs3 : i * (k + 3) ≤ 40 * 43 := Nat.mul_le_mul (by omega) (by omega)
          have q1 : (i : Int) * (i : Int) = ((i * i : Nat) : Int) := by push_cast; rfl
          have q2 : (k : Int) * (i : Int) = ((k * i : Nat) : Int) := by push_cast; rfl
          have q3 : (i : Int) * ((k : Int) + 3) = ((i * (k + 3) : Nat) : Int) := by push_cast; rfl
          generalize i * i = s1 at *
          generalize k * i = s2 at *
          generalize i * (k + 3) = s3 at *
          obtain ⟨r1, h1, hr1⟩ : ∃ r : Nat, Int.tmod ((i : Int) + (k : Int)) 3 = (r : Int) ∧ r < 3 := ⟨(i + k) % 3, by have := mod_nat (i + k) 3; push_cast at this ⊢; exact this, by omega⟩
          obtain ⟨r2, h2, hr2⟩ : ∃ r : Nat, Int.tmod ((s1 : Int) * 7 + (s2 : Int)) 97 = (r : Int) ∧ r < 97 := ⟨(s1 * 7 + s2) % 97, by have := mod_nat (s1 * 7 + s2) 97; push_cast at this ⊢; exact this, by omega⟩
          obtain ⟨r3, h3, hr3⟩ : ∃ r : Nat, Int.tmod (s3 : Int) 61 = (r : Int) ∧ r < 61 := ⟨s3 % 61, by exact mod_nat s3 61, by omega⟩
          have hx1 : Hid (I64 (r1 : Int) ∧ I64 ((r2 : Int) - 2) ∧ I64 (i : Int)) := Lib.hid ⟨⟨by omega, by omega⟩, ⟨by omega, by omega⟩, ⟨by omega, by omega⟩⟩
          have hx2 : Hid (I64 (r3 : Int) ∧ I64 (i : Int)) := Lib.hid ⟨⟨by omega, by omega⟩, ⟨by omega, by omega⟩⟩
          by_cases hik : i < k
          · have e2 : decide ((i : Int) < (k : Int)) = true := by simp; omega
            go_wp2_with (first | (at_builtin; refine wpList_append_lies _ rfl (.tmp 13) (.tmp 30) 22 rfl w.heap.size 25 i0 (.agg #[.int .i64 0, .int .i64 0, .int .i64 0]) 3 24 Try.underlying22 hi0 hz0 hz1 hz2 rfl (by decide) _ i _ (by simp [Act.eval]) (hR.out.o1.alloc _) ⟨wr.heap.size, 0, none⟩ 1 1 (ak3 [((r1 : Int), (r2 : Int) - 2, (i : Int))]) (by simp [Act.eval]) (by simp [ak3]) (rd_ask wr _ _ _ _ rfl) (ak3_one _) (by omega) (by omega) (by omega) (by have := hR.out.bel.size; simp; omega) _ rfl ?_; intro g1 cap1 wh hown1 hgrow1 hat1 hlt1; have hR1 := Lib.hid (hR.out.app1 (x := ((r1 : Int), (r2 : Int) - 2, (i : Int))) hx1.out hown1 hgrow1 hat1 rfl); clear hown1 hgrow1 hat1 hlt1) | (at_builtin; refine wpList_append_lies _ rfl (.tmp 35) (.tmp 43) 23 rfl w.heap.size 27 j0 (.agg #[.int .i64 0, .int .i64 0]) 2 16 Try.underlying23 hj0 hy0 hy1 hy2 rfl (by decide) _ m _ (by simp [Act.eval]) (hR1.out.o2.alloc _) ⟨wh.heap.size, 0, none⟩ 1 1 (pr2 [((r3 : Int), (i : Int))]) (by simp [Act.eval]) (by simp [pr2]) (rd_bind wh _ _ _ rfl) (pr2_one _) (by omega) (by omega) (by omega) (by have := hR1.out.bel.size; simp; omega) _ rfl ?_; intro g2 cap2 wk hown1 hgrow1 hat1 hlt1; have hR2 := Lib.hid (hR1.out.app2 (x := ((r3 : Int), (i : Int))) hx2.out hown1 hgrow1 hat1 rfl); clear hown1 hgrow1 hat1 hlt1))
            go_roundw
            case rel => exact ⟨i + 1, _, _, _, m + 1, _, _, _, by omega, by omega, by go_num, rfl, rfl, hR2⟩
            case measure => simp [intOf]; omega
          · have e2 : decide ((i : Int) < (k : Int)) = false := by simp; omega
            go_wp2_with (first | (at_builtin; refine wpList_append_lies _ rfl (.tmp 13) (.tmp 30) 22 rfl w.heap.size 25 i0 (.agg #[.int .i64 0, .int .i64 0, .int .i64 0]) 3 24 Try.underlying22 hi0 hz0 hz1 hz2 rfl (by decide) _ i _ (by simp [Act.eval]) (hR.out.o1.alloc _) ⟨wr.heap.size, 0, none⟩ 1 1 (ak3 [((r1 : Int), (r2 : Int) - 2, (i : Int))]) (by simp [Act.eval]) (by simp [ak3]) (rd_ask wr _ _ _ _ rfl) (ak3_one _) (by omega) (by omega) (by omega) (by have := hR.out.bel.size; simp; omega) _ rfl ?_; intro g1 cap1 wh hown1 hgrow1 hat1 hlt1; have hR1 := Lib.hid (hR.out.app1 (x := ((r1 : Int), (r2 : Int) - 2, (i : Int))) hx1.out hown1 hgrow1 hat1 rfl); clear hown1 hgrow1 hat1 hlt1))
            go_roundw
            case rel => exact ⟨i + 1, _, _, _, m, _, _, _, by omega, by omega, by go_num, rfl, rfl, hR1⟩
            case measure => simp [intOf]; omega
        · have e1 : decide ((i : Int) < 40) = false := by simp; omega
          have hAs := Lib.hid (AskV.own (by have := hR.out.o1; rw [← hR.out.l1]; exact this) hR.out.l1 hR.out.b1 : AskV wr a i)
          have hPv : Hid (PrV wr (.slice b m d) P) := Lib.hid (by
            have := PrV.own (T := P) (by have := hR.out.o2; rw [← hR.out.l2]; exact this) hR.out.b2
            exact this)
          have hlc : m ≤ d := by
            rcases hR.out.o2.2 with ⟨e, e0⟩ | ⟨g, cap, cur, e, _, _, h3, _⟩
            · omega
            · cases e; exact h3
          obtain ⟨h, hh, hhm⟩ : ∃ h : Nat, Int.tdiv (m : Int) 2 = (h : Int) ∧ h ≤ m := ⟨m / 2, by exact (Int.ofNat_tdiv m 2).symm, by omega⟩
          have hPt := Lib.hid (hPv.out.take h (by have := hR.out.l2; omega))
          have hB := Lib.hid hR.out.bel
          have u1 : (h : Int) ≤ (d : Int) := by omega
          have u2 : (0 : Int) ≤ (h : Int) := by omega
          have i63 : i ≤ 9223372036854775807 := by omega
          clear hR
          go_wp2_with (first | (go_at_call 7; ((with_reducible refine (play_any K hAs.out i63).mono ?_); rintro e y7 ⟨rfl, hb⟩; replace hPv := Lib.hid (hPv.out.up hb); replace hPt := Lib.hid (hPt.out.up hb); replace hB := Lib.hid (hB.out.trans (hb.mono hB.out.size)); clear hb)) | (go_at_call 8; first | ((with_reducible refine (of_any K hPv.out).mono ?_); rintro e y8 ⟨rfl, hb⟩; replace hPt := Lib.hid (hPt.out.up hb); replace hB := Lib.hid (hB.out.trans (hb.mono hB.out.size)); clear hb) | ((with_reducible refine (of_any K hPt.out).mono ?_); rintro e y9 ⟨rfl, hb⟩; replace hB := Lib.hid (hB.out.trans (hb.mono hB.out.size)); clear hb)))
          go_roundw
          case rel => exact ⟨k + 1, by omega, by go_num, hB⟩
          case measure => simp [intOf]; omega
    · have d1 : decide ((k : Int) < 40) = false := by simp; omega
      go_wp2_with (first | (go_at_call 7; ((refine (play_any K (ask4 _ _ rfl) (by omega)).mono ?_); rintro e y7 ⟨rfl, hb⟩; replace hB := Lib.hid (hB.out.trans (((Below.refl _ _).alloc (Nat.le_refl _) _ |>.trans (hb.mono (by simp))).mono hB.out.size)); clear hb)) | (go_at_call 8; ((refine (of_any K (prv_neg _ _ rfl)).mono ?_); rintro e y8 ⟨rfl, hb⟩; replace hB := Lib.hid (hB.out.trans (((Below.refl _ _).alloc (Nat.le_refl _) _ |>.trans (hb.mono (by simp))).mono hB.out.size)); clear hb)) | (go_at_call 9; ((with_reducible refine (known_c K _).mono ?_); rintro e z9 ⟨rfl, hb⟩; replace hB := Lib.hid (hB.out.trans (hb.mono hB.out.size)); clear hb)))
      go_ret
      exact ⟨rfl, hB.out⟩
end Wd
end Go.Proofs.Ytdpckckfkpefnaa
