/- NameNumbers, over what the laws ask of the package. -/
import Derived.Test.YtbefmkkmkjogcaaINum0
namespace Go.Proofs.Ytbefmkkmkjogcaa
open Go.RowKit
set_option linter.unusedVariables false
set_option maxRecDepth 20000
namespace Wd
set_option maxHeartbeats 32000000 in
theorem numbers_any {NA : NAt} (KN : NamK) (KT : TexK) (K : TabK NA) (w : World) :
    Calls Try.prog 3 #[] w fun e w' => e = .returned (.bool true) ∧ Below w.heap.size w w' := by
  obtain ⟨i0, hi0, hz0, hz1, hz2⟩ := info_parts infoStr
  have hmx : 100000 ≤ maxLen := by decide
  have hB0 := Lib.hid (Below.refl w.heap.size w)
  go_enter Try.func3, Try.ntmps3
  go_wp2
  go_loopw [1] (fun i1 wr => ∃ c : Nat, c ≤ 256 ∧ i1 = .int .i64 c ∧ Hid (Below w.heap.size w wr)) (fun i1 _ => 256 - (intOf i1).toNat)
  case atStart => exact ⟨0, by omega, rfl, hB0⟩
  case round =>
    clear hB0
    obtain ⟨c, hc, rfl, hB⟩ := hrel
    by_cases hlt : c < 256
    · have d1 : decide ((c : Int) < 256) = true := by simp; omega
      have hcv : ∀ w : World, Sem.run Try.prog (convert 3 5 (.int .i64 (c : Int))) w = .ok (.int .u8 (c : Int)) w := conv_u8 c hlt
      obtain ⟨b, hb0⟩ : ∃ b : ByteArray, b = ⟨#[UInt8.ofNat c]⟩ := ⟨_, rfl⟩
      have hbs : b.size = 1 := by rw [hb0]; rfl
      have hn : (UInt8.ofNat c).toNat = c := by simp; omega
      have hcs : ∀ (w0 : World) (g : Nat), g = w0.heap.size → Sem.run Try.prog (convert 22 9 (.slice (some ⟨g, 0, none⟩) 1 1)) (w0.alloc (.cells #[.int .u8 (c : Int)] 5)) = .ok (.string b) (w0.alloc (.cells #[.int .u8 (c : Int)] 5)) := by
        intro w0 g hg
        subst hg
        rw [hb0]
        exact conv_one (UInt8.ofNat c) ⟨w0.heap.size, 0, none⟩ 1 _ (by rw [hn]; exact (World.cell?_alloc_new _ _ _ 0).trans rfl) rfl
      have hcs' := hcs wr wr.heap.size rfl
      have l1 : ¬ 9223372036854775807 < 1 + b.size := by omega
      have l2 : ¬ 9223372036854775807 < b.size + 1 := by omega
      have l3 : ¬ 9223372036854775807 < 1 + b.size + 1 := by omega
      have l4 : ¬ 9223372036854775807 < 2 + b.size := by omega
      have hb3 := Lib.hid (fun w0 : World => byt3 w0 c hlt _ rfl)
      clear hb0 hbs hn hcs
      go_upto_region 5 with fail
      clear hcs'
      have hB1 := Lib.hid (hB.out.alloc hB.out.size (.cells #[.int .u8 (c : Int)] 5))
      generalize wr.alloc (.cells #[.int .u8 (c : Int)] 5) = w1 at *
      clear hB
      have hS8 := str8 w1 b (⟨#[97]⟩ ++ b) (b ++ ⟨#[97]⟩) (⟨#[97]⟩ ++ b ++ ⟨#[122]⟩) (⟨#[43]⟩ ++ b) (b ++ ⟨#[43]⟩) (⟨#[97, 58]⟩ ++ b) (b ++ ⟨#[58]⟩) w1.heap.size rfl
      have hB2 := Lib.hid (hB1.out.alloc hB1.out.size (.cells #[.string b, .string (⟨#[97]⟩ ++ b), .string (b ++ ⟨#[97]⟩), .string (⟨#[97]⟩ ++ b ++ ⟨#[122]⟩), .string (⟨#[43]⟩ ++ b), .string (b ++ ⟨#[43]⟩), .string (⟨#[97, 58]⟩ ++ b), .string (b ++ ⟨#[58]⟩)] 9))
      replace hS8 := Lib.hid hS8
      go_wp2
      generalize w1.alloc (.cells #[.string b, .string (⟨#[97]⟩ ++ b), .string (b ++ ⟨#[97]⟩), .string (⟨#[97]⟩ ++ b ++ ⟨#[122]⟩), .string (⟨#[43]⟩ ++ b), .string (b ++ ⟨#[43]⟩), .string (⟨#[97, 58]⟩ ++ b), .string (b ++ ⟨#[58]⟩)] 9) = W8 at *
      generalize w1.heap.size = g8 at *
      clear hB1
      go_loopw [35] (fun i35 wx => ∃ j : Nat, j ≤ 8 ∧ i35 = .int .i64 j ∧ Hid (Below W8.heap.size W8 wx)) (fun i35 _ => 8 - (intOf i35).toNat)
      case atStart => exact ⟨0, by omega, rfl, Lib.hid (Below.refl _ _)⟩
      case round =>
        obtain ⟨j, hj, rfl, hB⟩ := hrel
        by_cases hjt : j < 8
        · have e1 : decide ((j : Int) < 8) = true := by simp; omega
          have r0 : (0 : Int) ≤ (j : Int) := by omega
          have r1 : (j : Int) < 8 := by omega
          obtain ⟨g', o', eg, hcl⟩ := hS8.out j hjt
          cases eg
          have hcl' := cell_up hB.out hcl
          rw [Nat.zero_add] at hcl'
          generalize ([b, (⟨#[97]⟩ ++ b), (b ++ ⟨#[97]⟩), (⟨#[97]⟩ ++ b ++ ⟨#[122]⟩), (⟨#[43]⟩ ++ b), (b ++ ⟨#[43]⟩), (⟨#[97, 58]⟩ ++ b), (b ++ ⟨#[58]⟩)] : List ByteArray).getD j ⟨#[]⟩ = x at *
          clear hcl
          go_wp2_with (first | (go_at_call 7; ((with_reducible refine (same_c KN _ _).mono ?_); rintro e2 w2 ⟨rfl, hb⟩; replace hB := Lib.hid (hB.out.trans (hb.mono hB.out.size)); clear hb)))
          go_roundw
          case rel => exact ⟨j + 1, by omega, by go_num, hB⟩
          case measure => simp [intOf]; omega
        · have e1 : decide ((j : Int) < 8) = false := by simp; omega
          have hB3 := Lib.hid (hB2.out.trans (hB.out.mono hB2.out.size))
          clear hB hB2 hS8
          go_wp2_with (first | (go_at_call 8; ((refine (text_any KT (hb3.out _)).mono ?_); rintro e3 w3 ⟨rfl, hb⟩; replace hB3 := Lib.hid (hB3.out.trans (((Below.refl _ _).alloc (Nat.le_refl _) _ |>.trans (hb.mono (by simp))).mono hB3.out.size)); clear hb)))
          go_roundw
          case rel => exact ⟨c + 1, by omega, by go_num, hB3⟩
          case measure => simp [intOf]; omega
    · have d1 : decide ((c : Int) < 256) = false := by simp; omega
      go_wp2
      go_loopw [5, 7] (fun i5 i7 wr => ∃ (i : Nat) (s : ByteArray), i ≤ 20 ∧ i7 = .int .i64 i ∧ i5 = .string s ∧ s.size ≤ i + 1 ∧ Hid (Below w.heap.size w wr)) (fun _ i7 _ => 20 - (intOf i7).toNat)
      case atStart => exact ⟨0, _, by omega, rfl, rfl, by decide, hB⟩
      case round =>
        clear hB
        obtain ⟨i, s, hi, rfl, rfl, hs, hB⟩ := hrel
        by_cases hit : i < 20
        · have e1 : decide ((i : Int) < 20) = true := by simp; omega
          have l1 : ¬ 9223372036854775807 < s.size + 1 := by omega
          have hss : (s ++ ⟨#[98]⟩).size ≤ i + 1 + 1 := by
            have h98 : (⟨#[98]⟩ : ByteArray).size = 1 := rfl
            rw [ByteArray.size_append, h98]; omega
          have hcb : ∀ w0 : World, Sem.run Try.prog (convert 9 22 (.string s)) w0 = .ok (.slice (some ⟨w0.heap.size, 0, none⟩) s.size (grownCap w0 s.size 0 5)) (w0.drew.alloc (.cells (bytesRow s (grownCap w0 s.size 0 5)) 5 ((bytesRow s (grownCap w0 s.size 0 5)).size, (bytesRow s (grownCap w0 s.size 0 5)).size + 1))) := fun w0 => run_bytes_of_string w0 9 22 5 s rfl rfl rfl
          go_wp2_with (first | (go_at_call 7; ((with_reducible refine (same_c KN _ _).mono ?_); rintro e2 w2 ⟨rfl, hb⟩; replace hB := Lib.hid (hB.out.trans (hb.mono hB.out.size)); clear hb)) | (go_at_call 8; ((refine (text_any KT (bytS _ s _ _ rfl _)).mono ?_); rintro e3 w3 ⟨rfl, hb⟩; replace hB := Lib.hid (hB.out.trans (((Below.refl _ _).drew.alloc (Nat.le_refl _) _ |>.trans (hb.mono (by simp))).mono hB.out.size)); clear hb)))
          go_roundw
          case rel => exact ⟨i + 1, _, by omega, by go_num, rfl, hss, hB⟩
          case measure => simp [intOf]; omega
        · have e1 : decide ((i : Int) < 20) = false := by simp; omega
          have st0 : ∀ w1 : World, w1.ownsRow w.heap.size 9 1 (.slice none 0 0) ([] : List ByteArray).length (strs []) := fun w1 => World.ownsRow_nil _ _ _ _
          go_wp2
          go_loopw [6, 8] (fun i6 i8 wr => ∃ (j : Nat) (M : List ByteArray) (a : Option Addr) (m c : Nat), j ≤ 52 ∧ i8 = .int .i64 j ∧ i6 = .slice a m c ∧ Hid (m = 4 * j) ∧ Hid (wr.ownsRow w.heap.size 9 1 (.slice a m c) m (strs M)) ∧ Hid (m = M.length) ∧ Hid (Below w.heap.size w wr)) (fun _ i8 _ => 52 - (intOf i8).toNat)
          case atStart => exact ⟨0, [], none, 0, 0, by omega, rfl, rfl, Lib.hid rfl, Lib.hid (st0 _), Lib.hid rfl, hB⟩
          case round =>
            clear hB st0
            obtain ⟨j, M, a, m, c, hj, rfl, rfl, hm4, hO, hM, hB⟩ := hrel
            have hm208 : m ≤ 208 := by have := hm4.out; omega
            by_cases hjt : j < 52
            · have e1 : decide ((j : Int) < 52) = true := by simp; omega
              obtain ⟨q, hq, hq26⟩ : ∃ q : Nat, Int.tmod (j : Int) 26 = (q : Int) ∧ q < 26 := ⟨j % 26, by exact (Int.ofNat_tmod j 26).symm, by omega⟩
              obtain ⟨p, hp, hp26⟩ : ∃ p : Nat, Int.tdiv (j : Int) 26 = (p : Int) ∧ p < 26 := ⟨j / 26, by exact (Int.ofNat_tdiv j 26).symm, by omega⟩
              have v1 := conv_i26 q hq26
              have v2 := conv_s26 q hq26
              have v3 := conv_i26 p hp26
              have v4 := conv_s26 p hp26
              have z1 : (rName q).size = 1 := rfl
              have z2 : (rName p).size = 1 := rfl
              generalize rName q = x1 at *
              generalize rName p = x2 at *
              have l1 : ¬ 9223372036854775807 < 1 + x1.size := by omega
              have l2 : ¬ 9223372036854775807 < 1 + x1.size + x2.size := by omega
              have hM4 : Hid (m + 4 = (M ++ [⟨#[110]⟩ ++ x1 ++ x2, ⟨#[43]⟩, ⟨#[57]⟩, ⟨#[110, 97, 98]⟩]).length) := Lib.hid (by have := hM.out; simp; omega)
              go_wp2_with (first | (at_builtin; refine wpList_append_lies _ rfl (.tmp 73) (.tmp 86) 23 rfl w.heap.size 9 i0 (.string ⟨#[]⟩) 1 16 Try.underlying23 hi0 hz0 hz1 hz2 rfl (by decide) _ m _ (by simp [Act.eval]) (hO.out.alloc _) ⟨wr.heap.size, 0, none⟩ 4 4 (strs [⟨#[110]⟩ ++ x1 ++ x2, ⟨#[43]⟩, ⟨#[57]⟩, ⟨#[110, 97, 98]⟩]) (by simp [Act.eval]) (by simp [strs]) (one4 (str4 _ _ _ _ _ _ rfl)) (strs_one _) (by omega) (by omega) (by omega) (by have := hB.out.size; simp; omega) _ rfl ?_; intro g1 cap1 wh hown1 hgrow1 hat1 hlt1; have hB9 := Lib.hid ((hB.out.alloc hB.out.size _).grown hgrow1 (by have := hB.out.size; simp; omega) (fun k hk => (hO.out.lt k hk).1)); have hO9 : Hid (wh.ownsRow w.heap.size 9 1 (.slice (some ⟨g1, 0, none⟩) (m + 4) cap1) (m + 4) (strs (M ++ [⟨#[110]⟩ ++ x1 ++ x2, ⟨#[43]⟩, ⟨#[57]⟩, ⟨#[110, 97, 98]⟩]))) := Lib.hid (by simpa [strs] using hown1); clear hgrow1 hat1 hlt1 hown1))
              go_roundw
              case rel => exact ⟨j + 1, _, _, m + 4, cap1, by omega, by go_num, rfl, Lib.hid (by have := hm4.out; omega), hO9, hM4, hB9⟩
              case measure => simp [intOf]; omega
            · have e1 : decide ((j : Int) < 52) = false := by simp; omega
              have hS : Hid (StrV wr a m (fun k => M.getD k ⟨#[]⟩)) := Lib.hid (strv_own (by have := hO.out; rw [hM.out] at this ⊢; exact this) hM.out)
              have hm63 : m ≤ 9223372036854775807 := by omega
              clear hO hM
              go_wp2_with (first | (go_at_call 7; ((with_reducible refine (same_c KN _ _).mono ?_); rintro e2 w2 ⟨rfl, hb⟩; replace hB := Lib.hid (hB.out.trans (hb.mono hB.out.size)); clear hb)) | (go_at_call 9; ((with_reducible refine (play_any K hS.out hm63).mono ?_); rintro e4 w4 ⟨rfl, hb⟩; replace hB := Lib.hid (hB.out.trans (hb.mono hB.out.size)); clear hb)) | (go_at_call 10; ((with_reducible refine (known_c KN KT K _).mono ?_); rintro e6 w6 ⟨rfl, hb⟩; replace hB := Lib.hid (hB.out.trans (hb.mono hB.out.size)); clear hb)))
              go_ret
              exact ⟨rfl, hB.out⟩
theorem numbers_s {NA : NAt} (K : NameK NA) (w : World) : Calls Try.prog 3 #[] w fun e w' => e = .returned (.bool true) ∧ Below w.heap.size w w' := numbers_any K.nam K.tex K.tab w
end Wd
end Go.Proofs.Ytbefmkkmkjogcaa
