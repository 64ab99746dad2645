/- What the laws ask of a table of identities: TableNumbers. -/
import Derived.Test.YtekjengdiakaaaaTPlays
import Derived.Test.YtekjengdiakaaaaTLeast0
import Derived.Deep.AppendLies
import Derived.OpenShut
namespace Go.Proofs.Ytekjengdiakaaaa
open Go.RowKit
set_option linter.unusedVariables false
namespace Wd
theorem inb_lit (T : List (Int × Int × Int)) (h : T.all (fun t => decide (-9223372036854775808 ≤ t.1 ∧ t.1 ≤ 9223372036854775807) && decide (-9223372036854775808 ≤ t.2.1 ∧ t.2.1 ≤ 9223372036854775807) && decide (-9223372036854775808 ≤ t.2.2 ∧ t.2.2 ≤ 9223372036854775807)) = true) :
    ∀ t, t ∈ T → InB t.1 ∧ InB t.2.1 ∧ InB t.2.2 := by
  intro t ht
  have := List.all_eq_true.1 h t ht
  simp only [Bool.and_eq_true, decide_eq_true_eq] at this
  exact ⟨this.1.1, this.1.2, this.2⟩
theorem asks_lit (w : World) (cs : Array Value) (T : List (Int × Int × Int)) (hc : cs.toList = tri T) (hs : cs.size = T.length * 3) (hm : T.length ≤ maxLen) (hb : ∀ t, t ∈ T → InB t.1 ∧ InB t.2.1 ∧ InB t.2.2) :
    Asks (w.alloc (.cells cs 24)) (some ⟨w.heap.size, 0, none⟩) T.length := by
  have h := World.ownsRow_lit (base := 0) (e := 24) (size := 3) w cs T.length (by omega) hm hs
  rw [hc] at h
  obtain ⟨ad, cap, e, HB⟩ := asks_own h rfl hb
  cases e
  exact HB
theorem Some_.next0 {w wr w1 : World} {k g cap : Nat} {v : Value} {T : List (Int × Int × Int)} {t : Int × Int × Int} {c : Array Value} {ty : TypeId} (h : Some_ w wr k v T) (ht : InB t.1 ∧ InB t.2.1 ∧ InB t.2.2)
    (hown : w1.ownsRow w.heap.size 24 3 (.slice (some ⟨g, 0, none⟩) (k + 1) cap) (k + 1) (tri T ++ tri [t])) (hg : (wr.alloc (.cells c ty)).grownBy w1 v.ownBlock) : Some_ w w1 (k + 1) (.slice (some ⟨g, 0, none⟩) (k + 1) cap) (T ++ [t]) := by
  refine ⟨by rw [tri_app]; exact hown, by simp [h.len], fun s hs => ?_, ?_⟩
  · rcases List.mem_append.1 hs with hs | hs
    · exact h.bd s hs
    · simp only [List.mem_singleton] at hs; subst hs; exact ht
  · have b1 : Below w.heap.size w (wr.alloc (.cells c ty)) := h.bel.alloc h.bel.size _
    exact b1.grown hg b1.size (fun q hq => (h.own.lt q hq).1)
/-- the first i were taken, as far as there are identities -/
def TN (i : Nat) : Tst := fun id => if 4 ≤ id ∧ id < 4 + i ∧ id < 1024 then some (((id - 4 : Nat) : Int) % 4, ((id - 4 : Nat) : Int)) else none
theorem TN_zero : TN 0 = noT := by
  funext id; unfold TN noT; rw [if_neg (by omega)]
theorem TN_of (i : Nat) (a : Int) : ofR (TN i) (a, (i : Int)) = none := ofR_no (fun j => by
  unfold TN
  split
  · intro e; simp at e; omega
  · simp)
theorem TN_lo {i : Nat} (hi : i < 1020) : takeI (TN i) ((i : Int) % 4, (i : Int)) = 4 + (i : Int) ∧ takeT (TN i) ((i : Int) % 4, (i : Int)) = TN (i + 1) := by
  have h2 : freeR (TN i) = some (4 + i) := firstIn_hit (by omega) (by omega) (fun j a b => by simp [TN]; omega) (by simp [TN])
  have := takeI_hit (TN_of i ((i : Int) % 4)) h2
  refine ⟨by rw [this.1]; omega, this.2.trans ?_⟩
  funext id
  unfold updT
  by_cases c : id = 4 + i
  · subst c; rw [if_pos rfl]; unfold TN; rw [if_pos (by omega)]; simp
  · rw [if_neg c]; unfold TN
    by_cases d : 4 ≤ id ∧ id < 4 + i ∧ id < 1024
    · rw [if_pos d, if_pos (show 4 ≤ id ∧ id < 4 + (i + 1) ∧ id < 1024 by omega)]
    · rw [if_neg d, if_neg (show ¬ (4 ≤ id ∧ id < 4 + (i + 1) ∧ id < 1024) by omega)]
theorem TN_hi {i : Nat} (hi : 1020 ≤ i) : takeI (TN i) ((i : Int) % 4, (i : Int)) = -1 ∧ takeT (TN i) ((i : Int) % 4, (i : Int)) = TN (i + 1) := by
  have h1 := TN_of i ((i : Int) % 4)
  have h2 : freeR (TN i) = none := firstIn_none (fun j a b => by
    show (TN i j).isNone = false
    unfold TN
    rw [if_pos (by omega)]; rfl)
  unfold takeI takeT
  rw [h1, h2]
  refine ⟨rfl, ?_⟩
  show TN i = TN (i + 1)
  funext id
  unfold TN
  by_cases d : 4 ≤ id ∧ id < 4 + i ∧ id < 1024
  · rw [if_pos d, if_pos (show 4 ≤ id ∧ id < 4 + (i + 1) ∧ id < 1024 by omega)]
  · rw [if_neg d, if_neg (show ¬ (4 ≤ id ∧ id < 4 + (i + 1) ∧ id < 1024) by omega)]
theorem TN_end : hasT (TN 1024) 700 = true ∧ takeI (giveT (TN 1024) 700) (9, 0) = 700 := by
  have h1 : hasT (TN 1024) 700 = true := by
    rw [show (700 : Int) = ((700 : Nat) : Int) from rfl, hasT_in (by omega)]
    unfold inR TN
    rw [if_pos (by omega)]; rfl
  refine ⟨h1, ?_⟩
  unfold giveT
  rw [if_pos h1, show (700 : Int).toNat = 700 from rfl]
  have ho : ofR (updT (TN 1024) 700 none) (9, 0) = none := ofR_no (fun j => by
    unfold updT TN
    split
    · simp
    · split
      · intro e; simp at e; omega
      · simp)
  have hf : freeR (updT (TN 1024) 700 none) = some 700 := by
    refine firstIn_hit (by omega) (by omega) (fun j a b => ?_) ?_
    · show (updT (TN 1024) 700 none j).isNone = false
      unfold updT TN
      rw [if_neg (by omega), if_pos (by omega)]; rfl
    · show (updT (TN 1024) 700 none 700).isNone = true
      unfold updT
      rw [if_pos rfl]; rfl
  exact (takeI_hit ho hf).1
set_option maxHeartbeats 16000000 in
set_option maxRecDepth 20000 in
theorem numbers_any {TA : TAt} (K : TableK TA) (w : World) :
    Calls Try.prog 3 #[] w fun e w' => e = .returned (.bool true) ∧ Below w.heap.size w w' := by
  obtain ⟨i0, hi0, hz0, hz1, hz2⟩ := info_parts infoA
  have hmx : Hid (1000 ≤ maxLen) := Lib.hid (by decide)
  go_enter Try.func3, Try.ntmps3
  go_wp2
  go_loopw [1] (fun i wr => ∃ k : Nat, k ≤ 40 ∧ i = .int .i64 k ∧ Hid (Below w.heap.size w wr)) (fun i _ => 40 - (intOf i).toNat)
  case atStart => exact ⟨0, by omega, rfl, Lib.hid (Below.refl _ _)⟩
  case round =>
    obtain ⟨k, k2, rfl, hbel⟩ := hrel
    by_cases hlt : k < 40
    · have d1 : decide ((k : Int) < 40) = true := by simp; omega
      go_wp2
      have s0 : Hid (Some_ wr wr 0 (.slice none 0 0) []) := Lib.hid ⟨World.ownsRow_nil _ _ _ _, rfl, fun _ h => (by cases h), Below.refl _ _⟩
      go_loopw [2, 3] (fun v i w2 => ∃ j : Nat, j ≤ 90 ∧ i = .int .i64 j ∧ ∃ vv T, v = vv ∧ Hid (Some_ wr w2 j vv T)) (fun _ i _ => 90 - (intOf i).toNat)
      case atStart => exact ⟨0, by omega, rfl, _, [], rfl, s0⟩
      case round =>
        rename World => w2
        clear s0
        obtain ⟨j, hj, rfl, vv, T, rfl, hst⟩ := hrel
        by_cases hj2 : j < 90
        · have d2 : decide ((j : Int) < 90) = true := by simp; omega
          obtain ⟨P, hP, P0, P1⟩ : ∃ P : Int, (j : Int) * (j : Int) = P ∧ 0 ≤ P ∧ P ≤ 8100 := ⟨_, rfl, Int.mul_nonneg (by omega) (by omega), by have := Nat.mul_le_mul (show j ≤ 90 by omega) (show j ≤ 90 by omega); have e : ((j * j : Nat) : Int) = (j : Int) * j := (by simp); omega⟩
          obtain ⟨Q, hQ, Q0, Q1⟩ : ∃ Q : Int, (k : Int) * (j : Int) = Q ∧ 0 ≤ Q ∧ Q ≤ 3600 := ⟨_, rfl, Int.mul_nonneg (by omega) (by omega), by have := Nat.mul_le_mul (show k ≤ 40 by omega) (show j ≤ 90 by omega); have e : ((k * j : Nat) : Int) = (k : Int) * (j : Int) := (by simp); omega⟩
          obtain ⟨A, hA, A0, A1, _⟩ := tmod_split (P + k) 5 (by omega)
          obtain ⟨B, hB, B0, B1, _⟩ := tmod_split ((j : Int) * 3 + k) 12 (by omega)
          obtain ⟨C, hC, C0, C1, _⟩ := tmod_split ((j : Int) + Q) 14 (by omega)
          have g1 : IntKind.i64.wrap P = P := by rw [IntKind.wrap_i64]; omega
          have g2 : IntKind.i64.wrap (P + k) = P + k := by rw [IntKind.wrap_i64]; omega
          have g3 : IntKind.i64.wrap ((j : Int) * 3) = (j : Int) * 3 := by rw [IntKind.wrap_i64]; omega
          have g4 : IntKind.i64.wrap ((j : Int) * 3 + k) = (j : Int) * 3 + k := by rw [IntKind.wrap_i64]; omega
          have g5 : IntKind.i64.wrap Q = Q := by rw [IntKind.wrap_i64]; omega
          have g6 : IntKind.i64.wrap ((j : Int) + Q) = (j : Int) + Q := by rw [IntKind.wrap_i64]; omega
          have g8 : IntKind.i64.wrap (B + 1) = B + 1 := by rw [IntKind.wrap_i64]; omega
          have a1 : IntKind.i64.wrap A = A := by rw [IntKind.wrap_i64]; omega
          have a2 : IntKind.i64.wrap B = B := by rw [IntKind.wrap_i64]; omega
          have a3 : IntKind.i64.wrap C = C := by rw [IntKind.wrap_i64]; omega
          have hnw : Hid (∀ q u, (tri [(A, B + 1, C)])[q]? = some u → (w2.alloc (.cells #[.int .i64 A, .int .i64 (B + 1), .int .i64 C] 24)).cell? ((⟨w2.heap.size, 0, none⟩ : Addr).add q) = some u) := Lib.hid (World.news_of_block (heap_alloc_new w2 _))
          have tb : Hid (InB A ∧ InB (B + 1) ∧ InB C) := Lib.hid (by unfold InB; omega)
          go_wp2_with (first | (at_builtin; refine wpList_append_lies _ rfl (.tmp 15) (.tmp 35) 22 rfl wr.heap.size 24 i0 (.agg #[.int .i64 0, .int .i64 0, .int .i64 0]) 3 24 Try.underlying22 hi0 hz0 hz1 hz2 rfl (by decide) u2 j _ (by simp [Act.eval]) (hst.out.own.alloc _) ⟨w2.heap.size, 0, none⟩ 1 1 (tri [(A, B + 1, C)]) (by simp [Act.eval]) rfl hnw.out (tri_one _) (by omega) (by have := hmx.out; omega) (by omega) (by have := hst.out.bel.size; simp; omega) _ rfl ?_; intro g2' cap2 w5 hown hgrow hat hlt2))
          go_roundw
          case rel => exact ⟨j + 1, by omega, by go_num, _, _, rfl, Lib.hid (hst.out.next0 tb.out hown hgrow)⟩
          case measure => simp [intOf]; omega
        · have d2 : decide ((j : Int) < 90) = false := by simp; omega
          obtain ⟨ad2, cap2, e2, HB⟩ := asks_own hst.out.own hst.out.len hst.out.bd
          subst e2
          have hb2 := Lib.hid (hbel.out.trans (hst.out.bel.mono hbel.out.size))
          replace HB := Lib.hid HB
          clear hst
          go_wp2_with fail
          refine (play_any K ad2 j cap2 w2 HB.out (by omega)).mono ?_
          rintro e w5 ⟨rfl, hd⟩
          replace hb2 := Lib.hid (hb2.out.trans (hd.mono hb2.out.size))
          clear hd
          go_wp2
          go_roundw
          case rel => exact ⟨k + 1, by omega, by go_num, hb2⟩
          case measure => simp [intOf]; omega
    · have d1 : decide ((k : Int) < 40) = false := by simp; omega
      go_wp2_with fail
      refine K.new.mono ?_
      rintro e w1 ⟨p, F0, rfl, hm, hF, hb⟩
      have hs : Hid (PT TA w w1 p (TN 0) F0) := Lib.hid (by rw [TN_zero]; exact ⟨hm, hbel.out.trans (hb.mono hbel.out.size), fun q hq => Nat.le_trans hbel.out.size (hF q hq)⟩)
      clear hm hF hb hbel
      go_wp2
      go_loopw [5] (fun i wr => ∃ j : Nat, j ≤ 1024 ∧ i = .int .i64 j ∧ ∃ F, Hid (PT TA w wr p (TN j) F)) (fun i _ => 1024 - (intOf i).toNat)
      case atStart => exact ⟨0, by omega, rfl, _, hs⟩
      case round =>
        rename World => w2
        clear hs
        obtain ⟨j, hj, rfl, F, hst⟩ := hrel
        by_cases hj2 : j < 1024
        · have d2 : decide ((j : Int) < 1024) = true := by simp; omega
          have hw : IntKind.i64.wrap ((j : Int) + 1) = (j : Int) + 1 := by rw [IntKind.wrap_i64]; omega
          have hb3 : bits .and .i64 (j : Int) 3 = (j : Int) % 4 := i64_and3 _
          by_cases hlo : j < 1020
          · have d3 : decide ((j : Int) < 1020) = true := by simp; omega
            have hw4 : IntKind.i64.wrap ((j : Int) + 4) = (j : Int) + 4 := by rw [IntKind.wrap_i64]; omega
            have P := K.take ((j : Int) % 4, (j : Int)) hst.out.ta (by unfold plOk; simp; omega)
            rw [(TN_lo hlo).1, (TN_lo hlo).2] at P
            replace P := Lib.hid P
            go_wp2_with fail
            refine P.out.mono ?_
            clear P
            rintro e w6 ⟨F6, he, hm, hc, hn⟩
            have he4 : (4 : Int) + (j : Int) = (j : Int) + 4 := by omega
            rw [he4] at he
            replace he : e = .returned (.int .i64 ((j : Int) + 4)) := he
            subst he
            have hst6 := Lib.hid (hst.out.step hm hc hn)
            clear hm hc hn hst he4
            go_wp2
            go_roundw
            case rel => exact ⟨j + 1, by omega, by go_num, _, hst6⟩
            case measure => simp [intOf]; omega
          · have d3 : decide ((j : Int) < 1020) = false := by simp; omega
            have P := K.take ((j : Int) % 4, (j : Int)) hst.out.ta (by unfold plOk; simp; omega)
            rw [(TN_hi (show 1020 ≤ j by omega)).1, (TN_hi (show 1020 ≤ j by omega)).2] at P
            replace P := Lib.hid P
            go_wp2_with fail
            refine P.out.mono ?_
            clear P
            rintro e w6 ⟨F6, he, hm, hc, hn⟩
            replace he : e = .returned (.int .i64 (-1)) := he
            subst he
            have hst6 := Lib.hid (hst.out.step hm hc hn)
            clear hm hc hn hst
            go_wp2
            go_roundw
            case rel => exact ⟨j + 1, by omega, by go_num, _, hst6⟩
            case measure => simp [intOf]; omega
        · have d2 : decide ((j : Int) < 1024) = false := by simp; omega
          have hjj : j = 1024 := by omega
          subst hjj
          go_wp2_with fail
          have P := K.give 700 hst.out.ta (by omega) (by omega)
          rw [TN_end.1] at P
          refine P.mono ?_
          clear P
          rintro e w6 ⟨F6, he, hm, hc, hn⟩
          subst he
          have hst6 := Lib.hid (hst.out.step hm hc hn)
          clear hm hc hn hst
          go_wp2_with fail
          have P := K.take (9, 0) hst6.out.ta (by unfold plOk; simp)
          rw [TN_end.2] at P
          refine P.mono ?_
          clear P
          rintro e w7 ⟨F7, he, hm, hc, hn⟩
          replace he : e = .returned (.int .i64 700) := he
          subst he
          have hbel := Lib.hid (hst6.out.step hm hc hn).bel
          clear hm hc hn hst6
          go_wp2_with fail
          refine (play_any K _ 3 3 _ (asks_lit w7 #[.int .i64 (0), .int .i64 (-9223372036854775808), .int .i64 (9223372036854775807), .int .i64 (3), .int .i64 (-9223372036854775808), .int .i64 (0), .int .i64 (4), .int .i64 (9223372036854775807), .int .i64 (4)] [((0 : Int), (-9223372036854775808 : Int), (9223372036854775807 : Int)), (3, -9223372036854775808, 0), (4, 9223372036854775807, 4)] rfl rfl (by decide) (inb_lit _ (by decide))) (by omega)).mono ?_
          rintro e w8 ⟨rfl, hd⟩
          replace hbel := Lib.hid ((hbel.out.alloc hbel.out.size _).trans (hd.mono (by have := hbel.out.size; simp; omega)))
          clear hd
          go_wp2_with fail
          refine (known_any K w8).mono ?_
          rintro e w9 ⟨rfl, hd⟩
          replace hbel := Lib.hid (hbel.out.trans (hd.mono hbel.out.size))
          clear hd
          go_wp2
          go_ret
          exact ⟨rfl, hbel.out⟩
end Wd
end Go.Proofs.Ytekjengdiakaaaa
