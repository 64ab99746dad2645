/- The document's own judgement of binds, and of a class. -/
import Derived.Test.YtlbekicalinglaaSChain
import Derived.Deep.DeepCutAuto
namespace Go.Proofs.Ytlbekicalinglaa
open Go.RowKit
set_option linter.unusedVariables false
set_option maxRecDepth 20000
namespace Wd
theorem text_c (b : ByteArray) (w : World) :
    Calls Try.prog 34 #[.string b] w fun e w' => e = .returned (.bool (textOk b)) ∧ w' = w := by
  by_cases h1 : 1 ≤ b.size
  · by_cases h2 : b.size ≤ 16
    · have e : textOk b = true := by simp [textOk, h1, h2]
      rw [e]; clear e
      have h1' : (1 : Int) ≤ (b.size : Int) := by omega
      have h2' : (b.size : Int) ≤ 16 := by omega
      go_enter Try.func34, Try.ntmps34
      go_wp2
      go_ret
      exact ⟨rfl, rfl⟩
    · have e : textOk b = false := by simp [textOk, h2]
      rw [e]; clear e
      have h1' : (1 : Int) ≤ (b.size : Int) := by omega
      have h2' : ¬ (b.size : Int) ≤ 16 := by omega
      go_enter Try.func34, Try.ntmps34
      go_wp2
      go_ret
      exact ⟨rfl, rfl⟩
  · have e : textOk b = false := by simp [textOk, h1]
    rw [e]; clear e
    have h1' : ¬ (1 : Int) ≤ (b.size : Int) := by omega
    go_enter Try.func34, Try.ntmps34
    go_wp2
    go_ret
    exact ⟨rfl, rfl⟩
/-- the binds up to k are right -/
structure BdR (B : List (Int × Int)) (names methods : Int) (k : Nat) : Prop where
  all : ∀ x ∈ B.take k, bindOk names methods x = true
  nd : ((B.take k).map (·.1)).Nodup
theorem BdR.start (B : List (Int × Int)) (names methods : Int) : BdR B names methods 0 := ⟨by simp, by simp⟩
theorem BdR.step {B : List (Int × Int)} {names methods : Int} {k : Nat} {b : Int × Int} (h : BdR B names methods k) (hb : B[k]? = some b) (ho : bindOk names methods b = true) (hd : ∀ x ∈ B.take k, x.1 ≠ b.1) : BdR B names methods (k + 1) := by
  refine ⟨fun x hx => ?_, ?_⟩
  · rw [List.take_add_one, hb] at hx
    rcases List.mem_append.1 hx with hx | hx
    · exact h.all x hx
    · have e : x = b := by simpa using hx
      rw [e]; exact ho
  · rw [List.take_add_one, hb]
    simp only [Option.toList, List.map_append, List.map_cons, List.map_nil]
    rw [List.nodup_append]
    refine ⟨h.nd, by simp, ?_⟩
    intro a ha c hc e
    obtain ⟨x, hx, rfl⟩ := List.mem_map.1 ha
    exact hd x hx (e.trans (by simpa using hc))
theorem BdR.last {B : List (Int × Int)} {names methods : Int} (h : BdR B names methods B.length) : bindsOk B names methods = decide (B.length ≤ 16) := by
  have a := h.all
  have d := h.nd
  rw [List.take_length] at a d
  unfold bindsOk
  rw [List.all_eq_true.2 a, decide_eq_true d]
  rfl
theorem bind_bad {B : List (Int × Int)} {names methods : Int} {k : Nat} {b : Int × Int} (hb : B[k]? = some b) (ho : bindOk names methods b = false) : bindsOk B names methods = false := by
  have : B.all (bindOk names methods) = false := by
    rw [Bool.eq_false_iff]
    intro h
    rw [List.all_eq_true.1 h b (List.mem_of_getElem? hb)] at ho
    cases ho
  unfold bindsOk; rw [this]; rfl
theorem bind_twice {B : List (Int × Int)} {names methods : Int} {k j : Nat} {b x : Int × Int} (hb : B[k]? = some b) (hx : B[j]? = some x) (hj : j < k) (e : x.1 = b.1) : bindsOk B names methods = false := by
  have : decide ((B.map (·.1)).Nodup) = false := by
    rw [decide_eq_false_iff_not]
    intro h
    obtain ⟨hk, hbk⟩ := List.getElem?_eq_some_iff.1 hb
    obtain ⟨hj', hxj⟩ := List.getElem?_eq_some_iff.1 hx
    have := List.pairwise_iff_getElem.1 h j k (by simpa using hj') (by simpa using hk) hj
    refine this ?_
    simp [hbk, hxj, e]
  unfold bindsOk; rw [this]; simp
theorem bindOk_of {names methods : Int} {b : Int × Int} (h0 : 0 ≤ b.1) (h1 : b.1 < names) (h2 : 0 ≤ b.2) (h3 : b.2 < methods) : bindOk names methods b = true := by simp [bindOk, h0, h1, h2, h3]
theorem bindOk_not {names methods : Int} {b : Int × Int} (h : b.1 < 0 ∨ names ≤ b.1 ∨ b.2 < 0 ∨ methods ≤ b.2) : bindOk names methods b = false := by
  unfold bindOk
  rcases h with h | h | h | h
  · rw [decide_eq_false (by omega)]; rfl
  · rw [decide_eq_false (p := b.1 < names) (by omega)]; simp
  · rw [decide_eq_false (p := 0 ≤ b.2) (by omega)]; simp
  · rw [decide_eq_false (p := b.2 < methods) (by omega)]; simp
set_option maxHeartbeats 16000000 in
theorem binds_c {w : World} {v : Value} {B : List (Int × Int)} (h : PrV w v B) (names methods : Int) (hn : In64 names) (hm : In64 methods) :
    Calls Try.prog 36 #[v, .int .i64 names, .int .i64 methods] w fun e w' => e = .returned (.bool (bindsOk B names methods)) ∧ Below w.heap.size w w' := by
  obtain ⟨ad, cap, rfl, hcap, hmx⟩ := h.form
  obtain ⟨n, hn⟩ : ∃ n, n = B.length := ⟨_, rfl⟩
  rw [← hn] at h hcap ⊢
  replace h := Lib.hid h
  have hn' := Lib.hid hn
  have hnm : n ≤ 9223372036854775807 := by have : maxLen ≤ 9223372036854775807 := by decide
                                           omega
  have hst : Hid (BdR B names methods 0) := Lib.hid (BdR.start B names methods)
  clear hmx hn
  go_enter Try.func36, Try.ntmps36
  go_wp2
  go_loopw [13] (fun i13 wr => ∃ (k : Nat), k ≤ n ∧ i13 = .int .i64 k ∧ Hid (BdR B names methods k) ∧ Hid (Below w.heap.size w wr)) (fun i13 _ => n - (intOf i13).toNat)
  case atStart => exact ⟨0, by omega, rfl, hst, Lib.hid (Below.refl _ _)⟩
  case round =>
    obtain ⟨k, hk, rfl, hR, hB⟩ := hrel
    by_cases hlt : k < n
    · have hlt' : decide ((k : Int) < (n : Int)) = true := by simp; omega
      have p0 : (0 : Int) ≤ (k : Int) := by omega
      have p1 : (k : Int) < (n : Int) := by omega
      have p2 : (k : Int) ≤ (cap : Int) := by omega
      obtain ⟨b, hb⟩ : ∃ b, B[k]? = some b := ⟨B[k]'(by have := hn'.out; omega), by simp⟩
      obtain ⟨⟨s0, s1⟩, ⟨m0, m1⟩, g, off, rfl, c0, c1⟩ := (h.out.up hB.out).at hb
      have hb' := Lib.hid hb
      clear hb
      obtain ⟨bs, bm⟩ := b
      by_cases q0 : bs < 0
      · have e := Lib.hid (bind_bad hb'.out (bindOk_not (Or.inl q0) : bindOk names methods (bs, bm) = false))
        go_wp2
        go_ret
        exact ⟨congrArg (fun b => Ending.returned (Value.bool b)) e.out.symm, by have := hB.out.size; first | exact hB.out.alloc this _ | exact (hB.out.alloc this _).alloc (by simp; omega) _⟩
      by_cases q1 : names ≤ bs
      · have e := Lib.hid (bind_bad hb'.out (bindOk_not (Or.inr (Or.inl q1)) : bindOk names methods (bs, bm) = false))
        go_wp2
        go_ret
        exact ⟨congrArg (fun b => Ending.returned (Value.bool b)) e.out.symm, by have := hB.out.size; first | exact hB.out.alloc this _ | exact (hB.out.alloc this _).alloc (by simp; omega) _⟩
      by_cases q2 : bm < 0
      · have e := Lib.hid (bind_bad hb'.out (bindOk_not (Or.inr (Or.inr (Or.inl q2))) : bindOk names methods (bs, bm) = false))
        go_wp2
        go_ret
        exact ⟨congrArg (fun b => Ending.returned (Value.bool b)) e.out.symm, by have := hB.out.size; first | exact hB.out.alloc this _ | exact (hB.out.alloc this _).alloc (by simp; omega) _⟩
      by_cases q3 : methods ≤ bm
      · have e := Lib.hid (bind_bad hb'.out (bindOk_not (Or.inr (Or.inr (Or.inr q3))) : bindOk names methods (bs, bm) = false))
        go_wp2
        go_ret
        exact ⟨congrArg (fun b => Ending.returned (Value.bool b)) e.out.symm, by have := hB.out.size; first | exact hB.out.alloc this _ | exact (hB.out.alloc this _).alloc (by simp; omega) _⟩
      have hok := Lib.hid (bindOk_of (b := (bs, bm)) (by omega) (by omega) (by omega) (by omega) : bindOk names methods (bs, bm) = true)
      have hs0 := hB.out.size
      have h' := Lib.hid (h.out.up (hB.out.trans ((Below.refl _ wr).alloc hs0 (.cells #[.int .i64 bs, .int .i64 bm] 57))))
      have hB' := Lib.hid (hB.out.alloc hs0 (.cells #[.int .i64 bs, .int .i64 bm] 57))
      have cb : Hid ((wr.alloc (.cells #[.int .i64 bs, .int .i64 bm] 57)).cell? ⟨wr.heap.size, 0, none⟩ = some (.int .i64 bs)) := Lib.hid (by simp)
      go_upto_region 6 with fail
      generalize wr.alloc (.cells #[.int .i64 bs, .int .i64 bm] 57) = w1 at *
      generalize wr.heap.size = B8 at *
      have hdl : Hid (∀ x ∈ B.take 0, x.1 ≠ bs) := Lib.hid (by simp)
      clear h hB hs0 c0 c1 hst
      go_wp2
      go_loopw [42] (fun i42 wi => ∃ (j : Nat), j ≤ k ∧ i42 = .int .i64 j ∧ Hid (∀ x ∈ B.take j, x.1 ≠ bs) ∧ Hid (Below w1.heap.size w1 wi)) (fun i42 _ => k - (intOf i42).toNat)
      case atStart => exact ⟨0, by omega, rfl, hdl, Lib.hid (Below.refl _ _)⟩
      case round =>
        obtain ⟨j, hj, rfl, hD, hBi⟩ := hrel
        by_cases hjt : j < k
        · have hjt' : decide ((j : Int) < (k : Int)) = true := by simp; omega
          have r0 : (0 : Int) ≤ (j : Int) := by omega
          have r1 : (j : Int) < (k : Int) := by omega
          obtain ⟨⟨xs, xm⟩, hx⟩ : ∃ x, B[j]? = some x := ⟨B[j]'(by have := hn'.out; omega), by simp⟩
          obtain ⟨⟨x0, x1⟩, ⟨y0, y1⟩, g', off', eg, d0, d1⟩ := (h'.out.up hBi.out).at hx
          cases eg
          have hx' := Lib.hid hx
          have d8 := cell_up hBi.out cb.out
          have hlt8 := World.block_lt_of_cell? _ _ d8
          have d8' : (wr.alloc (.cells #[.int .i64 xs, .int .i64 xm] 57)).cell? ⟨B8, 0, none⟩ = some (.int .i64 bs) := (World.cell?_alloc_old _ _ _ (Nat.ne_of_lt hlt8)).trans d8
          clear hx
          simp only at x0 x1 y0 y1 d0 d1
          by_cases he : xs = bs
          · have e := Lib.hid (bind_twice (names := names) (methods := methods) hb'.out hx'.out hjt he)
            have he' : (xs == bs) = true := by simpa using he
            go_wp2
            go_ret
            exact ⟨congrArg (fun b => Ending.returned (Value.bool b)) e.out.symm, (hB'.out.trans (hBi.out.mono (by have := hB'.out.size; omega))).alloc (by have := hB'.out.size; have := hBi.out.size; omega) _⟩
          · have he' : (xs == bs) = false := by simpa using he
            have hD' : Hid (∀ x ∈ B.take (j + 1), x.1 ≠ bs) := Lib.hid (fun x hx => by
              rw [List.take_add_one, hx'.out] at hx
              rcases List.mem_append.1 hx with hx | hx
              · exact hD.out x hx
              · have e : x = (xs, xm) := by simpa using hx
                rw [e]; exact he)
            go_wp2
            go_roundw
            case rel => exact ⟨j + 1, by omega, by go_num, hD', Lib.hid (hBi.out.alloc hBi.out.size _)⟩
            case measure => simp [intOf]; omega
        · have hR' := Lib.hid (hR.out.step hb'.out hok.out (by have := hD.out; rw [show j = k by omega] at this; exact this))
          have hB2 := Lib.hid (hB'.out.trans (hBi.out.mono (by have := hB'.out.size; omega)))
          go_wp2
          go_roundw
          case rel => exact ⟨k + 1, by omega, by go_num, hR', hB2⟩
          case measure => simp [intOf]; omega
    · have hR' : BdR B names methods B.length := by have := hR.out; rw [show k = B.length by have := hn'.out; omega] at this; exact this
      have e := Lib.hid hR'.last
      have hl : decide (B.length ≤ 16) = decide ((n : Int) ≤ 16) := by have := hn'.out; rw [decide_eq_decide]; omega
      rw [hl] at e
      clear hR' hl
      go_wp2
      go_ret
      exact ⟨congrArg (fun b => Ending.returned (Value.bool b)) e.out.symm, hB.out⟩
end Wd
end Go.Proofs.Ytlbekicalinglaa
