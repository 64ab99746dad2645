/- DictOrder, over what the laws ask of the package. -/
import Derived.Test.YtdpckckfkpefnaaJRow
import Derived.Deep.RegionHeld3
namespace Go.Proofs.Ytdpckckfkpefnaa
open Go.RowKit
set_option linter.unusedVariables false
set_option maxRecDepth 20000
namespace Wd
def bL (k : Nat) : List (Int × Int) := (List.range k).map fun (j : Nat) => ((j : Int), ((j * j : Nat) : Int))
def rotL (k x : Nat) : List (Int × Int) := (bL k).drop x ++ (bL k).take x
theorem bL_len (k : Nat) : (bL k).length = k := by simp [bL]
theorem bL_next (k : Nat) : bL (k + 1) = bL k ++ [((k : Int), ((k * k : Nat) : Int))] := by unfold bL; rw [List.range_succ, List.map_append]; rfl
theorem bL_bd {k : Nat} (hk : k ≤ 12) : ∀ x ∈ bL k, I64 x.1 ∧ I64 x.2 := by
  intro x hx
  obtain ⟨j, hj, rfl⟩ := List.mem_map.1 hx
  have hj' : j < k := List.mem_range.1 hj
  have h2 : j * j ≤ 12 * 12 := Nat.mul_le_mul (by omega) (by omega)
  simp only
  generalize j * j = q at *
  exact ⟨⟨by omega, by omega⟩, ⟨by omega, by omega⟩⟩
def ordB (k x : Nat) : Bool := match ofD (bL k) D0, ofD (rotL k x) D0 with
  | some A, some B => decide (cnt A = k) && decide (cnt B = k) && (List.range k).all (fun i => decide ((findD A i).1 = ((i * i : Nat) : Int)) && decide ((findD B i).1 = ((i * i : Nat) : Int)))
  | _, _ => false
theorem ord_all : ((List.range 13).all fun k => (List.range k).all fun x => ordB k x) = true := by kernel_rfl
theorem ord_at {k x : Nat} (hk : k ≤ 12) (hx : x < k) : ∃ A B, ofD (bL k) D0 = some A ∧ ofD (rotL k x) D0 = some B ∧ cnt A = k ∧ cnt B = k ∧ ∀ i, i < k → (findD A (i : Int)).1 = ((i * i : Nat) : Int) ∧ (findD B (i : Int)).1 = ((i * i : Nat) : Int) := by
  have h := List.all_eq_true.1 (List.all_eq_true.1 ord_all k (List.mem_range.2 (by omega))) x (List.mem_range.2 hx)
  unfold ordB at h
  cases hA : ofD (bL k) D0 with
  | none => rw [hA] at h; simp at h
  | some A =>
    cases hB : ofD (rotL k x) D0 with
    | none => rw [hA, hB] at h; simp at h
    | some B =>
      rw [hA, hB] at h
      simp only [Bool.and_eq_true, decide_eq_true_eq] at h
      refine ⟨A, B, rfl, rfl, h.1.1, h.1.2, fun i hi => ?_⟩
      have := List.all_eq_true.1 h.2 i (List.mem_range.2 hi)
      simp only [Bool.and_eq_true, decide_eq_true_eq] at this
      exact this
theorem pr2_drop : ∀ (L : List (Int × Int)) (x : Nat), pr2 (L.drop x) = (pr2 L).drop (x * 2)
  | L, 0 => by simp
  | [], x + 1 => by simp [pr2]
  | t :: L, x + 1 => by
    rw [List.drop_succ_cons, pr2_drop L x, show (x + 1) * 2 = x * 2 + 1 + 1 by omega]
    simp [pr2]
theorem pr2_take : ∀ (L : List (Int × Int)) (x : Nat), pr2 (L.take x) = (pr2 L).take (x * 2)
  | L, 0 => by simp [pr2]
  | [], x + 1 => by simp [pr2]
  | t :: L, x + 1 => by
    rw [List.take_succ_cons, show (x + 1) * 2 = x * 2 + 1 + 1 by omega]
    simp [pr2, pr2_take L x]
theorem own_drop {w : World} {base g n c : Nat} {e : TypeId} {L : List (Int × Int)} (h : w.ownsRow base e 2 (.slice (some ⟨g, 0, none⟩) n c) n (pr2 L)) (hn : L.length = n) (x j : Nat) (u : Value) (hj : (pr2 (L.drop x))[j]? = some u) : w.cell? ((⟨g, x * 2, none⟩ : Addr).add j) = some u := by
  rw [pr2_drop, List.getElem?_drop] at hj
  have hk := (List.getElem?_eq_some_iff.1 hj).1
  rw [pr2_len] at hk
  rw [Addr.add_lit]
  exact (h.cellAt (x * 2 + j) (by omega)).trans hj
theorem own_take {w : World} {base g n c : Nat} {e : TypeId} {L : List (Int × Int)} (h : w.ownsRow base e 2 (.slice (some ⟨g, 0, none⟩) n c) n (pr2 L)) (hn : L.length = n) (x j : Nat) (u : Value) (hj : (pr2 (L.take x))[j]? = some u) : w.cell? ((⟨g, 0, none⟩ : Addr).add j) = some u := by
  rw [pr2_take, List.getElem?_take] at hj
  split at hj
  · have hk := (List.getElem?_eq_some_iff.1 hj).1
    rw [pr2_len] at hk
    rw [Addr.add_lit, Nat.zero_add]
    exact (h.cellAt j (by omega)).trans hj
  · cases hj
theorem rot_bd {k : Nat} (hk : k ≤ 12) (x : Nat) : ∀ y ∈ rotL k x, I64 y.1 ∧ I64 y.2 := by
  intro y hy
  rcases List.mem_append.1 hy with h | h
  · exact bL_bd hk y (List.mem_of_mem_drop h)
  · exact bL_bd hk y (List.mem_of_mem_take h)
set_option maxHeartbeats 16000000 in
theorem order_any {DA : DAt} (K : DicK DA) (n at_ : Int) (hn : I64 n) (ha : I64 at_) (w : World) :
    Calls Try.prog 6 #[.int .i64 n, .int .i64 at_] w fun e w' => e = .returned (.bool true) ∧ Below w.heap.size w w' := by
  obtain ⟨i0, hi0, hz0, hz1, hz2⟩ := info_parts infoBind
  have hmx : 100000 ≤ maxLen := by decide
  have PW := Lib.hid (within_c n 0 11 hn.1 hn.2 (by omega) (by omega) (by omega))
  have hwb := within_bd n 0 11 (by omega)
  generalize within n 0 11 = q at *
  obtain ⟨k, hk⟩ : ∃ k : Nat, (1 : Int) + q = (k : Int) := ⟨(1 + q).toNat, by omega⟩
  have hk12 : k ≤ 12 := by omega
  have hk1 : 1 ≤ k := by omega
  have hst : Hid (w.ownsRow w.heap.size 27 2 (.slice none 0 0) 0 (pr2 (bL 0))) := Lib.hid (World.ownsRow_nil _ _ _ _)
  go_enter Try.func6, Try.ntmps6
  go_upto_region 2 with (first | (go_at_call 10; ((with_reducible refine (PW.out _).mono ?_); rintro e1 w1 ⟨rfl, hw⟩; subst w1)))
  clear PW
  go_wp2
  go_loopw [6, 7] (fun i6 i7 wr => ∃ (i : Nat) (a : Option Addr) (c : Nat), i ≤ k ∧ i7 = .int .i64 i ∧ i6 = .slice a i c ∧ Hid (wr.ownsRow w.heap.size 27 2 (.slice a i c) i (pr2 (bL i))) ∧ Hid (Below w.heap.size w wr)) (fun _ i7 _ => k - (intOf i7).toNat)
  case atStart => exact ⟨0, none, 0, by omega, rfl, rfl, hst, Lib.hid (Below.refl _ _)⟩
  case round =>
    clear hst
    obtain ⟨i, a, c, hik, rfl, rfl, hO, hB⟩ := hrel
    by_cases hlt : i < k
    · have d1 : decide ((i : Int) < (k : Int)) = true := by simp; omega
      have hsq : (i : Int) * (i : Int) = ((i * i : Nat) : Int) := by push_cast; rfl
      have hsb : i * i ≤ 12 * 12 := Nat.mul_le_mul (by omega) (by omega)
      have hnx := Lib.hid (bL_next i)
      have hw1 : IntKind.i64.wrap (((i * i : Nat) : Int)) = ((i * i : Nat) : Int) := by rw [IntKind.wrap_i64]; omega
      generalize i * i = s at *
      go_wp2_with (first | (at_builtin; refine wpList_append_lies _ rfl (.tmp 27) (.tmp 33) 23 rfl w.heap.size 27 i0 (.agg #[.int .i64 0, .int .i64 0]) 2 16 Try.underlying23 hi0 hz0 hz1 hz2 rfl (by decide) _ i _ (by simp [Act.eval]) (hO.out.alloc _) ⟨wr.heap.size, 0, none⟩ 1 1 (pr2 [((i : Int), (s : Int))]) (by simp [Act.eval]) (by simp [pr2]) (rd_bind wr _ _ _ rfl) (pr2_one _) (by omega) (by omega) (by omega) (by have := hB.out.size; simp; omega) _ rfl ?_; intro g1 cap1 wh hown1 hgrow1 hat1 hlt1; have hB9 := Lib.hid ((hB.out.alloc hB.out.size _).grown hgrow1 (by have := hB.out.size; simp; omega) (fun k hk => (hO.out.lt k hk).1)); have hO9 : Hid (wh.ownsRow w.heap.size 27 2 (.slice (some ⟨g1, 0, none⟩) (i + 1) cap1) (i + 1) (pr2 (bL (i + 1)))) := Lib.hid (by rw [hnx.out, pr2_app]; exact hown1); clear hgrow1 hat1 hlt1 hown1))
      go_roundw
      case rel => exact ⟨i + 1, _, _, by omega, by go_num, rfl, hO9, hB9⟩
      case measure => simp [intOf]; omega
    · have d1 : decide ((i : Int) < (k : Int)) = false := by simp; omega
      obtain rfl : i = k := by omega
      have PW2 := Lib.hid (within_c at_ 0 ((i : Int) - 1) ha.1 ha.2 (by omega) (by omega) (by omega))
      have hwb2 := within_bd at_ 0 ((i : Int) - 1) (by omega)
      generalize within at_ 0 ((i : Int) - 1) = x0 at *
      obtain ⟨x, rfl⟩ : ∃ x : Nat, x0 = (x : Int) := ⟨x0.toNat, by omega⟩
      have hx : x < i := by omega
      obtain ⟨A, B, hA, hBB, cA, cB, hAB⟩ := ord_at hk12 hx
      obtain ⟨g, rfl, hci⟩ : ∃ g, a = some ⟨g, 0, none⟩ ∧ i ≤ c := by
        rcases hO.out.2 with ⟨e, e0⟩ | ⟨g, cap, cur, e, _, _, h3, _⟩
        · omega
        · cases e; exact ⟨g, rfl, h3⟩
      go_upto_region 8 with (first | (go_at_call 10; ((with_reducible refine (PW2.out _).mono ?_); rintro e1 w1 ⟨rfl, hw⟩; subst w1)))
      have b0 : (0 : Int) ≤ (x : Int) := by omega
      have b1 : (x : Int) ≤ (i : Int) := by omega
      have b2 : (x : Int) ≤ (c : Int) := by omega
      have b3 : (i : Int) ≤ (c : Int) := by omega
      have b4 : ¬ c = x := by omega
      have b5 : ¬ (c - x = 0) := by omega
      go_cut [9] (fun i9 wx => ∃ (a2 : Option Addr) (c2 : Nat), i9 = .slice a2 i c2 ∧ Hid (PrV wx (.slice a2 i c2) (rotL i x)) ∧ Hid (Below wr.heap.size wr wx))
      case first =>
        refine wp_region_held_drew (S := (fun wr' => Below wr.heap.size wr wr')) (by kernel_rfl) ?_ (fun hHeld => ?_)
        · (try dsimp only); first | exact Below.refl _ _ | exact (Below.refl _ _).drew
        try simp only [Act.put, List.setIfInBounds_toArray, List.set_cons_zero, List.set_cons_succ]
        refine wpAnyH_take (i := 1) (oi := { dst := some 40, op := Op.move (Operand.tmp 6), type := 23, pos := "law.go:151", after := #[], guard := none }) (v := ?_) rfl (by kernel_rfl) (by kernel_rfl) (by kernel_rfl) (fun _ _ _ h => h) (Or.inl ⟨by rfl, ?_⟩) (by assumption) ?_
        rotate_left 1
        · intro w hSw; (try dsimp only at hSw); go_simp <;> with_reducible rfl
        try simp only [Act.put, List.setIfInBounds_toArray, List.set_cons_zero, List.set_cons_succ]
        refine wpAnyH_take (i := 2) (oi := { dst := some 41, op := Op.move (Operand.tmp 8), type := 3, pos := "law.go:151", after := #[], guard := none }) (v := ?_) rfl (by kernel_rfl) (by kernel_rfl) (by kernel_rfl) (fun _ _ _ h => h) (Or.inl ⟨by rfl, ?_⟩) (by assumption) ?_
        rotate_left 1
        · intro w hSw; (try dsimp only at hSw); go_simp <;> with_reducible rfl
        try simp only [Act.put, List.setIfInBounds_toArray, List.set_cons_zero, List.set_cons_succ]
        refine wpAnyH_take (i := 3) (oi := { dst := some 42, op := Op.slice 23 (Operand.tmp 40) (some (Operand.tmp 41)) none none, type := 23, pos := "law.go:151", after := #[{ on := 1, ground := Ground.data }, { on := 2, ground := Ground.data }], guard := none }) (v := ?_) rfl (by kernel_rfl) (by kernel_rfl) (by kernel_rfl) (fun _ _ _ h => h) (Or.inl ⟨by rfl, ?_⟩) (by assumption) ?_
        rotate_left 1
        · intro w hSw; (try dsimp only at hSw); go_simp <;> with_reducible rfl
        try simp only [Act.put, List.setIfInBounds_toArray, List.set_cons_zero, List.set_cons_succ]
        refine wpAnyH_take (i := 5) (oi := { dst := some 44, op := Op.move (Operand.tmp 6), type := 23, pos := "law.go:151", after := #[], guard := none }) (v := ?_) rfl (by kernel_rfl) (by kernel_rfl) (by kernel_rfl) (fun _ _ _ h => h) (Or.inl ⟨by rfl, ?_⟩) (by assumption) ?_
        rotate_left 1
        · intro w hSw; (try dsimp only at hSw); go_simp <;> with_reducible rfl
        try simp only [Act.put, List.setIfInBounds_toArray, List.set_cons_zero, List.set_cons_succ]
        refine wpAnyH_take (i := 6) (oi := { dst := some 45, op := Op.move (Operand.tmp 8), type := 3, pos := "law.go:151", after := #[], guard := none }) (v := ?_) rfl (by kernel_rfl) (by kernel_rfl) (by kernel_rfl) (fun _ _ _ h => h) (Or.inl ⟨by rfl, ?_⟩) (by assumption) ?_
        rotate_left 1
        · intro w hSw; (try dsimp only at hSw); go_simp <;> with_reducible rfl
        try simp only [Act.put, List.setIfInBounds_toArray, List.set_cons_zero, List.set_cons_succ]
        refine wpAnyH_take (i := 7) (oi := { dst := some 46, op := Op.slice 23 (Operand.tmp 44) none (some (Operand.tmp 45)) none, type := 23, pos := "law.go:151", after := #[{ on := 5, ground := Ground.data }, { on := 6, ground := Ground.data }], guard := none }) (v := ?_) rfl (by kernel_rfl) (by kernel_rfl) (by kernel_rfl) (fun _ _ _ h => h) (Or.inl ⟨by rfl, ?_⟩) (by assumption) ?_
        rotate_left 1
        · intro w hSw; (try dsimp only at hSw); go_simp <;> with_reducible rfl
        try simp only [Act.put, List.setIfInBounds_toArray, List.set_cons_zero, List.set_cons_succ]
        refine wpAnyH_ready (rs := [0]) (by kernel_rfl) (by simp) ?_
        refine AllReadyH.cons (o := { dst := some 39, op := Op.buildSlice 23 0 #[], type := 23, pos := "law.go:151", after := #[], guard := none }) rfl (fun K9 hK => ?_) ?_
        · go_simp
          refine hK.out _ _ ?_ ?_
          · (try dsimp only); exact ((Below.refl _ _).drew).alloc (Nat.le_refl _) _
          clear hK K9 hHeld; intro hHeld
          try simp only [Act.put, List.setIfInBounds_toArray, List.set_cons_zero, List.set_cons_succ]
          refine wpAnyH_ready (rs := [4]) (by kernel_rfl) (by simp) ?_
          refine AllReadyH.cons (o := { dst := some 43, op := Op.call { callee := Callee.builtin Builtin.append, args := #[Operand.tmp 39, Operand.tmp 42], argTypes := #[23, 23] }, type := 23, pos := "law.go:151", after := #[{ on := 0, ground := Ground.data }, { on := 3, ground := Ground.data }], guard := none }) rfl (fun K9 hK => ?_) ?_
          · refine step_app_any rfl (.tmp 39) (.tmp 42) 23 rfl wr.heap.size 27 i0 (.agg #[.int .i64 0, .int .i64 0]) 2 16 Try.underlying23 hi0 hz0 hz1 hz2 rfl (by decide) (.slice (some ⟨wr.heap.size, 0, none⟩) 0 0) _ 0 (i - x) [] (pr2 ((bL i).drop x)) rfl rfl (made_none wr.drew _ 2 _ (Nat.le_refl _)) (Or.inr ⟨⟨g, x * 2, none⟩, _, rfl, fun j u hj => cell_up (((Below.refl _ _).drew).alloc (Nat.le_refl _) _) (own_drop hO.out (by rw [bL_len]) x j u hj)⟩) (by rw [pr2_len, List.length_drop, bL_len]) (pr2_one _) (by omega) (by omega) (by simp) ?_
            intro v1 w1 hown1 hgrow1 hat1
            have hQ4 : Below wr.heap.size wr w1 := (((Below.refl _ _).drew).alloc (Nat.le_refl _) _).grown hgrow1 (by simp) (fun k hk => Nat.le_of_eq (Option.some.inj hk))
            refine hK.out _ _ ?_ ?_
            · (try dsimp only); exact hQ4
            clear hK K9 hHeld; intro hHeld
            try simp only [Act.put, List.setIfInBounds_toArray, List.set_cons_zero, List.set_cons_succ]
            refine wpAnyH_ready (rs := [8]) (by kernel_rfl) (by simp) ?_
            refine AllReadyH.cons (o := { dst := some 47, op := Op.call { callee := Callee.builtin Builtin.append, args := #[Operand.tmp 43, Operand.tmp 46], argTypes := #[23, 23] }, type := 23, pos := "law.go:151", after := #[{ on := 4, ground := Ground.data }, { on := 7, ground := Ground.data }, { on := 4, ground := Ground.chain }], guard := none }) rfl (fun K9 hK => ?_) ?_
            · refine step_app_any rfl (.tmp 43) (.tmp 46) 23 rfl wr.heap.size 27 i0 (.agg #[.int .i64 0, .int .i64 0]) 2 16 Try.underlying23 hi0 hz0 hz1 hz2 rfl (by decide) v1 _ (0 + (i - x)) x ([] ++ pr2 ((bL i).drop x)) (pr2 ((bL i).take x)) rfl rfl hown1 (Or.inr ⟨⟨g, 0, none⟩, _, rfl, fun j u hj => cell_up hQ4 (own_take hO.out (by rw [bL_len]) x j u hj)⟩) (by rw [pr2_len, List.length_take, bL_len]; omega) (pr2_one _) (by omega) (by omega) hQ4.size ?_
              intro v2 w2 hown2 hgrow2 hat2
              have hQ8 : Below wr.heap.size wr w2 := hQ4.grown hgrow2 hQ4.size (fun k hk => (hown1.lt k hk).1)
              refine hK.out _ _ ?_ ?_
              · (try dsimp only); exact hQ8
              clear hK K9 hHeld; intro hHeld
              try simp only [Act.put, List.setIfInBounds_toArray, List.set_cons_zero, List.set_cons_succ]
              refine wpAnyH_take (i := 9) (oi := { dst := some 9, op := Op.assign (Operand.tmp 47), type := 23, pos := "law.go:151", after := #[{ on := 8, ground := Ground.data }, { on := 8, ground := Ground.chain }, { on := 0, ground := Ground.phase }, { on := 1, ground := Ground.phase }, { on := 2, ground := Ground.phase }, { on := 3, ground := Ground.phase }, { on := 4, ground := Ground.phase }, { on := 5, ground := Ground.phase }, { on := 6, ground := Ground.phase }, { on := 7, ground := Ground.phase }, { on := 8, ground := Ground.phase }], guard := none }) (v := ?_) rfl (by kernel_rfl) (by kernel_rfl) (by kernel_rfl) (fun _ _ _ h => h) (Or.inl ⟨by rfl, ?_⟩) (by assumption) ?_
              rotate_left 1
              · intro w hSw; (try dsimp only at hSw); go_simp <;> with_reducible rfl
              try simp only [Act.put, List.setIfInBounds_toArray, List.set_cons_zero, List.set_cons_succ]
              refine wpAnyH_done (by kernel_rfl) ?_ _
              have hown3 : w2.ownsRow wr.heap.size 27 2 v2 (rotL i x).length (pr2 (rotL i x)) := by
                have e : (rotL i x).length = 0 + (i - x) + x := by unfold rotL; rw [List.length_append, List.length_drop, List.length_take, bL_len]; omega
                rw [e]; unfold rotL; rw [pr2_app]; exact hown2
              have hlen : (rotL i x).length = i := by unfold rotL; rw [List.length_append, List.length_drop, List.length_take, bL_len]; omega
              have hP := PrV.own hown3 (rot_bd hk12 x)
              obtain ⟨a2, c2, hv2⟩ := row_form2 hown3
              rw [hlen] at hv2
              subst hv2
              go_wp2_with fail
              go_meet
              exact ⟨_, _, rfl, Lib.hid hP, Lib.hid hQ8⟩
            exact AllReadyH.nil
          exact AllReadyH.nil
        exact AllReadyH.nil
      case rest =>
        clear b0 b1 b2 b3 b4 b5
        obtain ⟨a2, c2, rfl, hP, hQ⟩ := hcut
        have hPl : Hid (PrV wr (.slice (some ⟨g, 0, none⟩) i c) (bL i)) := Lib.hid (PrV.own (by have := hO.out; rw [bL_len]; exact this) (bL_bd hk12))
        have hPl2 := Lib.hid (hPl.out.up hQ.out)
        have hB2 := Lib.hid (hB.out.trans (hQ.out.mono hB.out.size))
        have hA' := Lib.hid hA
        have hBB' := Lib.hid hBB
        have cA' := Lib.hid cA
        have cB' := Lib.hid cB
        have hAB' := Lib.hid hAB
        clear hPl hQ hO hB hA hBB cA cB hAB
        go_wp2_with fail
        refine (K.of hPl2.out).mono ?_
        rintro e w3 ⟨hO3, hb3⟩
        rcases hO3 with ⟨D, p, F, hD, rfl, hda, hF⟩ | ⟨hD, rfl⟩
        · obtain rfl : A = D := by rw [hA'.out] at hD; exact Option.some.inj hD
          have hX : Hid (PD DA w w3 p A F) := Lib.hid ⟨hda, hB2.out.trans (hb3.mono hB2.out.size), fun k hk => Nat.le_trans hB2.out.size (hF k hk)⟩
          have hP3 := Lib.hid (hP.out.up hb3)
          clear hda hF hD hPl2 hb3 hB2 hP
          go_wp2_with fail
          refine (K.of hP3.out).mono ?_
          rintro e w4 ⟨hO4, hb4⟩
          rcases hO4 with ⟨D, q4, G, hD, rfl, hda, hF⟩ | ⟨hD, rfl⟩
          · obtain rfl : B = D := by rw [hBB'.out] at hD; exact Option.some.inj hD
            have hY : Hid (PD DA w w4 q4 B G) := Lib.hid ⟨hda, hX.out.bel.trans (hb4.mono hX.out.bel.size), fun k hk => Nat.le_trans hX.out.bel.size (hF k hk)⟩
            replace hX := Lib.hid (hX.out.keep K hb4)
            clear hda hF hD hP3 hb4
            go_upto_region 13 with (first | (go_at_call 14; first | ((with_reducible refine (len_s K hX.out cA'.out).mono ?_); rintro e y5 ⟨rfl, h0, hb⟩; replace hX := Lib.hid h0; replace hY := Lib.hid (hY.out.keep K hb); clear h0 hb) | ((with_reducible refine (len_s K hY.out cB'.out).mono ?_); rintro e y6 ⟨rfl, h0, hb⟩; replace hY := Lib.hid h0; replace hX := Lib.hid (hX.out.keep K hb); clear h0 hb)))
            go_wp2
            go_loopw [14] (fun i14 wx => ∃ j : Nat, j ≤ i ∧ i14 = .int .i64 j ∧ Hid (PD DA w wx p A F) ∧ Hid (PD DA w wx q4 B G)) (fun i14 _ => i - (intOf i14).toNat)
            case atStart => exact ⟨0, by omega, rfl, hX, hY⟩
            case round =>
              clear hX hY
              obtain ⟨j, hj, rfl, hX, hY⟩ := hrel
              by_cases hjt : j < i
              · have e1 : decide ((j : Int) < (i : Int)) = true := by simp; omega
                have hsq : (j : Int) * (j : Int) = ((j * j : Nat) : Int) := by push_cast; rfl
                have hsb : j * j ≤ 12 * 12 := Nat.mul_le_mul (by omega) (by omega)
                obtain ⟨f1, f2⟩ := hAB'.out j hjt
                obtain ⟨x1, y1, hf1⟩ : ∃ a b, findD A (j : Int) = (a, b) := ⟨_, _, rfl⟩
                obtain ⟨x2, y2, hf2⟩ : ∃ a b, findD B (j : Int) = (a, b) := ⟨_, _, rfl⟩
                rw [hf1] at f1
                rw [hf2] at f2
                simp only at f1 f2
                subst f1; subst f2
                have g1 := Lib.hid hf1
                have g2 := Lib.hid hf2
                have hj64 : Hid (I64 (j : Int)) := Lib.hid ⟨by omega, by omega⟩
                clear hf1 hf2
                generalize j * j = s at *
                go_wp2_with (first | (go_at_call 13; first | ((with_reducible refine (find_s K hX.out hj64.out g1.out).mono ?_); rintro e y7 ⟨rfl, h0, hb⟩; replace hX := Lib.hid h0; replace hY := Lib.hid (hY.out.keep K hb); clear h0 hb) | ((with_reducible refine (find_s K hY.out hj64.out g2.out).mono ?_); rintro e y8 ⟨rfl, h0, hb⟩; replace hY := Lib.hid h0; replace hX := Lib.hid (hX.out.keep K hb); clear h0 hb)))
                go_roundw
                case rel => exact ⟨j + 1, by omega, by go_num, hX, hY⟩
                case measure => simp [intOf]; omega
              · have e1 : decide ((j : Int) < (i : Int)) = false := by simp; omega
                go_wp2_with (first | (go_at_call 9; ((with_reducible refine (known_c K _).mono ?_); rintro e y9 ⟨rfl, hb⟩)))
                go_ret
                exact ⟨rfl, hX.out.bel.trans (hb.mono hX.out.bel.size)⟩
          · rw [hBB'.out] at hD; cases hD
        · rw [hA'.out] at hD; cases hD
end Wd
end Go.Proofs.Ytdpckckfkpefnaa
