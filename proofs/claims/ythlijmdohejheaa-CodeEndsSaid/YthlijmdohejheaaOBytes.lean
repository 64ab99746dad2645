/- CodeBytes, over what the laws ask of the package. -/
import Derived.Test.YthlijmdohejheaaOKnown
import Derived.Test.YthlijmdohejheaaOOdd
import Derived.Deep.RegionHeld3
import Derived.Deep.RegionWith
import Derived.Deep.AppendLies
namespace Go.Proofs.Ythlijmdohejheaa
open Go.RowKit
set_option linter.unusedVariables false
set_option maxRecDepth 20000
namespace Wd
theorem rd_pair (w : World) (x y : Int) (T : TypeId) : ∀ j u, (pr2 [(x, y)])[j]? = some u → (w.alloc (.cells #[.int .i64 x, .int .i64 y] T)).cell? ((⟨w.heap.size, 0, none⟩ : Addr).add j) = some u := by
  intro j u hu
  have hj : j < 2 := by have := (List.getElem?_eq_some_iff.1 hu).1; simpa [pr2_len] using this
  rw [Addr.add_lit, Nat.zero_add]
  rcases (show j = 0 ∨ j = 1 by omega) with rfl | rfl <;> (simp [pr2] at hu; subst hu; simp)
theorem infoInst : (Try.prog.info? 47).map (fun i => (i.zero, i.size, i.bytes)) = some (some (.agg #[.int .i64 0, .int .i64 0]), 2, 16) := by kernel_rfl
def By8 (x : Int) : Prop := 0 ≤ x ∧ x ≤ 255
theorem wr8_id {x : Int} (h : By8 x) : wr8 x = x := by
  unfold wr8
  have e : IntKind.u8.wrap x = x % 256 := rfl
  rw [e]; unfold By8 at h; omega
theorem bytL_len (T : List (Int × Int)) : (bytL T).length = 2 * T.length := by unfold bytL; rw [flat_len, List.length_map]
theorem bytL_cons (x : Int × Int) (T : List (Int × Int)) : bytL (x :: T) = wr8 x.1 :: wr8 x.2 :: bytL T := rfl
theorem bytL_at : ∀ (T : List (Int × Int)) (k : Nat) (x : Int × Int), T[k]? = some x → byAt (bytL T) (2 * k) = wr8 x.1 ∧ byAt (bytL T) (2 * k + 1) = wr8 x.2
  | [], k, x, h => by simp at h
  | s :: T, 0, x, h => by simp at h; subst h; rw [bytL_cons]; exact ⟨rfl, rfl⟩
  | s :: T, k + 1, x, h => by
    obtain ⟨h1, h2⟩ := bytL_at T k x (by simpa using h)
    rw [bytL_cons]
    refine ⟨?_, ?_⟩
    · rw [← h1, show 2 * (k + 1) = 2 * k + 1 + 1 by omega]; rfl
    · rw [← h2, show 2 * (k + 1) + 1 = 2 * k + 1 + 1 + 1 by omega]; rfl
theorem fet_two {T : List (Int × Int)} {k : Nat} {x : Int × Int} (h : T[k]? = some x) (h1 : By8 x.1) (h2 : By8 x.2) : fetR (bytL T) ((2 * k : Nat) : Int) = (x.1, x.2, true) := by
  have hk := (List.getElem?_eq_some_iff.1 h).1
  obtain ⟨e1, e2⟩ := bytL_at T k x h
  rw [fet_yes (by omega) (by omega) (by rw [bytL_len]; omega), Int.toNat_natCast, e1, e2, wr8_id h1, wr8_id h2]
theorem tak_bd {k : Nat} (h : k < 24) : 0 ≤ takR (k : Int) ∧ takR (k : Int) ≤ 3 := by
  have key : ∀ k : Nat, k < 24 → 0 ≤ takR (k : Int) ∧ takR (k : Int) ≤ 3 := by decide +kernel
  exact key k h
theorem nam_ne {k : Nat} (h : k < 22) : (namR (k : Int) == ⟨#[]⟩) = false ∧ ((namR (k : Int)).toList == []) = false ∧ ((namR (k : Int)).toList == (⟨#[]⟩ : ByteArray).toList) = false := by
  have key : ∀ k : Nat, k < 22 → ((namR (k : Int) == ⟨#[]⟩) = false ∧ ((namR (k : Int)).toList == []) = false ∧ ((namR (k : Int)).toList == (⟨#[]⟩ : ByteArray).toList) = false) := by decide +kernel
  exact key k h
/-- the few that are written -/
structure BtS (w wr : World) (q m c : Nat) (a ba : Option Addr) (bc : Nat) (T : List (Int × Int)) : Prop where
  b : MeB wr q (.agg #[.int .i64 0, .int .i64 0, .slice none 0 0, .slice ba (bytL T).length bc]) ⟨0, 0, [], bytL T⟩ none ba 0 bc
  f : PrV wr (.slice a m c) T
  bel : Below w.heap.size w wr
theorem BtS.up {w w1 w2 : World} {q m c : Nat} {a ba : Option Addr} {bc : Nat} {T : List (Int × Int)} (h : BtS w w1 q m c a ba bc T) (b : Below w1.heap.size w1 w2) : BtS w w2 q m c a ba bc T := ⟨h.b.up b, h.f.up b, h.bel.trans (b.mono h.bel.size)⟩
theorem cells_in {w w1 : World} {q : Nat} {x y : Int} (h : w.cell? ⟨q, 0, none⟩ = some (.int .i64 x) ∧ w.cell? ⟨q, 1, none⟩ = some (.int .i64 y)) (b : Below w.heap.size w w1) : w1.cell? ⟨q, 0, none⟩ = some (.int .i64 x) ∧ w1.cell? ⟨q, 1, none⟩ = some (.int .i64 y) := ⟨cell_up b h.1, cell_up b h.2⟩
/-- two numbers in a box -/
def Pb (w : World) (q : Nat) (x y : Int) : Prop := w.cell? ⟨q, 0, none⟩ = some (.int .i64 x) ∧ w.cell? ⟨q, 1, none⟩ = some (.int .i64 y)
theorem Pb.up {w w1 : World} {q : Nat} {x y : Int} (h : Pb w q x y) (b : Below w.heap.size w w1) : Pb w1 q x y := cells_in h b
theorem pairB (w : World) (x y : Int) (T : TypeId) : Pb (w.alloc (.cells #[.int .i64 x, .int .i64 y] T)) w.heap.size x y := ⟨by simp, by simp⟩
theorem inst_ne (w : World) (x y : Int) : (binOp .neq 47 (.agg #[.int .i64 x, .int .i64 y]) (.agg #[.int .i64 x, .int .i64 y])).run Try.prog w = .ok (.bool false) w := by
  go_simp
theorem in64_z : In64 0 := ⟨by decide, by decide⟩
theorem BtS.born {w wb : World} {i c bc : Nat} {a ba : Option Addr} {T : List (Int × Int)} (hl : PrV wb (.slice a i c) T) (hv : ByV wb (.slice ba (bytL T).length bc) (bytL T)) (hw : Below w.heap.size w wb) : BtS w (wb.alloc (.cells #[.int .i64 0, .int .i64 0, .slice none 0 0, .slice ba (bytL T).length bc] 37)) wb.heap.size i c a ba bc T :=
  ⟨MeB.born (m := ⟨0, 0, [], bytL T⟩) (MeV.of (PrV.nil wb) hv in64_z in64_z), hl.up ((Below.refl _ _).alloc (Nat.le_refl _) _), hw.trans (((Below.refl _ _).alloc (Nat.le_refl _) _).mono hw.size)⟩
theorem BtS.me {w wr : World} {q m c bc : Nat} {a ba : Option Addr} {T : List (Int × Int)} (h : BtS w wr q m c a ba bc T) : MeV wr (.agg #[.int .i64 0, .int .i64 0, .slice none 0 0, .slice ba (bytL T).length bc]) ⟨0, 0, [], bytL T⟩ := h.b.me
theorem BtS.c0 {w wr : World} {q m c bc : Nat} {a ba : Option Addr} {T : List (Int × Int)} (h : BtS w wr q m c a ba bc T) : wr.cell? ⟨q, 0, none⟩ = some (.int .i64 0) := h.b.c0
theorem BtS.c1 {w wr : World} {q m c bc : Nat} {a ba : Option Addr} {T : List (Int × Int)} (h : BtS w wr q m c a ba bc T) : wr.cell? ⟨q, 1, none⟩ = some (.int .i64 0) := h.b.c1
theorem BtS.c2 {w wr : World} {q m c bc : Nat} {a ba : Option Addr} {T : List (Int × Int)} (h : BtS w wr q m c a ba bc T) : wr.cell? ⟨q, 2, none⟩ = some (.slice none 0 0) := h.b.c2
theorem BtS.c3 {w wr : World} {q m c bc : Nat} {a ba : Option Addr} {T : List (Int × Int)} (h : BtS w wr q m c a ba bc T) : wr.cell? ⟨q, 3, none⟩ = some (.slice ba (bytL T).length bc) := h.b.c3
set_option maxHeartbeats 32000000 in
theorem bytes_any (K : CodeK) {w : World} {v : Value} {L : List (Int × Int)} (HP : PrV w v L) (at_ : Int) (ha : In64 at_) :
    Calls Try.prog 5 #[v, .int .i64 at_] w fun e w' => e = .returned (.bool true) ∧ Below w.heap.size w w' := by
  obtain ⟨ad, cap, rfl, hcap, hmx0⟩ := HP.form
  have hle := len_le HP.le
  obtain ⟨j0, hj0, hy0, hy1, hy2⟩ := info_parts infoInst
  have hmx : 100000 ≤ maxLen := by decide
  obtain ⟨n, hn⟩ : ∃ n, n = L.length := ⟨_, rfl⟩
  rw [← hn] at HP hle ⊢
  replace HP := Lib.hid HP
  replace hn := Lib.hid hn
  have hst : Hid (w.ownsRow w.heap.size 47 2 (.slice none 0 0) 0 (pr2 [])) := Lib.hid (World.ownsRow_nil _ _ _ _)
  clear hcap hmx0
  go_enter Try.func5, Try.ntmps5
  go_wp2
  go_loopw [5, 6] (fun i5 i6 wr => ∃ (i : Nat) (a : Option Addr) (c : Nat) (T : List (Int × Int)), i ≤ n ∧ i ≤ 60 ∧ i6 = .int .i64 i ∧ i5 = .slice a i c ∧ Hid (wr.ownsRow w.heap.size 47 2 (.slice a i c) i (pr2 T)) ∧ Hid (∀ x ∈ T, By8 x.1 ∧ By8 x.2) ∧ Hid (i = T.length) ∧ Hid (Below w.heap.size w wr)) (fun _ i6 _ => n - (intOf i6).toNat)
  case atStart => exact ⟨0, none, 0, [], by omega, by omega, rfl, rfl, hst, Lib.hid (by simp), Lib.hid rfl, Lib.hid (Below.refl _ _)⟩
  case round =>
    clear hst
    obtain ⟨i, a, c, T, hin, hi60, rfl, rfl, hO, hT, hl, hB⟩ := hrel
    by_cases hlt : i < n ∧ i < 60
    · have d1 : decide ((i : Int) < (n : Int)) = true := by simp; omega
      have d2 : decide ((i : Int) < 60) = true := by simp; omega
      have p0 : (0 : Int) ≤ (i : Int) := by omega
      have p1 : (i : Int) < (n : Int) := by omega
      obtain ⟨⟨bs, bm⟩, hx⟩ : ∃ x, L[i]? = some x := ⟨L[i]'(by have := hn.out; omega), by simp⟩
      obtain ⟨s64, m64, g, off, rfl, c0, c1⟩ := HP.out.at hx
      simp only at s64 m64 c0 c1
      have c0w := Lib.hid c0
      have c1w := Lib.hid c1
      clear c0 c1 hx
      obtain ⟨m1, hm1, im1⟩ : ∃ p, bits .and .i64 bs 255 = p ∧ By8 p := ⟨_, rfl, by rw [mask255]; unfold By8; omega⟩
      obtain ⟨m2, hm2, im2⟩ : ∃ p, bits .and .i64 bm 255 = p ∧ By8 p := ⟨_, rfl, by rw [mask255]; unfold By8; omega⟩
      have hbT : Hid (∀ t ∈ T ++ [(m1, m2)], By8 t.1 ∧ By8 t.2) := Lib.hid (fun t ht => by
        rcases List.mem_append.1 ht with h | h
        · exact hT.out t h
        · have e : t = (m1, m2) := by simpa using h
          rw [e]; exact ⟨im1, im2⟩)
      have hlT : Hid (Hid (i + 1 = (T ++ [(m1, m2)]).length)) := Lib.hid (Lib.hid (by have := hl.out; simp; omega))
      clear s64 m64 im1 im2 hT hl
      go_upto_region 5 with fail
      refine wp_region_held_drew (S := (fun wr' => wr'.cell? ⟨g, off + i * 2, none⟩ = some (.int .i64 bs) ∧ wr'.cell? ⟨g, off + i * 2 + 1, none⟩ = some (.int .i64 bm) ∧ Below w.heap.size w wr')) (by kernel_rfl) ?_ (fun hHeld => ?_)
      · (try dsimp only); exact (fun hQ => ⟨cell_up hQ c0w.out, cell_up hQ c1w.out, hQ⟩) hB.out.drew
      try simp only [Act.put, List.setIfInBounds_toArray, List.set_cons_zero, List.set_cons_succ]
      refine wpAnyH_take (i := 0) (oi := { dst := some 27, op := Op.move (Operand.tmp 5), type := 45, pos := "law.go:114", after := #[], guard := none }) (v := ?_) rfl (by kernel_rfl) (by kernel_rfl) (by kernel_rfl) (fun _ _ _ h => h) (Or.inl ⟨by rfl, ?_⟩) (by assumption) ?_
      rotate_left 1
      · intro w hSw; (try dsimp only at hSw); go_simp <;> with_reducible rfl
      try simp only [Act.put, List.setIfInBounds_toArray, List.set_cons_zero, List.set_cons_succ]
      refine wpAnyH_take (i := 1) (oi := { dst := some 28, op := Op.move (Operand.tmp 0), type := 45, pos := "law.go:114", after := #[], guard := none }) (v := ?_) rfl (by kernel_rfl) (by kernel_rfl) (by kernel_rfl) (fun _ _ _ h => h) (Or.inl ⟨by rfl, ?_⟩) (by assumption) ?_
      rotate_left 1
      · intro w hSw; (try dsimp only at hSw); go_simp <;> with_reducible rfl
      try simp only [Act.put, List.setIfInBounds_toArray, List.set_cons_zero, List.set_cons_succ]
      refine wpAnyH_take (i := 2) (oi := { dst := some 29, op := Op.move (Operand.tmp 6), type := 3, pos := "law.go:114", after := #[], guard := none }) (v := ?_) rfl (by kernel_rfl) (by kernel_rfl) (by kernel_rfl) (fun _ _ _ h => h) (Or.inl ⟨by rfl, ?_⟩) (by assumption) ?_
      rotate_left 1
      · intro w hSw; (try dsimp only at hSw); go_simp <;> with_reducible rfl
      try simp only [Act.put, List.setIfInBounds_toArray, List.set_cons_zero, List.set_cons_succ]
      refine wpAnyH_take (i := 3) (oi := { dst := some 30, op := Op.indexAddr 45 (Operand.tmp 28) (Operand.tmp 29), type := 0, pos := "law.go:114", after := #[{ on := 1, ground := Ground.data }, { on := 2, ground := Ground.data }], guard := none }) (v := ?_) rfl (by kernel_rfl) (by kernel_rfl) (by kernel_rfl) (fun _ _ _ h => h) (Or.inl ⟨by rfl, ?_⟩) (by assumption) ?_
      rotate_left 1
      · intro w hSw; (try dsimp only at hSw); go_simp <;> with_reducible rfl
      try simp only [Act.put, List.setIfInBounds_toArray, List.set_cons_zero, List.set_cons_succ]
      refine wpAnyH_take (i := 4) (oi := { dst := some 31, op := Op.fieldAddr 47 (Operand.tmp 30) 0, type := 0, pos := "law.go:114", after := #[{ on := 3, ground := Ground.data }], guard := none }) (v := ?_) rfl (by kernel_rfl) (by kernel_rfl) (by kernel_rfl) (fun _ _ _ h => h) (Or.inl ⟨by rfl, ?_⟩) (by assumption) ?_
      rotate_left 1
      · intro w hSw; (try dsimp only at hSw); go_simp <;> with_reducible rfl
      try simp only [Act.put, List.setIfInBounds_toArray, List.set_cons_zero, List.set_cons_succ]
      refine wpAnyH_take (i := 5) (oi := { dst := some 32, op := Op.load 3 (Operand.tmp 31), type := 3, pos := "law.go:114", after := #[{ on := 4, ground := Ground.data }], guard := none }) (v := ?_) rfl (by kernel_rfl) (by kernel_rfl) (by kernel_rfl) (fun _ _ _ h => h) (Or.inl ⟨by rfl, ?_⟩) (by assumption) ?_
      rotate_left 1
      · intro w hSw; (try dsimp only at hSw); go_simp <;> with_reducible rfl
      try simp only [Act.put, List.setIfInBounds_toArray, List.set_cons_zero, List.set_cons_succ]
      refine wpAnyH_take (i := 6) (oi := { dst := some 33, op := Op.binOp BinOp.and 3 (Operand.tmp 32) (Operand.const (Value.int IntKind.i64 255)) 3, type := 3, pos := "law.go:114", after := #[{ on := 5, ground := Ground.data }], guard := none }) (v := ?_) rfl (by kernel_rfl) (by kernel_rfl) (by kernel_rfl) (fun _ _ _ h => h) (Or.inl ⟨by rfl, ?_⟩) (by assumption) ?_
      rotate_left 1
      · intro w hSw; (try dsimp only at hSw); go_simp <;> with_reducible rfl
      try simp only [Act.put, List.setIfInBounds_toArray, List.set_cons_zero, List.set_cons_succ]
      refine wpAnyH_take (i := 7) (oi := { dst := some 34, op := Op.move (Operand.tmp 0), type := 45, pos := "law.go:114", after := #[], guard := none }) (v := ?_) rfl (by kernel_rfl) (by kernel_rfl) (by kernel_rfl) (fun _ _ _ h => h) (Or.inl ⟨by rfl, ?_⟩) (by assumption) ?_
      rotate_left 1
      · intro w hSw; (try dsimp only at hSw); go_simp <;> with_reducible rfl
      try simp only [Act.put, List.setIfInBounds_toArray, List.set_cons_zero, List.set_cons_succ]
      refine wpAnyH_take (i := 8) (oi := { dst := some 35, op := Op.move (Operand.tmp 6), type := 3, pos := "law.go:114", after := #[], guard := none }) (v := ?_) rfl (by kernel_rfl) (by kernel_rfl) (by kernel_rfl) (fun _ _ _ h => h) (Or.inl ⟨by rfl, ?_⟩) (by assumption) ?_
      rotate_left 1
      · intro w hSw; (try dsimp only at hSw); go_simp <;> with_reducible rfl
      try simp only [Act.put, List.setIfInBounds_toArray, List.set_cons_zero, List.set_cons_succ]
      refine wpAnyH_take (i := 9) (oi := { dst := some 36, op := Op.indexAddr 45 (Operand.tmp 34) (Operand.tmp 35), type := 0, pos := "law.go:114", after := #[{ on := 7, ground := Ground.data }, { on := 8, ground := Ground.data }], guard := none }) (v := ?_) rfl (by kernel_rfl) (by kernel_rfl) (by kernel_rfl) (fun _ _ _ h => h) (Or.inl ⟨by rfl, ?_⟩) (by assumption) ?_
      rotate_left 1
      · intro w hSw; (try dsimp only at hSw); go_simp <;> with_reducible rfl
      try simp only [Act.put, List.setIfInBounds_toArray, List.set_cons_zero, List.set_cons_succ]
      refine wpAnyH_take (i := 10) (oi := { dst := some 37, op := Op.fieldAddr 47 (Operand.tmp 36) 1, type := 0, pos := "law.go:114", after := #[{ on := 9, ground := Ground.data }], guard := none }) (v := ?_) rfl (by kernel_rfl) (by kernel_rfl) (by kernel_rfl) (fun _ _ _ h => h) (Or.inl ⟨by rfl, ?_⟩) (by assumption) ?_
      rotate_left 1
      · intro w hSw; (try dsimp only at hSw); go_simp <;> with_reducible rfl
      try simp only [Act.put, List.setIfInBounds_toArray, List.set_cons_zero, List.set_cons_succ]
      refine wpAnyH_take (i := 11) (oi := { dst := some 38, op := Op.load 3 (Operand.tmp 37), type := 3, pos := "law.go:114", after := #[{ on := 10, ground := Ground.data }], guard := none }) (v := ?_) rfl (by kernel_rfl) (by kernel_rfl) (by kernel_rfl) (fun _ _ _ h => h) (Or.inl ⟨by rfl, ?_⟩) (by assumption) ?_
      rotate_left 1
      · intro w hSw; (try dsimp only at hSw); go_simp <;> with_reducible rfl
      try simp only [Act.put, List.setIfInBounds_toArray, List.set_cons_zero, List.set_cons_succ]
      refine wpAnyH_take (i := 12) (oi := { dst := some 39, op := Op.binOp BinOp.and 3 (Operand.tmp 38) (Operand.const (Value.int IntKind.i64 255)) 3, type := 3, pos := "law.go:114", after := #[{ on := 11, ground := Ground.data }], guard := none }) (v := ?_) rfl (by kernel_rfl) (by kernel_rfl) (by kernel_rfl) (fun _ _ _ h => h) (Or.inl ⟨by rfl, ?_⟩) (by assumption) ?_
      rotate_left 1
      · intro w hSw; (try dsimp only at hSw); go_simp <;> with_reducible rfl
      try simp only [Act.put, List.setIfInBounds_toArray, List.set_cons_zero, List.set_cons_succ]
      refine wpAnyH_take (i := 13) (oi := { dst := some 40, op := Op.build 47 #[(0, Operand.tmp 33), (1, Operand.tmp 39)], type := 47, pos := "law.go:114", after := #[{ on := 6, ground := Ground.data }, { on := 12, ground := Ground.data }], guard := none }) (v := ?_) rfl (by kernel_rfl) (by kernel_rfl) (by kernel_rfl) (fun _ _ _ h => h) (Or.inl ⟨by rfl, ?_⟩) (by assumption) ?_
      rotate_left 1
      · intro w hSw; (try dsimp only at hSw); go_simp <;> with_reducible rfl
      try simp only [Act.put, List.setIfInBounds_toArray, List.set_cons_zero, List.set_cons_succ]
      refine wpAnyH_ready (rs := [14]) (by kernel_rfl) (by simp) ?_
      refine AllReadyH.cons (o := { dst := some 41, op := Op.buildSlice 45 1 #[(0, Operand.tmp 40)], type := 45, pos := "law.go:114", after := #[{ on := 13, ground := Ground.data }], guard := none }) rfl (fun K9 hK => ?_) ?_
      · go_simp
        refine hK.out _ _ ?_ ?_
        · (try dsimp only); exact (fun hQ => ⟨cell_up hQ c0w.out, cell_up hQ c1w.out, hQ⟩) (hB.out.drew.alloc (by have := hB.out.size; simpa using this) _)
        clear hK K9 hHeld; intro hHeld
        try simp only [Act.put, List.setIfInBounds_toArray, List.set_cons_zero, List.set_cons_succ]
        refine wpAnyH_ready (rs := [15]) (by kernel_rfl) (by simp) ?_
        refine AllReadyH.cons (o := { dst := some 42, op := Op.call { callee := Callee.builtin Builtin.append, args := #[Operand.tmp 27, Operand.tmp 41], argTypes := #[45, 45] }, type := 45, pos := "law.go:114", after := #[{ on := 0, ground := Ground.data }, { on := 14, ground := Ground.data }], guard := none }) rfl (fun K9 hK => ?_) ?_
        · refine step_append_lies _ rfl (.tmp 27) (.tmp 41) 45 rfl w.heap.size 47 j0 (.agg #[.int .i64 0, .int .i64 0]) 2 16 Try.underlying45 hj0 hy0 hy1 hy2 rfl (by decide) (.slice a i c) i _ rfl (row_bel hO.out (((Below.refl wr.heap.size wr).drew).alloc (Nat.le_refl _) _)) ⟨wr.heap.size, 0, none⟩ 1 1 (pr2 [(m1, m2)]) rfl (by simp [pr2]) (rd_pair wr.drew m1 m2 47) (pr2_one _) (by omega) (by omega) (by omega) (by have := hB.out.size; simp; omega) _ rfl ?_
          intro g1 cap1 wh hown1 hgrow1 hat1 hlt1
          have hB9 := Lib.hid ((hB.out.drew.alloc (by have := hB.out.size; simpa using this) _).grown hgrow1 (by have := hB.out.size; simp; omega) (fun k hk => (hO.out.lt k hk).1))
          refine hK.out _ _ ?_ ?_
          · (try dsimp only); exact (fun hQ => ⟨cell_up hQ c0w.out, cell_up hQ c1w.out, hQ⟩) hB9.out
          clear hK K9 hHeld; intro hHeld
          try simp only [Act.put, List.setIfInBounds_toArray, List.set_cons_zero, List.set_cons_succ]
          refine wpAnyH_take (i := 16) (oi := { dst := some 5, op := Op.assign (Operand.tmp 42), type := 45, pos := "law.go:114", after := #[{ on := 15, ground := Ground.data }, { on := 15, ground := Ground.chain }, { on := 0, ground := Ground.phase }, { on := 1, ground := Ground.phase }, { on := 2, ground := Ground.phase }, { on := 3, ground := Ground.phase }, { on := 4, ground := Ground.phase }, { on := 5, ground := Ground.phase }, { on := 6, ground := Ground.phase }, { on := 7, ground := Ground.phase }, { on := 8, ground := Ground.phase }, { on := 9, ground := Ground.phase }, { on := 10, ground := Ground.phase }, { on := 11, ground := Ground.phase }, { on := 12, ground := Ground.phase }, { on := 13, ground := Ground.phase }, { on := 14, ground := Ground.phase }, { on := 15, ground := Ground.phase }], guard := none }) (v := ?_) rfl (by kernel_rfl) (by kernel_rfl) (by kernel_rfl) (fun _ _ _ h => h) (Or.inl ⟨by rfl, ?_⟩) (by assumption) ?_
          rotate_left 1
          · intro w hSw; (try dsimp only at hSw); go_simp <;> with_reducible rfl
          try simp only [Act.put, List.setIfInBounds_toArray, List.set_cons_zero, List.set_cons_succ]
          refine wpAnyH_done (by kernel_rfl) ?_ _
          have hO9 : Hid (wh.ownsRow w.heap.size 47 2 (.slice (some ⟨g1, 0, none⟩) (i + 1) cap1) (i + 1) (pr2 (T ++ [(m1, m2)]))) := Lib.hid (by rw [pr2_app]; exact hown1)
          clear hown1 hgrow1 hat1 hlt1
          go_wp2_with fail
          go_roundw
          all_goals first | exact ⟨i + 1, _, _, T ++ [(m1, m2)], by omega, by omega, by go_num, rfl, hO9, hbT, hlT.out, hB9⟩ | (simp [intOf]; omega)
        exact AllReadyH.nil
      exact AllReadyH.nil
    · have hPf0 : PrV wr (.slice a i c) T := by
        have := PrV.own (T := T) (by have := hO.out; rw [← hl.out]; exact this) (fun x hx => by
          obtain ⟨h1, h2⟩ := hT.out x hx
          unfold By8 at h1 h2
          exact ⟨in64_of (by omega) (by omega), in64_of (by omega) (by omega)⟩)
        exact this
      have hPf := Lib.hid hPf0
      clear hPf0 hO
      by_cases hin2 : i < n
      · have d1 : decide ((i : Int) < (n : Int)) = true := by simp; omega
        have d2 : decide ((i : Int) < 60) = false := by simp; omega
        have d3 : ¬ i < 60 := by omega
        have p1 : (i : Int) < (n : Int) := by omega
        go_upto_region 6 with fail
        have hTl : T.length = i := hl.out.symm
        have P := Lib.hid (K.bytes hPf.out (by omega))
        go_wp2_with fail
        with_reducible refine P.out.mono ?_
        rintro e wb ⟨vb, rfl, hvb, hb⟩
        obtain ⟨ba, bc, rfl, _⟩ := hvb.form
        have hWb := Lib.hid (hB.out.trans (hb.mono hB.out.size))
        have hF := Lib.hid (hPf.out.up hb)
        have hvb' := Lib.hid hvb
        have hbl : Hid ((bytL T).length = 2 * i) := Lib.hid (by rw [bytL_len, hTl])
        clear hvb hb P hPf hB
        have hS0 := Lib.hid (BtS.born hF.out hvb'.out hWb.out)
        obtain ⟨nb, hnb⟩ : ∃ nb, nb = (bytL T).length := ⟨_, rfl⟩
        have wl : IntKind.i64.wrap (2 * (i : Int)) = (nb : Int) := by rw [hnb, hbl.out, IntKind.wrap_i64]; omega
        rw [← hnb] at hS0 ⊢
        clear hF hvb' hWb
        have nee : ((nb : Int) != (nb : Int)) = false := by simp
        replace hnb := Lib.hid hnb
        go_upto_region 10 with fail
        have x0 := hS0.out.c0
        have x1 := hS0.out.c1
        have x2 := hS0.out.c2
        have x3 := hS0.out.c3
        rw [← hnb.out] at x3
        generalize wb.alloc (.cells #[.int .i64 0, .int .i64 0, .slice none 0 0, .slice ba nb bc] 37) = W0 at *
        generalize wb.heap.size = q at *
        clear x0 x1 x2 x3
        go_wp2
        go_loopw [55] (fun i55 wr => ∃ k : Nat, k ≤ i ∧ i55 = .int .i64 k ∧ Hid (BtS w wr q i c a ba bc T)) (fun i55 _ => i - (intOf i55).toNat)
        case atStart => exact ⟨0, by omega, rfl, hS0⟩
        case round =>
          clear hS0
          obtain ⟨k, hk, rfl, hS⟩ := hrel
          by_cases hki : k < i
          · have e1 : decide ((k : Int) < (i : Int)) = true := by simp; omega
            have e2 : (0 : Int) ≤ (k : Int) := by omega
            have e3 : (k : Int) < (i : Int) := by omega
            obtain ⟨⟨t1, t2⟩, hx⟩ : ∃ x, T[k]? = some x := ⟨T[k]'(by omega), by simp⟩
            obtain ⟨y1, y2⟩ := hT.out _ (List.mem_of_getElem? hx)
            have hf2 := fet_two hx y1 y2
            have hf3 : fetR (bytL T) (((2 * k : Nat) : Int) + 1) = (0, 0, false) := fet_no (Or.inr (Or.inl (by omega)))
            have wk : IntKind.i64.wrap (2 * (k : Int)) = ((2 * k : Nat) : Int) := by rw [IntKind.wrap_i64]; omega
            have wk1 : IntKind.i64.wrap (((2 * k : Nat) : Int) + 1) = ((2 * k : Nat) : Int) + 1 := by rw [IntKind.wrap_i64]; omega
            have k64 : In64 ((2 * k : Nat) : Int) ∧ In64 (((2 * k : Nat) : Int) + 1) := ⟨in64_of (by omega) (by omega), in64_of (by omega) (by omega)⟩
            generalize ((2 * k : Nat) : Int) = kk at *
            have P := K.fetch hS.out.me kk k64.1
            rw [hf2, ← hnb.out] at P
            replace P := Lib.hid P
            have x0 := hS.out.c0
            have x1 := hS.out.c1
            have x2 := hS.out.c2
            have x3 := hS.out.c3
            rw [← hnb.out] at x3
            go_wp2_with fail
            with_reducible refine P.out.mono ?_
            rintro e z1 ⟨rfl, hb⟩
            replace hS := Lib.hid (hS.out.up hb)
            clear hb P x0 x1 x2 x3
            have hI := Lib.hid (pairB z1 t1 t2 47)
            replace hS := Lib.hid (hS.out.up ((Below.refl _ _).alloc (Nat.le_refl _) (.cells #[.int .i64 t1, .int .i64 t2] 47)))
            go_upto_region 14 with fail
            generalize z1.alloc (.cells #[.int .i64 t1, .int .i64 t2] 47) = z2 at *
            generalize z1.heap.size = qi at *
            have P := K.fetch hS.out.me (kk + 1) k64.2
            rw [hf3, ← hnb.out] at P
            replace P := Lib.hid P
            have x0 := hS.out.c0
            have x1 := hS.out.c1
            have x2 := hS.out.c2
            have x3 := hS.out.c3
            rw [← hnb.out] at x3
            go_wp2_with fail
            with_reducible refine P.out.mono ?_
            rintro e z3 ⟨rfl, hb⟩
            replace hS := Lib.hid (hS.out.up hb)
            replace hI := Lib.hid (hI.out.up hb)
            clear hb P x0 x1 x2 x3
            replace hS := Lib.hid (hS.out.up ((Below.refl _ _).alloc (Nat.le_refl _) (.cells #[.int .i64 0, .int .i64 0] 47)))
            replace hI := Lib.hid (hI.out.up ((Below.refl _ _).alloc (Nat.le_refl _) (.cells #[.int .i64 0, .int .i64 0] 47)))
            go_upto_region 15 with fail
            generalize z3.alloc (.cells #[.int .i64 0, .int .i64 0] 47) = z4 at *
            generalize z3.heap.size = qj at *
            obtain ⟨_, _, g, off, rfl, c0, c1⟩ := hS.out.f.at hx
            simp only at c0 c1
            have i0 := hI.out.1
            have i1 := hI.out.2
            have hne : ∀ w, (binOp .neq 47 (.agg #[.int .i64 t1, .int .i64 t2]) (.agg #[.int .i64 t1, .int .i64 t2])).run Try.prog w = .ok (.bool false) w := fun w => inst_ne w t1 t2
            clear hf2 hf3 wk wk1 hx
            go_big_quiet (fail)
            go_wp2
            go_roundw
            case rel => exact ⟨k + 1, by omega, by go_num, Lib.hid (hS.out.up (drewK _ _))⟩
            case measure => simp [intOf]; omega
          · have e1 : decide ((k : Int) < (i : Int)) = false := by simp; omega
            have e2 : ¬ (k : Int) < (i : Int) := by omega
            have fe : fetR (bytL T) (nb : Int) = (0, 0, false) := fet_no (Or.inr (Or.inr (by have := hnb.out; omega)))
            have nb64 : In64 (nb : Int) := by have := hnb.out; have := hbl.out; exact in64_of (by omega) (by omega)
            have P := K.fetch hS.out.me (nb : Int) nb64
            rw [fe, ← hnb.out] at P
            replace P := Lib.hid P
            have x0 := hS.out.c0
            have x1 := hS.out.c1
            have x2 := hS.out.c2
            have x3 := hS.out.c3
            rw [← hnb.out] at x3
            have PW := Lib.hid (fun w => within40_c at_ 0 23 ha.1 ha.2 (by omega) (by omega) (by omega) w)
            have hka := within_bd at_ 0 23 (by omega)
            generalize within at_ 0 23 = ka at *
            obtain ⟨ki, rfl⟩ : ∃ k : Nat, ka = (k : Int) := ⟨ka.toNat, by omega⟩
            have hki24 : ki < 24 := by omega
            obtain ⟨tb0, tb1⟩ := tak_bd hki24
            have k64 : In64 (ki : Int) := in64_of (by omega) (by omega)
            have em : Int.tmod (ki : Int) 22 = ((ki % 22 : Nat) : Int) := by
              show Int.tmod _ ((22 : Nat) : Int) = _
              rw [← Int.ofNat_tmod]
            have m22 : ki % 22 < 22 := Nat.mod_lt _ (by omega)
            obtain ⟨n0, n1, n2⟩ := nam_ne m22
            have m64 : In64 ((ki % 22 : Nat) : Int) := in64_of (by omega) (by omega)
            have PT := Lib.hid (fun w => K.takes (ki : Int) k64 w)
            have PN := Lib.hid (fun w => K.name ((ki % 22 : Nat) : Int) m64 w)
            generalize ((ki % 22 : Nat) : Int) = km at *
            generalize takR (ki : Int) = tk at *
            generalize namR km = nm at *
            have g0 : decide (tk ≥ 0) = true := by simpa using tb0
            have g3 : decide (tk ≤ 3) = true := by simpa using tb1
            clear fe hka hki24
            go_wp2_with fail
            with_reducible refine P.out.mono ?_
            rintro e z1 ⟨rfl, hb⟩
            replace hS := Lib.hid ((hS.out.up hb).up ((Below.refl _ _).alloc (Nat.le_refl _) (.cells #[.int .i64 0, .int .i64 0] 47)))
            clear hb P x0 x1 x2 x3
            go_upto_region 19 with fail
            generalize z1.alloc (.cells #[.int .i64 0, .int .i64 0] 47) = z2 at *
            go_wp2_with fail
            with_reducible refine (PW.out _).mono ?_
            rintro e z3 ⟨rfl, hz3⟩
            subst z3
            go_wp2_with fail
            with_reducible refine (PT.out _).mono ?_
            rintro e z4 ⟨rfl, hb⟩
            replace hS := Lib.hid (hS.out.up hb)
            clear hb
            go_wp2_with fail
            with_reducible refine (PT.out _).mono ?_
            rintro e z5 ⟨rfl, hb⟩
            replace hS := Lib.hid (hS.out.up hb)
            clear hb
            go_wp2_with fail
            with_reducible refine (PN.out _).mono ?_
            rintro e z6 ⟨rfl, hb⟩
            replace hS := Lib.hid (hS.out.up hb)
            clear hb
            go_wp2_with fail
            with_reducible refine (known_c K _).mono ?_
            rintro e z7 ⟨rfl, hb⟩
            replace hS := Lib.hid (hS.out.up hb)
            go_wp2
            go_ret
            exact ⟨rfl, hS.out.bel⟩
      · have d1 : decide ((i : Int) < (n : Int)) = false := by simp; omega
        have p1 : ¬ (i : Int) < (n : Int) := by omega
        go_upto_region 6 with fail
        have hTl : T.length = i := hl.out.symm
        have P := Lib.hid (K.bytes hPf.out (by omega))
        go_wp2_with fail
        with_reducible refine P.out.mono ?_
        rintro e wb ⟨vb, rfl, hvb, hb⟩
        obtain ⟨ba, bc, rfl, _⟩ := hvb.form
        have hWb := Lib.hid (hB.out.trans (hb.mono hB.out.size))
        have hF := Lib.hid (hPf.out.up hb)
        have hvb' := Lib.hid hvb
        have hbl : Hid ((bytL T).length = 2 * i) := Lib.hid (by rw [bytL_len, hTl])
        clear hvb hb P hPf hB
        have hS0 := Lib.hid (BtS.born hF.out hvb'.out hWb.out)
        obtain ⟨nb, hnb⟩ : ∃ nb, nb = (bytL T).length := ⟨_, rfl⟩
        have wl : IntKind.i64.wrap (2 * (i : Int)) = (nb : Int) := by rw [hnb, hbl.out, IntKind.wrap_i64]; omega
        rw [← hnb] at hS0 ⊢
        clear hF hvb' hWb
        have nee : ((nb : Int) != (nb : Int)) = false := by simp
        replace hnb := Lib.hid hnb
        go_upto_region 10 with fail
        have x0 := hS0.out.c0
        have x1 := hS0.out.c1
        have x2 := hS0.out.c2
        have x3 := hS0.out.c3
        rw [← hnb.out] at x3
        generalize wb.alloc (.cells #[.int .i64 0, .int .i64 0, .slice none 0 0, .slice ba nb bc] 37) = W0 at *
        generalize wb.heap.size = q at *
        clear x0 x1 x2 x3
        go_wp2
        go_loopw [55] (fun i55 wr => ∃ k : Nat, k ≤ i ∧ i55 = .int .i64 k ∧ Hid (BtS w wr q i c a ba bc T)) (fun i55 _ => i - (intOf i55).toNat)
        case atStart => exact ⟨0, by omega, rfl, hS0⟩
        case round =>
          clear hS0
          obtain ⟨k, hk, rfl, hS⟩ := hrel
          by_cases hki : k < i
          · have e1 : decide ((k : Int) < (i : Int)) = true := by simp; omega
            have e2 : (0 : Int) ≤ (k : Int) := by omega
            have e3 : (k : Int) < (i : Int) := by omega
            obtain ⟨⟨t1, t2⟩, hx⟩ : ∃ x, T[k]? = some x := ⟨T[k]'(by omega), by simp⟩
            obtain ⟨y1, y2⟩ := hT.out _ (List.mem_of_getElem? hx)
            have hf2 := fet_two hx y1 y2
            have hf3 : fetR (bytL T) (((2 * k : Nat) : Int) + 1) = (0, 0, false) := fet_no (Or.inr (Or.inl (by omega)))
            have wk : IntKind.i64.wrap (2 * (k : Int)) = ((2 * k : Nat) : Int) := by rw [IntKind.wrap_i64]; omega
            have wk1 : IntKind.i64.wrap (((2 * k : Nat) : Int) + 1) = ((2 * k : Nat) : Int) + 1 := by rw [IntKind.wrap_i64]; omega
            have k64 : In64 ((2 * k : Nat) : Int) ∧ In64 (((2 * k : Nat) : Int) + 1) := ⟨in64_of (by omega) (by omega), in64_of (by omega) (by omega)⟩
            generalize ((2 * k : Nat) : Int) = kk at *
            have P := K.fetch hS.out.me kk k64.1
            rw [hf2, ← hnb.out] at P
            replace P := Lib.hid P
            have x0 := hS.out.c0
            have x1 := hS.out.c1
            have x2 := hS.out.c2
            have x3 := hS.out.c3
            rw [← hnb.out] at x3
            go_wp2_with fail
            with_reducible refine P.out.mono ?_
            rintro e z1 ⟨rfl, hb⟩
            replace hS := Lib.hid (hS.out.up hb)
            clear hb P x0 x1 x2 x3
            have hI := Lib.hid (pairB z1 t1 t2 47)
            replace hS := Lib.hid (hS.out.up ((Below.refl _ _).alloc (Nat.le_refl _) (.cells #[.int .i64 t1, .int .i64 t2] 47)))
            go_upto_region 14 with fail
            generalize z1.alloc (.cells #[.int .i64 t1, .int .i64 t2] 47) = z2 at *
            generalize z1.heap.size = qi at *
            have P := K.fetch hS.out.me (kk + 1) k64.2
            rw [hf3, ← hnb.out] at P
            replace P := Lib.hid P
            have x0 := hS.out.c0
            have x1 := hS.out.c1
            have x2 := hS.out.c2
            have x3 := hS.out.c3
            rw [← hnb.out] at x3
            go_wp2_with fail
            with_reducible refine P.out.mono ?_
            rintro e z3 ⟨rfl, hb⟩
            replace hS := Lib.hid (hS.out.up hb)
            replace hI := Lib.hid (hI.out.up hb)
            clear hb P x0 x1 x2 x3
            replace hS := Lib.hid (hS.out.up ((Below.refl _ _).alloc (Nat.le_refl _) (.cells #[.int .i64 0, .int .i64 0] 47)))
            replace hI := Lib.hid (hI.out.up ((Below.refl _ _).alloc (Nat.le_refl _) (.cells #[.int .i64 0, .int .i64 0] 47)))
            go_upto_region 15 with fail
            generalize z3.alloc (.cells #[.int .i64 0, .int .i64 0] 47) = z4 at *
            generalize z3.heap.size = qj at *
            obtain ⟨_, _, g, off, rfl, c0, c1⟩ := hS.out.f.at hx
            simp only at c0 c1
            have i0 := hI.out.1
            have i1 := hI.out.2
            have hne : ∀ w, (binOp .neq 47 (.agg #[.int .i64 t1, .int .i64 t2]) (.agg #[.int .i64 t1, .int .i64 t2])).run Try.prog w = .ok (.bool false) w := fun w => inst_ne w t1 t2
            clear hf2 hf3 wk wk1 hx
            go_big_quiet (fail)
            go_wp2
            go_roundw
            case rel => exact ⟨k + 1, by omega, by go_num, Lib.hid (hS.out.up (drewK _ _))⟩
            case measure => simp [intOf]; omega
          · have e1 : decide ((k : Int) < (i : Int)) = false := by simp; omega
            have e2 : ¬ (k : Int) < (i : Int) := by omega
            have fe : fetR (bytL T) (nb : Int) = (0, 0, false) := fet_no (Or.inr (Or.inr (by have := hnb.out; omega)))
            have nb64 : In64 (nb : Int) := by have := hnb.out; have := hbl.out; exact in64_of (by omega) (by omega)
            have P := K.fetch hS.out.me (nb : Int) nb64
            rw [fe, ← hnb.out] at P
            replace P := Lib.hid P
            have x0 := hS.out.c0
            have x1 := hS.out.c1
            have x2 := hS.out.c2
            have x3 := hS.out.c3
            rw [← hnb.out] at x3
            have PW := Lib.hid (fun w => within40_c at_ 0 23 ha.1 ha.2 (by omega) (by omega) (by omega) w)
            have hka := within_bd at_ 0 23 (by omega)
            generalize within at_ 0 23 = ka at *
            obtain ⟨ki, rfl⟩ : ∃ k : Nat, ka = (k : Int) := ⟨ka.toNat, by omega⟩
            have hki24 : ki < 24 := by omega
            obtain ⟨tb0, tb1⟩ := tak_bd hki24
            have k64 : In64 (ki : Int) := in64_of (by omega) (by omega)
            have em : Int.tmod (ki : Int) 22 = ((ki % 22 : Nat) : Int) := by
              show Int.tmod _ ((22 : Nat) : Int) = _
              rw [← Int.ofNat_tmod]
            have m22 : ki % 22 < 22 := Nat.mod_lt _ (by omega)
            obtain ⟨n0, n1, n2⟩ := nam_ne m22
            have m64 : In64 ((ki % 22 : Nat) : Int) := in64_of (by omega) (by omega)
            have PT := Lib.hid (fun w => K.takes (ki : Int) k64 w)
            have PN := Lib.hid (fun w => K.name ((ki % 22 : Nat) : Int) m64 w)
            generalize ((ki % 22 : Nat) : Int) = km at *
            generalize takR (ki : Int) = tk at *
            generalize namR km = nm at *
            have g0 : decide (tk ≥ 0) = true := by simpa using tb0
            have g3 : decide (tk ≤ 3) = true := by simpa using tb1
            clear fe hka hki24
            go_wp2_with fail
            with_reducible refine P.out.mono ?_
            rintro e z1 ⟨rfl, hb⟩
            replace hS := Lib.hid ((hS.out.up hb).up ((Below.refl _ _).alloc (Nat.le_refl _) (.cells #[.int .i64 0, .int .i64 0] 47)))
            clear hb P x0 x1 x2 x3
            go_upto_region 19 with fail
            generalize z1.alloc (.cells #[.int .i64 0, .int .i64 0] 47) = z2 at *
            go_wp2_with fail
            with_reducible refine (PW.out _).mono ?_
            rintro e z3 ⟨rfl, hz3⟩
            subst z3
            go_wp2_with fail
            with_reducible refine (PT.out _).mono ?_
            rintro e z4 ⟨rfl, hb⟩
            replace hS := Lib.hid (hS.out.up hb)
            clear hb
            go_wp2_with fail
            with_reducible refine (PT.out _).mono ?_
            rintro e z5 ⟨rfl, hb⟩
            replace hS := Lib.hid (hS.out.up hb)
            clear hb
            go_wp2_with fail
            with_reducible refine (PN.out _).mono ?_
            rintro e z6 ⟨rfl, hb⟩
            replace hS := Lib.hid (hS.out.up hb)
            clear hb
            go_wp2_with fail
            with_reducible refine (known_c K _).mono ?_
            rintro e z7 ⟨rfl, hb⟩
            replace hS := Lib.hid (hS.out.up hb)
            go_wp2
            go_ret
            exact ⟨rfl, hS.out.bel⟩
end Wd
end Go.Proofs.Ythlijmdohejheaa
