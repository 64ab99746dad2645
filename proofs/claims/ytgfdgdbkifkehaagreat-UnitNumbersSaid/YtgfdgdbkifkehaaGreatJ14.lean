/- Texts joined: UFW. -/
import Derived.Test.YtgfdgdbkifkehaaGreatJ1
import Derived.Test.YtgfdgdbkifkehaaGreatJ5
import Derived.Test.YtgfdgdbkifkehaaGreatJ13
import Derived.Deep.MidRow
/- Of a raw program no more than some. -/
namespace Go.Proofs.YtgfdgdbkifkehaaGreat
open Go.RowKit
set_option linter.unusedVariables false
set_option maxRecDepth 20000
namespace Wd
theorem take_get {α : Type} {L : List α} {n k : Nat} {x : α} (h : (L.take n)[k]? = some x) : L[k]? = some x := by
  rw [List.getElem?_take] at h
  split at h
  · exact h
  · cases h
section
variable {w : World} {ad : Option Addr} {m cap : Nat}
theorem NmV.cut {L : List ByteArray} (h : NmV w (.slice ad m cap) L) (n : Nat) : NmV w (.slice ad (L.take n).length cap) (L.take n) := by
  obtain ⟨ad', cap', e, h1, h2, h3⟩ := h.ex
  cases e
  exact ⟨ad, cap, rfl, by rw [List.length_take]; omega, h2, fun k x hx => h3 k x (take_get hx)⟩
theorem ClV.cut {L : List ClassA} (h : ClV w (.slice ad m cap) L) (n : Nat) : ClV w (.slice ad (L.take n).length cap) (L.take n) := by
  obtain ⟨ad', cap', e, h1, h2, h3⟩ := h.ex
  cases e
  exact ⟨ad, cap, rfl, by rw [List.length_take]; omega, h2, fun k x hx => h3 k x (take_get hx)⟩
theorem MtV.cut {L : List MethA} (h : MtV w (.slice ad m cap) L) (n : Nat) : MtV w (.slice ad (L.take n).length cap) (L.take n) := by
  obtain ⟨ad', cap', e, h1, h2, h3⟩ := h.ex
  cases e
  exact ⟨ad, cap, rfl, by rw [List.length_take]; omega, h2, fun k x hx => h3 k x (take_get hx)⟩
theorem ObV.cut {L : List ObjA} (h : ObV w (.slice ad m cap) L) (n : Nat) : ObV w (.slice ad (L.take n).length cap) (L.take n) := by
  obtain ⟨ad', cap', e, h1, h2, h3⟩ := h.ex
  cases e
  exact ⟨ad, cap, rfl, by rw [List.length_take]; omega, h2, fun k x hx => h3 k x (take_get hx)⟩
end
/-- the document's own cut -/
def fewU (U : UnitA) : UnitA := ⟨U.names.take 8, U.classes.take 5, U.methods.take 4, U.objects.take 6, U.main⟩
theorem min_len {l k b : Nat} (h : k = min b l) : (if (b : Int) < (l : Int) then (b : Int) else (l : Int)) = (k : Int) := by
  subst h
  split <;> omega
theorem fob_born {w : World} {x0 x1 x2 x3 : Value} {m : Int} : OB w ((w.alloc (.cells #[x0, x1, x2, x3, .int .i64 m] 27)).alloc (.cells #[.slice none 0 0, .slice none 0 0, .slice none 0 0, .slice none 0 0, .int .i64 0] 27)) x0 x1 x2 x3 m := by
  have i1 : (w.alloc (.cells #[x0, x1, x2, x3, .int .i64 m] 27)).heap.size = w.heap.size + 1 := by simp
  have hr := heap_alloc_new (w.alloc (.cells #[x0, x1, x2, x3, .int .i64 m] 27)) (.cells #[.slice none 0 0, .slice none 0 0, .slice none 0 0, .slice none 0 0, .int .i64 0] 27)
  rw [i1] at hr
  exact ⟨(World.cell?_alloc_old _ _ _ (by simp)).trans (by simp), (World.cell?_alloc_old _ _ _ (by simp)).trans (by simp), (World.cell?_alloc_old _ _ _ (by simp)).trans (by simp), (World.cell?_alloc_old _ _ _ (by simp)).trans (by simp), (World.cell?_alloc_old _ _ _ (by simp)).trans (by simp), fun j => (World.frozen?_of_block (a := ⟨w.heap.size, j, none⟩) (Below.heap_alloc _ _ _ (by simp))).trans (World.frozen?_alloc_new _ _ _ _), hr, ((Below.refl _ _).alloc (Nat.le_refl _) _).alloc (by rw [i1]; omega) _⟩
set_option maxHeartbeats 16000000 in
theorem few_c {w : World} {u : Value} {U : UnitA} (hu : UnK w u U) :
    Calls Tryz.prog 11 #[u] w fun e w' => ∃ v, e = .returned v ∧ UnK w' v (fewU U) ∧ Below w.heap.size w w' := by
  obtain ⟨na, nc, ka, kc, ma, mc, oa, oc, rfl, hU⟩ := hu.ex
  clear hu
  have hV : UnV w (.slice na (U.names.take 8).length nc) (.slice ka (U.classes.take 5).length kc) (.slice ma (U.methods.take 4).length mc) (.slice oa (U.objects.take 6).length oc) (fewU U) := ⟨hU.n.cut 8, hU.c.cut 5, hU.m.cut 4, hU.o.cut 6⟩
  have m1 := min_len (l := U.names.length) (k := (U.names.take 8).length) (b := 8) (by rw [List.length_take])
  have m2 := min_len (l := U.classes.length) (k := (U.classes.take 5).length) (b := 5) (by rw [List.length_take])
  have m3 := min_len (l := U.methods.length) (k := (U.methods.take 4).length) (b := 4) (by rw [List.length_take])
  have m4 := min_len (l := U.objects.length) (k := (U.objects.take 6).length) (b := 6) (by rw [List.length_take])
  have n1 : (U.names.take 8).length ≤ U.names.length := by rw [List.length_take]; omega
  have n2 : (U.classes.take 5).length ≤ U.classes.length := by rw [List.length_take]; omega
  have n3 : (U.methods.take 4).length ≤ U.methods.length := by rw [List.length_take]; omega
  have n4 : (U.objects.take 6).length ≤ U.objects.length := by rw [List.length_take]; omega
  have cp1 : U.names.length ≤ nc := by obtain ⟨_, _, e, h, _⟩ := hU.n.ex; cases e; exact h
  have cp2 : U.classes.length ≤ kc := by obtain ⟨_, _, e, h, _⟩ := hU.c.ex; cases e; exact h
  have cp3 : U.methods.length ≤ mc := by obtain ⟨_, _, e, h, _⟩ := hU.m.ex; cases e; exact h
  have cp4 : U.objects.length ≤ oc := by obtain ⟨_, _, e, h, _⟩ := hU.o.ex; cases e; exact h
  have mx : nc ≤ maxLen ∧ kc ≤ maxLen ∧ mc ≤ maxLen ∧ oc ≤ maxLen := by
    obtain ⟨_, _, e, _, h, _⟩ := hU.n.ex; cases e
    obtain ⟨_, _, e, _, h', _⟩ := hU.c.ex; cases e
    obtain ⟨_, _, e, _, h4, _⟩ := hU.m.ex; cases e
    obtain ⟨_, _, e, _, h5, _⟩ := hU.o.ex; cases e
    exact ⟨h, h', h4, h5⟩
  have hmv : (fewU U).main = U.main := rfl
  replace hV := Lib.hid hV.unk
  rw [hmv] at hV
  clear hU hmv
  generalize fewU U = V at *
  generalize (U.names.take 8).length = k1 at *
  generalize (U.classes.take 5).length = k2 at *
  generalize (U.methods.take 4).length = k3 at *
  generalize (U.objects.take 6).length = k4 at *
  generalize U.names.length = l1 at *
  generalize U.classes.length = l2 at *
  generalize U.methods.length = l3 at *
  generalize U.objects.length = l4 at *
  generalize U.main = mn at *
  have hB : Hid (OB w _ _ _ _ _ _) := Lib.hid (fob_born (w := w) (x0 := .slice na l1 nc) (x1 := .slice ka l2 kc) (x2 := .slice ma l3 mc) (x3 := .slice oa l4 oc) (m := mn))
  go_enter Tryz.func11, Tryz.ntmps11
  go_upto_region 1 with fail
  generalize (w.alloc (.cells #[.slice na l1 nc, .slice ka l2 kc, .slice ma l3 mc, .slice oa l4 oc, .int .i64 mn] 27)).alloc (.cells #[.slice none 0 0, .slice none 0 0, .slice none 0 0, .slice none 0 0, .int .i64 0] 27) = W at *
  have hD := Lib.hid (hB.out.up ((Below.refl _ _).drew))
  refine wp_region_D (d := 29) (S := (fun wr' => OB w wr' (.slice na l1 nc) (.slice ka l2 kc) (.slice ma l3 mc) (.slice oa l4 oc) mn)) (by kernel_rfl) ?_ (fun hHeld => ?_)
  · (try dsimp only); exact hD.out
  try simp only [Act.put, nA]
  refine wpAnyD_take (i := 0) (oi := ⟨some 3, .fieldAddr 27 (.tmp 1) 0, 0, "law.go:61", #[], none⟩) (v := ?_) rfl (by kernel_rfl) (by kernel_rfl) (by kernel_rfl) (by kernel_rfl) (by kernel_rfl) (fun _ _ _ h => h) (Or.inl ⟨by rfl, ?_⟩) (by assumption) ?_
  rotate_left 1
  · intro w hSw; (try dsimp only at hSw); go_simp <;> with_reducible rfl
  try simp only [Act.put, nA]
  refine wpAnyD_take (i := 1) (oi := ⟨some 4, .load 22 (.tmp 3), 22, "law.go:61", #[⟨0, .data⟩], none⟩) (v := ?_) rfl (by kernel_rfl) (by kernel_rfl) (by kernel_rfl) (by kernel_rfl) (by kernel_rfl) (fun _ _ _ h => h) (Or.inl ⟨by rfl, ?_⟩) (by assumption) ?_
  rotate_left 1
  · intro w hSw; (try dsimp only at hSw); have hc := hSw.c0; go_simp <;> with_reducible rfl
  try simp only [Act.put, nA]
  refine wpAnyD_take (i := 2) (oi := ⟨some 5, .fieldAddr 27 (.tmp 1) 0, 0, "law.go:61", #[], none⟩) (v := ?_) rfl (by kernel_rfl) (by kernel_rfl) (by kernel_rfl) (by kernel_rfl) (by kernel_rfl) (fun _ _ _ h => h) (Or.inl ⟨by rfl, ?_⟩) (by assumption) ?_
  rotate_left 1
  · intro w hSw; (try dsimp only at hSw); go_simp <;> with_reducible rfl
  try simp only [Act.put, nA]
  refine wpAnyD_take (i := 3) (oi := ⟨some 6, .load 22 (.tmp 5), 22, "law.go:61", #[⟨2, .data⟩], none⟩) (v := ?_) rfl (by kernel_rfl) (by kernel_rfl) (by kernel_rfl) (by kernel_rfl) (by kernel_rfl) (fun _ _ _ h => h) (Or.inl ⟨by rfl, ?_⟩) (by assumption) ?_
  rotate_left 1
  · intro w hSw; (try dsimp only at hSw); have hc := hSw.c0; go_simp <;> with_reducible rfl
  try simp only [Act.put, nA]
  refine wpAnyD_take (i := 4) (oi := ⟨some 7, .call { callee := .builtin .len, args := #[.tmp 6], argTypes := #[22] }, 3, "law.go:61", #[⟨3, .data⟩], none⟩) (v := ?_) rfl (by kernel_rfl) (by kernel_rfl) (by kernel_rfl) (by kernel_rfl) (by kernel_rfl) (fun _ _ _ h => h) (Or.inl ⟨by rfl, ?_⟩) (by assumption) ?_
  rotate_left 1
  · intro w hSw; (try dsimp only at hSw); go_simp <;> with_reducible rfl
  try simp only [Act.put, nA]
  refine wpAnyD_take (i := 5) (oi := ⟨some 8, .call { callee := .builtin .min, args := #[.tmp 7, .const (.int .i64 8)], argTypes := #[3, 3] }, 3, "law.go:61", #[⟨4, .data⟩], none⟩) (v := .int .i64 (k1 : Int)) rfl (by kernel_rfl) (by kernel_rfl) (by kernel_rfl) (by kernel_rfl) (by kernel_rfl) (fun _ _ _ h => h) (Or.inl ⟨by rfl, ?_⟩) (by assumption) ?_
  · intro w hSw; (try dsimp only at hSw); go_simp; simpa using m1
  try simp only [Act.put, nA]
  refine wpAnyD_take (i := 6) (oi := ⟨some 9, .slice 22 (.tmp 4) none (some (.tmp 8)) none, 22, "law.go:61", #[⟨1, .data⟩, ⟨5, .data⟩], none⟩) (v := .slice na k1 nc) rfl (by kernel_rfl) (by kernel_rfl) (by kernel_rfl) (by kernel_rfl) (by kernel_rfl) (fun _ _ _ h => h) (Or.inl ⟨by rfl, ?_⟩) (by assumption) ?_
  · intro w hSw; (try dsimp only at hSw); go_simp; intro hh; omega
  try simp only [Act.put, nA]
  refine wpAnyD_take (i := 7) (oi := ⟨some 10, .fieldAddr 27 (.tmp 1) 1, 0, "law.go:61", #[], none⟩) (v := ?_) rfl (by kernel_rfl) (by kernel_rfl) (by kernel_rfl) (by kernel_rfl) (by kernel_rfl) (fun _ _ _ h => h) (Or.inl ⟨by rfl, ?_⟩) (by assumption) ?_
  rotate_left 1
  · intro w hSw; (try dsimp only at hSw); go_simp <;> with_reducible rfl
  try simp only [Act.put, nA]
  refine wpAnyD_take (i := 8) (oi := ⟨some 11, .load 23 (.tmp 10), 23, "law.go:61", #[⟨7, .data⟩], none⟩) (v := ?_) rfl (by kernel_rfl) (by kernel_rfl) (by kernel_rfl) (by kernel_rfl) (by kernel_rfl) (fun _ _ _ h => h) (Or.inl ⟨by rfl, ?_⟩) (by assumption) ?_
  rotate_left 1
  · intro w hSw; (try dsimp only at hSw); have hc := hSw.c1; go_simp <;> with_reducible rfl
  try simp only [Act.put, nA]
  refine wpAnyD_take (i := 9) (oi := ⟨some 12, .fieldAddr 27 (.tmp 1) 1, 0, "law.go:61", #[], none⟩) (v := ?_) rfl (by kernel_rfl) (by kernel_rfl) (by kernel_rfl) (by kernel_rfl) (by kernel_rfl) (fun _ _ _ h => h) (Or.inl ⟨by rfl, ?_⟩) (by assumption) ?_
  rotate_left 1
  · intro w hSw; (try dsimp only at hSw); go_simp <;> with_reducible rfl
  try simp only [Act.put, nA]
  refine wpAnyD_take (i := 10) (oi := ⟨some 13, .load 23 (.tmp 12), 23, "law.go:61", #[⟨9, .data⟩], none⟩) (v := ?_) rfl (by kernel_rfl) (by kernel_rfl) (by kernel_rfl) (by kernel_rfl) (by kernel_rfl) (fun _ _ _ h => h) (Or.inl ⟨by rfl, ?_⟩) (by assumption) ?_
  rotate_left 1
  · intro w hSw; (try dsimp only at hSw); have hc := hSw.c1; go_simp <;> with_reducible rfl
  try simp only [Act.put, nA]
  refine wpAnyD_pure (i := 11) (oi := ⟨some 14, .call { callee := .builtin .len, args := #[.tmp 13], argTypes := #[23] }, 3, "law.go:61", #[⟨10, .data⟩], none⟩) (v := ?_) rfl (by kernel_rfl) (by kernel_rfl) (by kernel_rfl) (by decide) (fun _ _ _ h => h) (Or.inl ⟨by rfl, ?_⟩) (fun _ => by assumption) ?_
  rotate_left 1
  · intro w hSw; (try dsimp only at hSw); go_simp <;> with_reducible rfl
  try simp only [Act.put, nA]
  refine wpAnyD_pure (i := 12) (oi := ⟨some 15, .call { callee := .builtin .min, args := #[.tmp 14, .const (.int .i64 5)], argTypes := #[3, 3] }, 3, "law.go:61", #[⟨11, .data⟩], none⟩) (v := .int .i64 (k2 : Int)) rfl (by kernel_rfl) (by kernel_rfl) (by kernel_rfl) (by decide) (fun _ _ _ h => h) (Or.inl ⟨by rfl, ?_⟩) (fun _ => by assumption) ?_
  · intro w hSw; (try dsimp only at hSw); go_simp; simpa using m2
  try simp only [Act.put, nA]
  refine wpAnyD_pure (i := 13) (oi := ⟨some 16, .slice 23 (.tmp 11) none (some (.tmp 15)) none, 23, "law.go:61", #[⟨8, .data⟩, ⟨12, .data⟩], none⟩) (v := .slice ka k2 kc) rfl (by kernel_rfl) (by kernel_rfl) (by kernel_rfl) (by decide) (fun _ _ _ h => h) (Or.inl ⟨by rfl, ?_⟩) (fun _ => by assumption) ?_
  · intro w hSw; (try dsimp only at hSw); go_simp; intro hh; omega
  try simp only [Act.put, nA]
  refine wpAnyD_take (i := 14) (oi := ⟨some 17, .fieldAddr 27 (.tmp 1) 2, 0, "law.go:61", #[], none⟩) (v := ?_) rfl (by kernel_rfl) (by kernel_rfl) (by kernel_rfl) (by kernel_rfl) (by kernel_rfl) (fun _ _ _ h => h) (Or.inl ⟨by rfl, ?_⟩) (by assumption) ?_
  rotate_left 1
  · intro w hSw; (try dsimp only at hSw); go_simp <;> with_reducible rfl
  try simp only [Act.put, nA]
  refine wpAnyD_take (i := 15) (oi := ⟨some 18, .load 24 (.tmp 17), 24, "law.go:61", #[⟨14, .data⟩], none⟩) (v := ?_) rfl (by kernel_rfl) (by kernel_rfl) (by kernel_rfl) (by kernel_rfl) (by kernel_rfl) (fun _ _ _ h => h) (Or.inl ⟨by rfl, ?_⟩) (by assumption) ?_
  rotate_left 1
  · intro w hSw; (try dsimp only at hSw); have hc := hSw.c2; go_simp <;> with_reducible rfl
  try simp only [Act.put, nA]
  refine wpAnyD_take (i := 16) (oi := ⟨some 19, .fieldAddr 27 (.tmp 1) 2, 0, "law.go:61", #[], none⟩) (v := ?_) rfl (by kernel_rfl) (by kernel_rfl) (by kernel_rfl) (by kernel_rfl) (by kernel_rfl) (fun _ _ _ h => h) (Or.inl ⟨by rfl, ?_⟩) (by assumption) ?_
  rotate_left 1
  · intro w hSw; (try dsimp only at hSw); go_simp <;> with_reducible rfl
  try simp only [Act.put, nA]
  refine wpAnyD_take (i := 17) (oi := ⟨some 20, .load 24 (.tmp 19), 24, "law.go:61", #[⟨16, .data⟩], none⟩) (v := ?_) rfl (by kernel_rfl) (by kernel_rfl) (by kernel_rfl) (by kernel_rfl) (by kernel_rfl) (fun _ _ _ h => h) (Or.inl ⟨by rfl, ?_⟩) (by assumption) ?_
  rotate_left 1
  · intro w hSw; (try dsimp only at hSw); have hc := hSw.c2; go_simp <;> with_reducible rfl
  try simp only [Act.put, nA]
  refine wpAnyD_pure (i := 18) (oi := ⟨some 21, .call { callee := .builtin .len, args := #[.tmp 20], argTypes := #[24] }, 3, "law.go:61", #[⟨17, .data⟩], none⟩) (v := ?_) rfl (by kernel_rfl) (by kernel_rfl) (by kernel_rfl) (by decide) (fun _ _ _ h => h) (Or.inl ⟨by rfl, ?_⟩) (fun _ => by assumption) ?_
  rotate_left 1
  · intro w hSw; (try dsimp only at hSw); go_simp <;> with_reducible rfl
  try simp only [Act.put, nA]
  refine wpAnyD_pure (i := 19) (oi := ⟨some 22, .call { callee := .builtin .min, args := #[.tmp 21, .const (.int .i64 4)], argTypes := #[3, 3] }, 3, "law.go:61", #[⟨18, .data⟩], none⟩) (v := .int .i64 (k3 : Int)) rfl (by kernel_rfl) (by kernel_rfl) (by kernel_rfl) (by decide) (fun _ _ _ h => h) (Or.inl ⟨by rfl, ?_⟩) (fun _ => by assumption) ?_
  · intro w hSw; (try dsimp only at hSw); go_simp; simpa using m3
  try simp only [Act.put, nA]
  refine wpAnyD_pure (i := 20) (oi := ⟨some 23, .slice 24 (.tmp 18) none (some (.tmp 22)) none, 24, "law.go:61", #[⟨15, .data⟩, ⟨19, .data⟩], none⟩) (v := .slice ma k3 mc) rfl (by kernel_rfl) (by kernel_rfl) (by kernel_rfl) (by decide) (fun _ _ _ h => h) (Or.inl ⟨by rfl, ?_⟩) (fun _ => by assumption) ?_
  · intro w hSw; (try dsimp only at hSw); go_simp; intro hh; omega
  try simp only [Act.put, nA]
  refine wpAnyD_take (i := 21) (oi := ⟨some 24, .fieldAddr 27 (.tmp 1) 3, 0, "law.go:61", #[], none⟩) (v := ?_) rfl (by kernel_rfl) (by kernel_rfl) (by kernel_rfl) (by kernel_rfl) (by kernel_rfl) (fun _ _ _ h => h) (Or.inl ⟨by rfl, ?_⟩) (by assumption) ?_
  rotate_left 1
  · intro w hSw; (try dsimp only at hSw); go_simp <;> with_reducible rfl
  try simp only [Act.put, nA]
  refine wpAnyD_take (i := 22) (oi := ⟨some 25, .load 25 (.tmp 24), 25, "law.go:61", #[⟨21, .data⟩], none⟩) (v := ?_) rfl (by kernel_rfl) (by kernel_rfl) (by kernel_rfl) (by kernel_rfl) (by kernel_rfl) (fun _ _ _ h => h) (Or.inl ⟨by rfl, ?_⟩) (by assumption) ?_
  rotate_left 1
  · intro w hSw; (try dsimp only at hSw); have hc := hSw.c3; go_simp <;> with_reducible rfl
  try simp only [Act.put, nA]
  refine wpAnyD_take (i := 23) (oi := ⟨some 26, .fieldAddr 27 (.tmp 1) 3, 0, "law.go:61", #[], none⟩) (v := ?_) rfl (by kernel_rfl) (by kernel_rfl) (by kernel_rfl) (by kernel_rfl) (by kernel_rfl) (fun _ _ _ h => h) (Or.inl ⟨by rfl, ?_⟩) (by assumption) ?_
  rotate_left 1
  · intro w hSw; (try dsimp only at hSw); go_simp <;> with_reducible rfl
  try simp only [Act.put, nA]
  refine wpAnyD_take (i := 24) (oi := ⟨some 27, .load 25 (.tmp 26), 25, "law.go:61", #[⟨23, .data⟩], none⟩) (v := ?_) rfl (by kernel_rfl) (by kernel_rfl) (by kernel_rfl) (by kernel_rfl) (by kernel_rfl) (fun _ _ _ h => h) (Or.inl ⟨by rfl, ?_⟩) (by assumption) ?_
  rotate_left 1
  · intro w hSw; (try dsimp only at hSw); have hc := hSw.c3; go_simp <;> with_reducible rfl
  try simp only [Act.put, nA]
  refine wpAnyD_pure (i := 25) (oi := ⟨some 28, .call { callee := .builtin .len, args := #[.tmp 27], argTypes := #[25] }, 3, "law.go:61", #[⟨24, .data⟩], none⟩) (v := ?_) rfl (by kernel_rfl) (by kernel_rfl) (by kernel_rfl) (by decide) (fun _ _ _ h => h) (Or.inl ⟨by rfl, ?_⟩) (fun _ => by assumption) ?_
  rotate_left 1
  · intro w hSw; (try dsimp only at hSw); go_simp <;> with_reducible rfl
  try simp only [Act.put, nA]
  refine wpAnyD_pure (i := 26) (oi := ⟨some 29, .call { callee := .builtin .min, args := #[.tmp 28, .const (.int .i64 6)], argTypes := #[3, 3] }, 3, "law.go:61", #[⟨25, .data⟩], none⟩) (v := .int .i64 (k4 : Int)) rfl (by kernel_rfl) (by kernel_rfl) (by kernel_rfl) (by decide) (fun _ _ _ h => h) (Or.inl ⟨by rfl, ?_⟩) (fun _ => by assumption) ?_
  · intro w hSw; (try dsimp only at hSw); go_simp; simpa using m4
  try simp only [Act.put, nA]
  refine wpAnyD_pure (i := 27) (oi := ⟨some 30, .slice 25 (.tmp 25) none (some (.tmp 29)) none, 25, "law.go:61", #[⟨22, .data⟩, ⟨26, .data⟩], none⟩) (v := .slice oa k4 oc) rfl (by kernel_rfl) (by kernel_rfl) (by kernel_rfl) (by decide) (fun _ _ _ h => h) (Or.inl ⟨by rfl, ?_⟩) (fun _ => by assumption) ?_
  · intro w hSw; (try dsimp only at hSw); go_simp; intro hh; omega
  try simp only [Act.put, nA]
  refine wpAnyD_take (i := 28) (oi := ⟨some 31, .fieldAddr 27 (.tmp 1) 0, 0, "law.go:61", #[⟨0, .phase⟩, ⟨1, .phase⟩, ⟨2, .phase⟩, ⟨3, .phase⟩, ⟨4, .phase⟩, ⟨5, .phase⟩, ⟨6, .phase⟩, ⟨7, .phase⟩, ⟨8, .phase⟩, ⟨9, .phase⟩, ⟨10, .phase⟩, { on := 11, ground := Ground.textOnly Departure.lateStoresUnsure }, { on := 12, ground := Ground.textOnly Departure.lateStoresUnsure }, { on := 13, ground := Ground.textOnly Departure.lateStoresUnsure }, ⟨14, .phase⟩, ⟨15, .phase⟩, ⟨16, .phase⟩, ⟨17, .phase⟩, { on := 18, ground := Ground.textOnly Departure.lateStoresUnsure }, { on := 19, ground := Ground.textOnly Departure.lateStoresUnsure }, { on := 20, ground := Ground.textOnly Departure.lateStoresUnsure }, ⟨21, .phase⟩, ⟨22, .phase⟩, ⟨23, .phase⟩, ⟨24, .phase⟩, { on := 25, ground := Ground.textOnly Departure.lateStoresUnsure }, { on := 26, ground := Ground.textOnly Departure.lateStoresUnsure }, { on := 27, ground := Ground.textOnly Departure.lateStoresUnsure }], none⟩) (v := ?_) rfl (by kernel_rfl) (by kernel_rfl) (by kernel_rfl) (by kernel_rfl) (by kernel_rfl) (fun _ _ _ h => h) (Or.inl ⟨by rfl, ?_⟩) (by assumption) ?_
  rotate_left 1
  · intro w hSw; (try dsimp only at hSw); go_simp <;> with_reducible rfl
  try simp only [Act.put, nA]
  have z0 := hD.out.z 0
  have z1 := hD.out.z 1
  have z2 := hD.out.z 2
  have z3 := hD.out.z 3
  have cc0 := hD.out.c0
  refine wpAnyD_ready (rs := [29]) (by kernel_rfl) (by simp) ?_
  refine AllReadyD.cons (o := ⟨none, .store 22 (.tmp 31) (.tmp 9), 0, "law.go:61", #[⟨28, .data⟩, ⟨6, .data⟩, ⟨0, .phase⟩, ⟨1, .phase⟩, ⟨2, .phase⟩, ⟨3, .phase⟩, ⟨4, .phase⟩, ⟨5, .phase⟩, ⟨6, .phase⟩, ⟨7, .phase⟩, ⟨8, .phase⟩, ⟨9, .phase⟩, ⟨10, .phase⟩, { on := 11, ground := Ground.textOnly Departure.lateStoresUnsure }, { on := 12, ground := Ground.textOnly Departure.lateStoresUnsure }, { on := 13, ground := Ground.textOnly Departure.lateStoresUnsure }, ⟨14, .phase⟩, ⟨15, .phase⟩, ⟨16, .phase⟩, ⟨17, .phase⟩, { on := 18, ground := Ground.textOnly Departure.lateStoresUnsure }, { on := 19, ground := Ground.textOnly Departure.lateStoresUnsure }, { on := 20, ground := Ground.textOnly Departure.lateStoresUnsure }, ⟨21, .phase⟩, ⟨22, .phase⟩, ⟨23, .phase⟩, ⟨24, .phase⟩, { on := 25, ground := Ground.textOnly Departure.lateStoresUnsure }, { on := 26, ground := Ground.textOnly Departure.lateStoresUnsure }, { on := 27, ground := Ground.textOnly Departure.lateStoresUnsure }], none⟩) rfl (fun K9 hK => ?_) AllReadyD.nil
  go_simp
  refine shut_last hK (by kernel_rfl) ?_
  clear hK K9 hD cc0 z0 z1 z2 z3 hHeld
  replace hB := Lib.hid (hB.out.set0 (.slice na k1 nc))
  generalize W.setCell ⟨w.heap.size, 0, none⟩ (.slice na k1 nc) = W1 at *
  have hD := Lib.hid (hB.out.up ((Below.refl _ _).drew))
  have z0 := hD.out.z 0
  have z1 := hD.out.z 1
  have z2 := hD.out.z 2
  have z3 := hD.out.z 3
  try simp only [Act.put, nA]
  refine wpAnyD_pure (i := 30) (oi := ⟨some 32, .fieldAddr 27 (.tmp 1) 1, 0, "law.go:61", #[⟨0, .phase⟩, ⟨1, .phase⟩, ⟨2, .phase⟩, ⟨3, .phase⟩, ⟨4, .phase⟩, ⟨5, .phase⟩, ⟨6, .phase⟩, ⟨7, .phase⟩, ⟨8, .phase⟩, ⟨9, .phase⟩, ⟨10, .phase⟩, ⟨11, .phase⟩, ⟨12, .phase⟩, ⟨13, .phase⟩, ⟨14, .phase⟩, ⟨15, .phase⟩, ⟨16, .phase⟩, ⟨17, .phase⟩, { on := 18, ground := Ground.textOnly Departure.lateStoresUnsure }, { on := 19, ground := Ground.textOnly Departure.lateStoresUnsure }, { on := 20, ground := Ground.textOnly Departure.lateStoresUnsure }, ⟨21, .phase⟩, ⟨22, .phase⟩, ⟨23, .phase⟩, ⟨24, .phase⟩, { on := 25, ground := Ground.textOnly Departure.lateStoresUnsure }, { on := 26, ground := Ground.textOnly Departure.lateStoresUnsure }, { on := 27, ground := Ground.textOnly Departure.lateStoresUnsure }, ⟨28, .phase⟩, ⟨29, .phase⟩], none⟩) (v := ?_) rfl (by kernel_rfl) (by kernel_rfl) (by kernel_rfl) (by decide) (fun _ _ _ h => h) (Or.inl ⟨by rfl, ?_⟩) (fun e => absurd (Eq.trans (Eq.symm (by kernel_rfl : _ = true)) e) (by decide)) ?_
  rotate_left 1
  · intro w hSw; go_simp <;> with_reducible rfl
  try simp only [Act.put, nA]
  have cc1 := hD.out.c1
  refine wpAnyD_ready (rs := [31]) (by kernel_rfl) (by simp) ?_
  refine AllReadyD.cons (o := ⟨none, .store 23 (.tmp 32) (.tmp 16), 0, "law.go:61", #[⟨30, .data⟩, ⟨13, .data⟩, ⟨29, .chain⟩, ⟨0, .phase⟩, ⟨1, .phase⟩, ⟨2, .phase⟩, ⟨3, .phase⟩, ⟨4, .phase⟩, ⟨5, .phase⟩, ⟨6, .phase⟩, ⟨7, .phase⟩, ⟨8, .phase⟩, ⟨9, .phase⟩, ⟨10, .phase⟩, ⟨11, .phase⟩, ⟨12, .phase⟩, ⟨13, .phase⟩, ⟨14, .phase⟩, ⟨15, .phase⟩, ⟨16, .phase⟩, ⟨17, .phase⟩, { on := 18, ground := Ground.textOnly Departure.lateStoresUnsure }, { on := 19, ground := Ground.textOnly Departure.lateStoresUnsure }, { on := 20, ground := Ground.textOnly Departure.lateStoresUnsure }, ⟨21, .phase⟩, ⟨22, .phase⟩, ⟨23, .phase⟩, ⟨24, .phase⟩, { on := 25, ground := Ground.textOnly Departure.lateStoresUnsure }, { on := 26, ground := Ground.textOnly Departure.lateStoresUnsure }, { on := 27, ground := Ground.textOnly Departure.lateStoresUnsure }, ⟨28, .phase⟩, ⟨29, .phase⟩], none⟩) rfl (fun K9 hK => ?_) AllReadyD.nil
  go_simp
  refine shut_last hK (by kernel_rfl) ?_
  clear hK K9 hD cc1 z0 z1 z2 z3
  replace hB := Lib.hid (hB.out.set1 (.slice ka k2 kc))
  generalize W1.setCell ⟨w.heap.size, 1, none⟩ (.slice ka k2 kc) = W2 at *
  have hD := Lib.hid (hB.out.up ((Below.refl _ _).drew))
  have z0 := hD.out.z 0
  have z1 := hD.out.z 1
  have z2 := hD.out.z 2
  have z3 := hD.out.z 3
  try simp only [Act.put, nA]
  refine wpAnyD_pure (i := 32) (oi := ⟨some 33, .fieldAddr 27 (.tmp 1) 2, 0, "law.go:61", #[⟨0, .phase⟩, ⟨1, .phase⟩, ⟨2, .phase⟩, ⟨3, .phase⟩, ⟨4, .phase⟩, ⟨5, .phase⟩, ⟨6, .phase⟩, ⟨7, .phase⟩, ⟨8, .phase⟩, ⟨9, .phase⟩, ⟨10, .phase⟩, ⟨11, .phase⟩, ⟨12, .phase⟩, ⟨13, .phase⟩, ⟨14, .phase⟩, ⟨15, .phase⟩, ⟨16, .phase⟩, ⟨17, .phase⟩, ⟨18, .phase⟩, ⟨19, .phase⟩, ⟨20, .phase⟩, ⟨21, .phase⟩, ⟨22, .phase⟩, ⟨23, .phase⟩, ⟨24, .phase⟩, { on := 25, ground := Ground.textOnly Departure.lateStoresUnsure }, { on := 26, ground := Ground.textOnly Departure.lateStoresUnsure }, { on := 27, ground := Ground.textOnly Departure.lateStoresUnsure }, ⟨28, .phase⟩, ⟨29, .phase⟩, ⟨30, .phase⟩, ⟨31, .phase⟩], none⟩) (v := ?_) rfl (by kernel_rfl) (by kernel_rfl) (by kernel_rfl) (by decide) (fun _ _ _ h => h) (Or.inl ⟨by rfl, ?_⟩) (fun e => absurd (Eq.trans (Eq.symm (by kernel_rfl : _ = true)) e) (by decide)) ?_
  rotate_left 1
  · intro w hSw; go_simp <;> with_reducible rfl
  try simp only [Act.put, nA]
  have cc2 := hD.out.c2
  refine wpAnyD_ready (rs := [33]) (by kernel_rfl) (by simp) ?_
  refine AllReadyD.cons (o := ⟨none, .store 24 (.tmp 33) (.tmp 23), 0, "law.go:61", #[⟨32, .data⟩, ⟨20, .data⟩, ⟨31, .chain⟩, ⟨0, .phase⟩, ⟨1, .phase⟩, ⟨2, .phase⟩, ⟨3, .phase⟩, ⟨4, .phase⟩, ⟨5, .phase⟩, ⟨6, .phase⟩, ⟨7, .phase⟩, ⟨8, .phase⟩, ⟨9, .phase⟩, ⟨10, .phase⟩, ⟨11, .phase⟩, ⟨12, .phase⟩, ⟨13, .phase⟩, ⟨14, .phase⟩, ⟨15, .phase⟩, ⟨16, .phase⟩, ⟨17, .phase⟩, ⟨18, .phase⟩, ⟨19, .phase⟩, ⟨20, .phase⟩, ⟨21, .phase⟩, ⟨22, .phase⟩, ⟨23, .phase⟩, ⟨24, .phase⟩, { on := 25, ground := Ground.textOnly Departure.lateStoresUnsure }, { on := 26, ground := Ground.textOnly Departure.lateStoresUnsure }, { on := 27, ground := Ground.textOnly Departure.lateStoresUnsure }, ⟨28, .phase⟩, ⟨29, .phase⟩, ⟨30, .phase⟩, ⟨31, .phase⟩], none⟩) rfl (fun K9 hK => ?_) AllReadyD.nil
  go_simp
  refine shut_last hK (by kernel_rfl) ?_
  clear hK K9 hD cc2 z0 z1 z2 z3
  replace hB := Lib.hid (hB.out.set2 (.slice ma k3 mc))
  generalize W2.setCell ⟨w.heap.size, 2, none⟩ (.slice ma k3 mc) = W3 at *
  have hD := Lib.hid (hB.out.up ((Below.refl _ _).drew))
  have z0 := hD.out.z 0
  have z1 := hD.out.z 1
  have z2 := hD.out.z 2
  have z3 := hD.out.z 3
  try simp only [Act.put, nA]
  refine wpAnyD_pure (i := 34) (oi := ⟨some 34, .fieldAddr 27 (.tmp 1) 3, 0, "law.go:61", #[⟨0, .phase⟩, ⟨1, .phase⟩, ⟨2, .phase⟩, ⟨3, .phase⟩, ⟨4, .phase⟩, ⟨5, .phase⟩, ⟨6, .phase⟩, ⟨7, .phase⟩, ⟨8, .phase⟩, ⟨9, .phase⟩, ⟨10, .phase⟩, ⟨11, .phase⟩, ⟨12, .phase⟩, ⟨13, .phase⟩, ⟨14, .phase⟩, ⟨15, .phase⟩, ⟨16, .phase⟩, ⟨17, .phase⟩, ⟨18, .phase⟩, ⟨19, .phase⟩, ⟨20, .phase⟩, ⟨21, .phase⟩, ⟨22, .phase⟩, ⟨23, .phase⟩, ⟨24, .phase⟩, ⟨25, .phase⟩, ⟨26, .phase⟩, ⟨27, .phase⟩, ⟨28, .phase⟩, ⟨29, .phase⟩, ⟨30, .phase⟩, ⟨31, .phase⟩, ⟨32, .phase⟩, ⟨33, .phase⟩], none⟩) (v := ?_) rfl (by kernel_rfl) (by kernel_rfl) (by kernel_rfl) (by decide) (fun _ _ _ h => h) (Or.inl ⟨by rfl, ?_⟩) (fun e => absurd (Eq.trans (Eq.symm (by kernel_rfl : _ = true)) e) (by decide)) ?_
  rotate_left 1
  · intro w hSw; go_simp <;> with_reducible rfl
  try simp only [Act.put, nA]
  have cc3 := hD.out.c3
  refine wpAnyD_ready (rs := [35]) (by kernel_rfl) (by simp) ?_
  refine AllReadyD.cons (o := ⟨none, .store 25 (.tmp 34) (.tmp 30), 0, "law.go:61", #[⟨34, .data⟩, ⟨27, .data⟩, ⟨33, .chain⟩, ⟨0, .phase⟩, ⟨1, .phase⟩, ⟨2, .phase⟩, ⟨3, .phase⟩, ⟨4, .phase⟩, ⟨5, .phase⟩, ⟨6, .phase⟩, ⟨7, .phase⟩, ⟨8, .phase⟩, ⟨9, .phase⟩, ⟨10, .phase⟩, ⟨11, .phase⟩, ⟨12, .phase⟩, ⟨13, .phase⟩, ⟨14, .phase⟩, ⟨15, .phase⟩, ⟨16, .phase⟩, ⟨17, .phase⟩, ⟨18, .phase⟩, ⟨19, .phase⟩, ⟨20, .phase⟩, ⟨21, .phase⟩, ⟨22, .phase⟩, ⟨23, .phase⟩, ⟨24, .phase⟩, ⟨25, .phase⟩, ⟨26, .phase⟩, ⟨27, .phase⟩, ⟨28, .phase⟩, ⟨29, .phase⟩, ⟨30, .phase⟩, ⟨31, .phase⟩, ⟨32, .phase⟩, ⟨33, .phase⟩], none⟩) rfl (fun K9 hK => ?_) AllReadyD.nil
  go_simp
  refine shut_last hK (by kernel_rfl) ?_
  clear hK K9 hD cc3 z0 z1 z2 z3
  replace hB := Lib.hid (hB.out.set3 (.slice oa k4 oc))
  generalize W3.setCell ⟨w.heap.size, 3, none⟩ (.slice oa k4 oc) = W4 at *
  have hD := Lib.hid (hB.out.up ((Below.refl _ _).drew))
  have z0 := hD.out.z 0
  have z1 := hD.out.z 1
  have z2 := hD.out.z 2
  have z3 := hD.out.z 3
  try simp only [Act.put, nA]
  refine wpAnyD_done (by kernel_rfl) ?_ _
  generalize W4.drew = Wd at *
  have x0 := hD.out.c0
  have x1 := hD.out.c1
  have x2 := hD.out.c2
  have x3 := hD.out.c3
  have x4 := hD.out.c4
  have hh := hD.out.r
  have y0 : Wd.cell? ⟨w.heap.size + 1, 0, none⟩ = some (.slice none 0 0) := cell_in hh rfl
  have y1 : Wd.cell? ⟨w.heap.size + 1, 1, none⟩ = some (.slice none 0 0) := cell_in hh rfl
  have y2 : Wd.cell? ⟨w.heap.size + 1, 2, none⟩ = some (.slice none 0 0) := cell_in hh rfl
  have y3 : Wd.cell? ⟨w.heap.size + 1, 3, none⟩ = some (.slice none 0 0) := cell_in hh rfl
  have y4 : Wd.cell? ⟨w.heap.size + 1, 4, none⟩ = some (.int .i64 0) := cell_in hh rfl
  have q0 : Wd.frozen? ⟨w.heap.size + 1, 0, none⟩ = false := loose_in hh
  have q1 : Wd.frozen? ⟨w.heap.size + 1, 1, none⟩ = false := loose_in hh
  have q2 : Wd.frozen? ⟨w.heap.size + 1, 2, none⟩ = false := loose_in hh
  have q3 : Wd.frozen? ⟨w.heap.size + 1, 3, none⟩ = false := loose_in hh
  have q4 : Wd.frozen? ⟨w.heap.size + 1, 4, none⟩ = false := loose_in hh
  obtain ⟨r0, r1, r2, r3, r4⟩ := set5_at (v0 := .slice na k1 nc) (v1 := .slice ka k2 kc) (v2 := .slice ma k3 mc) (v3 := .slice oa k4 oc) (v4 := .int .i64 mn) y0 y1 y2 y3 y4
  have hbel : Hid (Below w.heap.size w (set5 Wd (w.heap.size + 1) (.slice na k1 nc) (.slice ka k2 kc) (.slice ma k3 mc) (.slice oa k4 oc) (.int .i64 mn))) := Lib.hid (((((hD.out.bel.setCell (by simp only; omega) _).setCell (by simp only; omega) _).setCell (by simp only; omega) _).setCell (by simp only; omega) _).setCell (by simp only; omega) _)
  clear hh hB m1 m2 m3 m4 n1 n2 n3 n4 cp1 cp2 cp3 cp4 mx z0 z1 z2 z3
  go_wp2
  refine bodyPost_ret (by simp [results, Tryz.results11, go_sem, r0, r1, r2, r3, r4]; try rfl) rfl ?_
  exact ⟨_, rfl, hV.out.up hbel.out, hbel.out⟩
end Wd
end Go.Proofs.YtgfdgdbkifkehaaGreat
