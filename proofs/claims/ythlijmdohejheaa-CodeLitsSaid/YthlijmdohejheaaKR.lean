/- Rows that are being written while a tape is read; the small functions of the tape's package. -/
import Derived.Test.YthlijmdohejheaaKV
namespace Go.Proofs.Ythlijmdohejheaa
open Go.RowKit
set_option linter.unusedVariables false
set_option maxRecDepth 20000
namespace Wd
/-- a row that is being written, behind the world w -/
structure Rw (w0 w wr : World) (p n : Nat) (ad : Option Addr) (v0 v : Value) (T : TypeId) (sz len : Nat) (xs : List Value) : Prop where
  ks : Ks w0 wr p n ad
  cd : wr.ownsRow w0.heap.size T sz v len xs
  cg : Cg (fun k => k = p ∨ v0.ownBlock = some k) w wr
  ob : ∀ k, v.ownBlock = some k → v0.ownBlock = some k ∨ w.heap.size ≤ k
  b0 : ∀ k, v0.ownBlock = some k → w0.heap.size ≤ k
  s0 : w0.heap.size ≤ w.heap.size
section
variable {w0 w w1 w2 : World} {p n sz len len' : Nat} {ad : Option Addr} {v v' v0 : Value} {T : TypeId} {xs xs' : List Value}
theorem Rw.start (ks : Ks w0 w p n ad) (cd : w.ownsRow w0.heap.size T sz v len xs) : Rw w0 w w p n ad v v T sz len xs :=
  ⟨ks, cd, Cg.refl _ _, fun k hk => Or.inl hk, fun k hk => (cd.lt k hk).1, ks.cg.size⟩
theorem Rw.nil (ks : Ks w0 w p n ad) (T : TypeId) (sz : Nat) : Rw w0 w w p n ad (.slice none 0 0) (.slice none 0 0) T sz 0 [] := Rw.start ks (World.ownsRow_nil _ _ _ _)
theorem Rw.keep (h : Rw w0 w w1 p n ad v0 v T sz len xs) (b : Below w1.heap.size w1 w2) : Rw w0 w w2 p n ad v0 v T sz len xs :=
  ⟨h.ks.keep b, row_cg (F := fun _ => False) h.cd (Cg.below _ b) (fun _ _ hf => hf), h.cg.trans (Cg.below _ b), h.ob, h.b0, h.s0⟩
theorem Rw.next (h : Rw w0 w w1 p n ad v0 v T sz len xs) (t : Tp w2 p ad n) (c : Cg (fun k => k = p) w1 w2) : Rw w0 w w2 p n ad v0 v T sz len xs :=
  ⟨h.ks.step t c, row_cg h.cd c (fun k hk e => by have := (h.cd.lt k hk).1; have := h.ks.p0; omega), h.cg.trans (c.mono (fun k hk => Or.inl hk)), h.ob, h.b0, h.s0⟩
theorem Rw.grow (h : Rw w0 w w1 p n ad v0 v T sz len xs) {wA : World} (hA : Below w1.heap.size w1 wA) (hown : w2.ownsRow w0.heap.size T sz v' len' xs') (hg : wA.grownBy w2 v.ownBlock) (hob : ∀ k, v'.ownBlock = some k → v.ownBlock = some k ∨ k = wA.heap.size) : Rw w0 w w2 p n ad v0 v' T sz len' xs' := by
  have hs : w1.heap.size ≤ wA.heap.size := hA.size
  have hc : Cg (fun k => v.ownBlock = some k) w1 w2 := (Cg.below _ hA).grown hg (fun k e => Or.inl e)
  refine ⟨h.ks.other hc (fun k hk => (h.cd.lt k hk).1), hown, h.cg.trans' hc (fun k hk => ?_), fun k hk => ?_, h.b0, h.s0⟩
  · rcases h.ob k hk with e | e
    · exact Or.inl (Or.inr e)
    · exact Or.inr e
  · rcases hob k hk with e | e
    · exact h.ob k e
    · have := h.cg.size
      exact Or.inr (by omega)
end
theorem row_shape {w : World} {base size n : Nat} {e : TypeId} {v : Value} {xs : List Value} (h : w.ownsRow base e size v n xs) : ∃ a c, v = .slice a n c := by
  rcases h.2 with ⟨rfl, h0⟩ | ⟨g, cap, cur, rfl, _⟩
  · exact ⟨_, _, by rw [h0]⟩
  · exact ⟨_, _, rfl⟩
theorem at_hat {a : Option Addr} {m c g1 n1 c1 H : Nat} (hat : (Value.slice a m c).ownBlock = some g1 ∨ g1 = H) : ∀ k, (Value.slice (some ⟨g1, 0, none⟩) n1 c1).ownBlock = some k → (Value.slice a m c).ownBlock = some k ∨ k = H := by
  intro k hk
  have : g1 = k := by simpa [Value.ownBlock] using hk
  subst this
  exact hat
theorem infoVal : (Try.prog.info? 41).map (fun i => (i.zero, i.size, i.bytes)) = some (some (.agg #[.int .i64 0, .int .i64 0]), 2, 16) := by kernel_rfl
theorem pair_at {w : World} {g : Nat} {x y : Int} (h0 : w.cell? ⟨g, 0, none⟩ = some (.int .i64 x)) (h1 : w.cell? ⟨g, 1, none⟩ = some (.int .i64 y)) : ∀ j u, (pr2 [(x, y)])[j]? = some u → w.cell? ((⟨g, 0, none⟩ : Addr).add j) = some u := by
  intro j u hu
  match j, hu with
  | 0, hu =>
    simp [pr2] at hu; subst hu
    rw [Addr.add_lit]; exact h0
  | 1, hu =>
    simp [pr2] at hu; subst hu
    rw [Addr.add_lit]; exact h1
/-- how many arguments a name takes -/
def argOf (s : Nat) : Int := [0, 1, 1, 2, 0, 0].getD s 0
theorem argOf_le (s : Nat) : 0 ≤ argOf s ∧ argOf s ≤ 2 := by
  unfold argOf
  match s with
  | 0 | 1 | 2 | 3 | 4 | 5 => decide
  | s + 6 => simp
theorem args_c (s : Nat) (hs : s < 6) (w : World) :
    Calls Try.prog 22 #[.int .i64 s] w fun e w' => e = .returned (.int .i64 (argOf s)) ∧ Below w.heap.size w w' := by
  rcases (show s = 0 ∨ s = 1 ∨ s = 2 ∨ s = 3 ∨ s = 4 ∨ s = 5 by omega) with rfl | rfl | rfl | rfl | rfl | rfl
  all_goals
    go_enter Try.func22, Try.ntmps22
    go_wp2
    go_ret
    exact ⟨rfl, (Below.refl _ _).alloc (Nat.le_refl _) _⟩
/-- the names -/
def nameL : List ByteArray := [⟨#[103, 111]⟩, ⟨#[100, 111, 58]⟩, ⟨#[43]⟩, ⟨#[97, 116, 58, 112, 117, 116, 58]⟩, ⟨#[120]⟩, ⟨#[121, 57]⟩]
def strs (L : List ByteArray) : List Value := L.map Value.string
theorem names_c (w : World) :
    Calls Try.prog 19 #[] w fun e w' => e = .returned (.slice (some ⟨w.heap.size, 0, none⟩) 6 6) ∧ w' = w.alloc (.cells (strs nameL).toArray 9) := by
  go_enter Try.func19, Try.ntmps19
  go_wp2
  go_ret
  exact ⟨rfl, rfl⟩
end Wd
end Go.Proofs.Ythlijmdohejheaa
