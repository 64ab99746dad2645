/- Instructions that are written: what a row of bytes is while a tape is read, and 'op'. -/
import Derived.Test.YthlijmdohejheaaKB
namespace Go.Proofs.Ythlijmdohejheaa
open Go.RowKit
set_option linter.unusedVariables false
set_option maxRecDepth 20000
namespace Wd
def bys (L : List Int) : List Value := L.map (.int .u8)
theorem infoB8 : (Try.prog.info? 5).map (fun i => (i.zero, i.size, i.bytes)) = some (some (.int .u8 0), 1, 1) := by kernel_rfl
theorem bys_one (L : List Int) : ∀ u ∈ bys L, u.oneCell' = true := by
  intro u hu
  obtain ⟨x, _, rfl⟩ := List.mem_map.1 hu
  rfl
theorem bys_two {w : World} {g : Nat} {x y : Int} (h0 : w.cell? ⟨g, 0, none⟩ = some (.int .u8 x)) (h1 : w.cell? ⟨g, 1, none⟩ = some (.int .u8 y)) : ∀ j u, (bys [x, y])[j]? = some u → w.cell? ((⟨g, 0, none⟩ : Addr).add j) = some u := by
  intro j u hu
  match j, hu with
  | 0, hu =>
    simp [bys] at hu; subst hu
    rw [Addr.add_lit]; exact h0
  | 1, hu =>
    simp [bys] at hu; subst hu
    rw [Addr.add_lit]; exact h1
/-- the state while a tape is read: from w0 on nothing was turned but the tape -/
structure Ks (w0 w : World) (p n : Nat) (ad : Option Addr) : Prop where
  tp : Tp w p ad n
  cg : Cg (fun k => k = p) w0 w
  t0 : ∀ k, TF p n ad k → k < w0.heap.size
theorem row_cg {w w1 : World} {base : Nat} {e : TypeId} {size n : Nat} {v : Value} {xs : List Value} {F : Nat → Prop} (h : w.ownsRow base e size v n xs) (c : Cg F w w1) (hF : ∀ k, v.ownBlock = some k → ¬ F k) : w1.ownsRow base e size v n xs := by
  obtain ⟨h1, h2⟩ := h
  refine ⟨h1, ?_⟩
  rcases h2 with hh | ⟨g, cap, cur, e1, e2, e3, e4⟩
  · exact Or.inl hh
  · exact Or.inr ⟨g, cap, cur, e1, e2, (c.block g (Array.getElem?_eq_some_iff.1 e3).1 (hF g (by rw [e1]; rfl))).trans e3, e4⟩
section
variable {w0 w w1 w2 : World} {p n : Nat} {ad : Option Addr} {v v' v0 : Value} {C : List Int}
theorem Ks.start (h : Tp w p ad n) : Ks w w p n ad := ⟨h, Cg.refl _ _, fun k hk => h.tf hk⟩
theorem Ks.step (h : Ks w0 w p n ad) (t : Tp w1 p ad n) (c : Cg (fun k => k = p) w w1) : Ks w0 w1 p n ad := ⟨t, h.cg.trans c, h.t0⟩
theorem Ks.other (h : Ks w0 w p n ad) {F : Nat → Prop} (c : Cg F w w1) (hF : ∀ k, F k → w0.heap.size ≤ k) : Ks w0 w1 p n ad :=
  ⟨h.tp.cg c (fun k hk ht => by have := hF k hk; have := h.t0 k ht; omega), h.cg.trans' c (fun k hk => Or.inr (hF k hk)), h.t0⟩
theorem Ks.keep (h : Ks w0 w p n ad) (b : Below w.heap.size w w1) : Ks w0 w1 p n ad := h.other (F := fun _ => False) (Cg.below _ b) (fun k hk => hk.elim)
theorem Ks.p0 (h : Ks w0 w p n ad) : p < w0.heap.size := h.t0 p (Or.inl rfl)
/-- a row of bytes that is being written, behind the world w -/
structure Pc (w0 w wr : World) (p n : Nat) (ad : Option Addr) (v0 v : Value) (C : List Int) : Prop where
  ks : Ks w0 wr p n ad
  cd : wr.ownsRow w0.heap.size 5 1 v C.length (bys C)
  cg : Cg (fun k => k = p ∨ v0.ownBlock = some k) w wr
  ob : ∀ k, v.ownBlock = some k → v0.ownBlock = some k ∨ w.heap.size ≤ k
  b0 : ∀ k, v0.ownBlock = some k → w0.heap.size ≤ k
  s0 : w0.heap.size ≤ w.heap.size
theorem Pc.start (ks : Ks w0 w p n ad) (cd : w.ownsRow w0.heap.size 5 1 v C.length (bys C)) : Pc w0 w w p n ad v v C :=
  ⟨ks, cd, Cg.refl _ _, fun k hk => Or.inl hk, fun k hk => (cd.lt k hk).1, ks.cg.size⟩
theorem Pc.keep (h : Pc w0 w w1 p n ad v0 v C) (b : Below w1.heap.size w1 w2) : Pc w0 w w2 p n ad v0 v C :=
  ⟨h.ks.keep b, row_cg (F := fun _ => False) h.cd (Cg.below _ b) (fun _ _ hf => hf), h.cg.trans (Cg.below _ b), h.ob, h.b0, h.s0⟩
theorem Pc.next (h : Pc w0 w w1 p n ad v0 v C) (t : Tp w2 p ad n) (c : Cg (fun k => k = p) w1 w2) : Pc w0 w w2 p n ad v0 v C :=
  ⟨h.ks.step t c, row_cg h.cd c (fun k hk e => by have := (h.cd.lt k hk).1; have := h.ks.p0; omega), h.cg.trans (c.mono (fun k hk => Or.inl hk)), h.ob, h.b0, h.s0⟩
theorem Pc.grow (h : Pc w0 w w1 p n ad v0 v C) {wA : World} {t : TypeId} {c : Array Value} (hA : wA = w1.alloc (.cells c t)) {C' : List Int} (hown : w2.ownsRow w0.heap.size 5 1 v' C'.length (bys C')) (hg : wA.grownBy w2 v.ownBlock) (hob : ∀ k, v'.ownBlock = some k → v.ownBlock = some k ∨ k = wA.heap.size) : Pc w0 w w2 p n ad v0 v' C' := by
  subst hA
  have hs : w1.heap.size ≤ (w1.alloc (.cells c t)).heap.size := by simp
  have hc : Cg (fun k => v.ownBlock = some k) w1 w2 := ((Cg.refl _ w1).alloc _).grown hg (fun k e => Or.inl e)
  refine ⟨h.ks.other hc (fun k hk => (h.cd.lt k hk).1), hown, h.cg.trans' hc (fun k hk => ?_), fun k hk => ?_, h.b0, h.s0⟩
  · rcases h.ob k hk with e | e
    · exact Or.inl (Or.inr e)
    · exact Or.inr e
  · rcases hob k hk with e | e
    · exact h.ob k e
    · have := h.cg.size
      exact Or.inr (by omega)
end
def wr8 (x : Int) : Int := IntKind.u8.wrap x
set_option maxHeartbeats 16000000 in
/-- an instruction is written -/
theorem op_c2 {w0 w wr : World} {p n : Nat} {ad : Option Addr} {v0 v : Value} {C : List Int} (h : Pc w0 w wr p n ad v0 v C) (hl : C.length ≤ 100000) (o a : Int) :
    Calls Try.prog 33 #[v, .int .i64 o, .int .i64 a] wr fun e w' => ∃ v', e = .returned v' ∧ Pc w0 w w' p n ad v0 v' (C ++ [wr8 o, wr8 a]) ∧ Cg (fun k => v.ownBlock = some k) wr w' ∧ (∀ k, v'.ownBlock = some k → v.ownBlock = some k ∨ wr.heap.size ≤ k) := by
  obtain ⟨i0, hi0, hz0, hz1, hz2⟩ := info_parts infoB8
  have hmx : 200000 ≤ maxLen := by decide
  have hsz : w0.heap.size ≤ wr.heap.size := h.ks.cg.size
  replace h := Lib.hid h
  unfold wr8
  generalize ho : IntKind.u8.wrap o = o' at *
  generalize ha : IntKind.u8.wrap a = a' at *
  have hcd := Lib.hid h.out.cd
  go_enter Try.func33, Try.ntmps33
  go_wp2_with (first | (at_builtin; refine wpList_append_lies _ rfl (.tmp 7) (.tmp 12) 35 rfl w0.heap.size 5 i0 (.int .u8 0) 1 1 Try.underlying35 hi0 hz0 hz1 hz2 rfl (by decide) v C.length _ (by simp [Act.eval]) (hcd.out.alloc _) ⟨wr.heap.size, 0, none⟩ 2 2 (bys [o', a']) (by simp [Act.eval]) (by simp [bys]) (bys_two ((World.cell?_alloc_new _ _ _ 0).trans rfl) ((World.cell?_alloc_new _ _ _ 1).trans rfl)) (bys_one _) (by omega) (by omega) (by omega) (by simp; omega) _ rfl ?_; intro g cap w1 hown1 hgrow1 hat1 hlt1))
  go_ret
  have hlen : (C ++ [o', a']).length = C.length + 2 := by simp
  have he : bys C ++ bys [o', a'] = bys (C ++ [o', a']) := by simp [bys]
  rw [he] at hown1
  refine ⟨_, rfl, h.out.grow rfl (by rw [hlen]; exact hown1) hgrow1 (fun k hk => ?_), ((Cg.refl _ wr).alloc _).grown hgrow1 (fun k e => Or.inl e), fun k hk => ?_⟩
  · cases hk
    exact hat1
  · cases hk
    rcases hat1 with e | e
    · exact Or.inl e
    · exact Or.inr (by rw [e]; simp)
theorem op_c {w0 w wr : World} {p n : Nat} {ad : Option Addr} {v0 v : Value} {C : List Int} (h : Pc w0 w wr p n ad v0 v C) (hl : C.length ≤ 100000) (o a : Int) :
    Calls Try.prog 33 #[v, .int .i64 o, .int .i64 a] wr fun e w' => ∃ v', e = .returned v' ∧ Pc w0 w w' p n ad v0 v' (C ++ [wr8 o, wr8 a]) := by
  refine (op_c2 h hl o a).mono ?_
  rintro e w' ⟨v', he, h', _⟩
  exact ⟨v', he, h'⟩
end Wd
end Go.Proofs.Ythlijmdohejheaa
