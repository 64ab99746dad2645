/- Texts joined: WM, WG, WN, UOV, UTP, WO, WP, WS. -/
import Derived.Test.YteiejjmhmmkdhaaJ1
import Derived.Test.YteiejjmhmmkdhaaJ7
import Derived.Test.YteiejjmhmmkdhaaJ9
import Derived.Test.YteiejjmhmmkdhaaJ12
import Derived.Test.YteiejjmhmmkdhaaJ13
import Derived.Maps.AppendAt
import Derived.Deep.AppendLies
import Derived.SizedLaws
import Derived.ProofKit
import Derived.OpenShut
import Derived.Carry
/- Load: what holds while objects are made. -/
namespace Go.Proofs.Yteiejjmhmmkdhaa
open Go.RowKit
set_option linter.unusedVariables false
set_option maxRecDepth 20000
namespace Wd
def noP (Q : Exit → Act → World → Prop) : Exit → Act → World → Prop := fun x a w => match x with
  | .panic _ => False
  | e => Q e a w
theorem wp_noP {P : Program} {Q : Exit → Act → World → Prop} {c : Code} {a : Act} {w : World} (h : c.wp P (noP Q) a w) : c.wp P Q a w :=
  Code.wp_mono (fun e a w h => by cases e <;> first | exact h | exact h.elim) h
theorem noP_normal {Q : Exit → Act → World → Prop} {a : Act} {w : World} (h : Q .normal a w) : noP Q .normal a w := h
theorem Cg.belowB {F : Nat → Prop} {w w1 w2 : World} (h : Cg F w w1) (b : Below w.heap.size w1 w2) : Cg F w w2 :=
  ⟨b.os.trans h.os, b.tape.trans h.tape, b.output.trans h.output, Nat.le_trans h.size b.size, fun k hk hF => (b.block k hk).trans (h.block k hk hF)⟩
theorem Cg.toB {w w' : World} {F0 : Nat → Prop} {B : Nat} (c : Cg F0 w w') (hB : B ≤ w.heap.size) (hF0 : ∀ k, F0 k → B ≤ k) : Below B w w' :=
  ⟨c.os, c.tape, c.output, c.size, fun k hk => c.block k (by omega) (fun e => by have := hF0 k e; omega)⟩
/-- while Load makes objects: its boxes, the row of identities, who keeps objects -/
structure LdI {σ : Type} (P : World → σ → (Nat → Prop) → Prop) (w0 : World) (F0 : Nat → Prop) (oa : Option Addr) (n oc : Nat) (wr : World) (iv : Value) (T : σ) (F : Nat → Prop) (ids : List Int) : Prop where
  cg : Cg F0 w0 wr
  sz : w0.heap.size + 3 ≤ wr.heap.size
  st : P wr T F
  nF : ∀ k, F k → (F0 k ∧ k < w0.heap.size) ∨ w0.heap.size + 3 ≤ k
  b3 : wr.cell? ⟨w0.heap.size, 3, none⟩ = some (.slice oa n oc)
  c4 : wr.cell? ⟨w0.heap.size + 1, 0, none⟩ = some iv
  z4 : wr.frozen? ⟨w0.heap.size + 1, 0, none⟩ = false
  c5 : wr.cell? ⟨w0.heap.size + 1 + 1, 0, none⟩ = some (.bool false)
  z5 : wr.frozen? ⟨w0.heap.size + 1 + 1, 0, none⟩ = false
  own : wr.ownsRow 0 3 1 iv ids.length (ints ids)
  of : ∀ k, iv.ownBlock = some k → ¬ F k ∧ w0.heap.size + 3 ≤ k
section
variable {σ : Type} {P : World → σ → (Nat → Prop) → Prop} {w0 wr w' w2 : World} {F0 F F' : Nat → Prop} {oa : Option Addr} {n oc : Nat} {iv iv' : Value} {T T' : σ} {ids : List Int}
theorem LdI.same (h : LdI P w0 F0 oa n oc wr iv T F ids) (hP : P w' T' F) (hc : Cg F0 w0 w') (e : ∀ k, k < wr.heap.size → ¬ F k → w'.heap[k]? = wr.heap[k]?) (hs : wr.heap.size ≤ w'.heap.size) : LdI P w0 F0 oa n oc w' iv T' F ids := by
  have hz := h.sz
  have o : ∀ j, j < 3 → w'.heap[w0.heap.size + j]? = wr.heap[w0.heap.size + j]? := fun j hj => e _ (by omega) (fun hF => by rcases h.nF _ hF with h1 | h1 <;> omega)
  exact ⟨hc, Nat.le_trans hz hs, hP, h.nF, (World.cell?_of_block (a := ⟨w0.heap.size, 3, none⟩) (o 0 (by omega))).trans h.b3, (World.cell?_of_block (a := ⟨w0.heap.size + 1, 0, none⟩) (o 1 (by omega))).trans h.c4, (World.frozen?_of_block (a := ⟨w0.heap.size + 1, 0, none⟩) (o 1 (by omega))).trans h.z4, (World.cell?_of_block (a := ⟨w0.heap.size + 1 + 1, 0, none⟩) (o 2 (by omega))).trans h.c5, (World.frozen?_of_block (a := ⟨w0.heap.size + 1 + 1, 0, none⟩) (o 2 (by omega))).trans h.z5, own_same h.own (fun k hk => e k (own_lt h.own k hk) (h.of k hk).1) hs, h.of⟩
theorem LdI.stp (h : LdI P w0 F0 oa n oc wr iv T F ids) (hP : P w' T' F') (c : Cg F wr w') (hn : ∀ k, F' k → F k ∨ wr.heap.size ≤ k) (hF0 : ∀ k, F0 k → k < w0.heap.size) (hlt : ∀ k, iv.ownBlock = some k → k < wr.heap.size) : LdI P w0 F0 oa n oc w' iv T' F' ids := by
  have hz := h.sz
  have o : ∀ j, j < 3 → w'.heap[w0.heap.size + j]? = wr.heap[w0.heap.size + j]? := fun j hj => c.block _ (by omega) (fun hF => by rcases h.nF _ hF with h1 | h1 <;> omega)
  refine ⟨h.cg.trans' c (fun k hk => (h.nF k hk).elim (fun e => Or.inl e.1) (fun e => Or.inr (by omega))), Nat.le_trans hz c.size, hP, fun k hk => (hn k hk).elim (h.nF k) (fun e => Or.inr (by omega)), (World.cell?_of_block (a := ⟨w0.heap.size, 3, none⟩) (o 0 (by omega))).trans h.b3, (World.cell?_of_block (a := ⟨w0.heap.size + 1, 0, none⟩) (o 1 (by omega))).trans h.c4, (World.frozen?_of_block (a := ⟨w0.heap.size + 1, 0, none⟩) (o 1 (by omega))).trans h.z4, (World.cell?_of_block (a := ⟨w0.heap.size + 1 + 1, 0, none⟩) (o 2 (by omega))).trans h.c5, (World.frozen?_of_block (a := ⟨w0.heap.size + 1 + 1, 0, none⟩) (o 2 (by omega))).trans h.z5, own_same h.own (fun k hk => c.block k (own_lt h.own k hk) (h.of k hk).1) c.size, fun k hk => ⟨fun hF => ?_, (h.of k hk).2⟩⟩
  rcases hn k hF with h1 | h1
  · exact (h.of k hk).1 h1
  · have := hlt k hk; omega
/-- an identity more -/
theorem LdI.app (h : LdI P w0 F0 oa n oc wr iv T F ids) (hlF : ∀ k, F k → k < wr.heap.size) (hsm : ∀ w', wr.heap.size ≤ w'.heap.size → (∀ k, F k → w'.heap[k]? = wr.heap[k]?) → P w' T F) {id : Int} {o : Obj} (ho : w2.ownsRow 0 3 1 iv' (ids.length + 1) (ints ids ++ [.int .i64 id])) (hg : (wr.alloc o).grownBy w2 iv.ownBlock) (hv : iv'.ownBlock = iv.ownBlock ∨ iv'.ownBlock = some (wr.alloc o).heap.size) :
    LdI P w0 F0 oa n oc (w2.setCell ⟨w0.heap.size + 1, 0, none⟩ iv') iv' T F (ids ++ [id]) := by
  have hz := h.sz
  have hs1 : (wr.alloc o).heap.size = wr.heap.size + 1 := by simp
  have hsz : wr.heap.size ≤ w2.heap.size := by have := hg.size; omega
  have e2 : ∀ k, k < wr.heap.size → iv.ownBlock ≠ some k → w2.heap[k]? = wr.heap[k]? := fun k hk hne => (hg.block k (by omega) (fun e => hne e.symm)).trans (Below.heap_alloc _ _ _ hk)
  have es : ∀ k, k ≠ w0.heap.size + 1 → (w2.setCell ⟨w0.heap.size + 1, 0, none⟩ iv').heap[k]? = w2.heap[k]? := fun k hk => Below.heap_setCell _ _ _ _ hk
  have no : ∀ j, j < 3 → iv.ownBlock ≠ some (w0.heap.size + j) := fun j hj e => by have := (h.of _ e).2; omega
  have o' : ∀ j, j < 3 → w2.heap[w0.heap.size + j]? = wr.heap[w0.heap.size + j]? := fun j hj => e2 _ (by omega) (no j hj)
  have hnv : ∀ k, iv'.ownBlock = some k → ¬ F k ∧ w0.heap.size + 3 ≤ k := by
    intro k hk
    rcases hv with e | e
    · exact h.of k (by rw [← e]; exact hk)
    · rw [e] at hk
      have := Option.some.inj hk
      exact ⟨fun hF => by have := hlF k hF; omega, by omega⟩
  have hk : ∀ k, F k → (w2.setCell ⟨w0.heap.size + 1, 0, none⟩ iv').heap[k]? = wr.heap[k]? := fun k hF => by
    rw [es k (fun e => by rcases h.nF k hF with h1 | h1 <;> omega)]
    exact e2 k (hlF k hF) (fun e => (h.of k e).1 hF)
  refine ⟨⟨hg.os.trans h.cg.os, hg.tape.trans h.cg.tape, hg.output.trans h.cg.output, ?_, fun k hk hF => ?_⟩, ?_, hsm _ (by simpa [World.setCell] using hsz) hk, h.nF, ?_, ?_, ?_, ?_, ?_, ?_, hnv⟩
  · have : (w2.setCell ⟨w0.heap.size + 1, 0, none⟩ iv').heap.size = w2.heap.size := by simp [World.setCell]
    omega
  · rw [es k (by omega), e2 k (by omega) (fun e => by have := (h.of k e).2; omega)]
    exact h.cg.block k hk hF
  · have : (w2.setCell ⟨w0.heap.size + 1, 0, none⟩ iv').heap.size = w2.heap.size := by simp [World.setCell]
    omega
  · exact (World.cell?_of_block (a := ⟨w0.heap.size, 3, none⟩) ((es w0.heap.size (by omega)).trans (o' 0 (by omega)))).trans h.b3
  · exact World.cell?_setCell_same _ _ _ ((World.cell?_of_block (a := ⟨w0.heap.size + 1, 0, none⟩) (o' 1 (by omega))).trans h.c4)
  · rw [World.frozen?_setCell]; exact (World.frozen?_of_block (a := ⟨w0.heap.size + 1, 0, none⟩) (o' 1 (by omega))).trans h.z4
  · exact (World.cell?_of_block (a := ⟨w0.heap.size + 1 + 1, 0, none⟩) ((es (w0.heap.size + 1 + 1) (by omega)).trans (o' 2 (by omega)))).trans h.c5
  · rw [World.frozen?_setCell]; exact (World.frozen?_of_block (a := ⟨w0.heap.size + 1 + 1, 0, none⟩) (o' 2 (by omega))).trans h.z5
  · have : ints (ids ++ [id]) = ints ids ++ [.int .i64 id] := by simp [ints]
    rw [List.length_append, List.length_singleton, this]
    exact own_same ho (fun k hk => es k (by have := (hnv k hk).2; omega)) (by simp [World.setCell])
theorem LdI.cell (h : LdI P w0 F0 oa n oc wr iv T F ids) {o : Obj} (hg : (wr.alloc o).grownBy w2 iv.ownBlock) : w2.cell? ⟨w0.heap.size + 1, 0, none⟩ = some iv ∧ w2.frozen? ⟨w0.heap.size + 1, 0, none⟩ = false := by
  have hz := h.sz
  have hs1 : (wr.alloc o).heap.size = wr.heap.size + 1 := by simp
  have e : w2.heap[w0.heap.size + 1]? = wr.heap[w0.heap.size + 1]? := (hg.block _ (by omega) (fun e => by have := (h.of _ e.symm).2; omega)).trans (Below.heap_alloc _ _ _ (by omega))
  exact ⟨(World.cell?_of_block (a := ⟨w0.heap.size + 1, 0, none⟩) e).trans h.c4, (World.frozen?_of_block (a := ⟨w0.heap.size + 1, 0, none⟩) e).trans h.z4⟩
theorem infoI8 : (Try.prog.info? 3).map (fun i => (i.zero, i.size, i.bytes)) = some (some (.int .i64 0), 1, 8) := by kernel_rfl
theorem LdI.begin {a : Obj} {w : World} {S : σ} (hP : P w S F0) (hlt : ∀ k, F0 k → k < w.heap.size) (hk : ∀ w', Below w.heap.size w w' → P w' S F0) {x0 x1 x2 x4 : Value} (hA : a = .cells #[x0, x1, x2, .slice oa n oc, x4] 28) :
    LdI P w F0 oa n oc (((w.alloc a).alloc (.cells #[.slice none 0 0] 22)).alloc (.cells #[.bool false] 4)) (.slice none 0 0) S F0 [] := by
  obtain ⟨y0, y1, y2, y3⟩ := box3 w a (.cells #[.slice none 0 0] 22) (.cells #[.bool false] 4)
  subst hA
  have hB : Below w.heap.size w (((w.alloc (.cells #[x0, x1, x2, .slice oa n oc, x4] 28)).alloc (.cells #[.slice none 0 0] 22)).alloc (.cells #[.bool false] 4)) := ((((Below.refl _ _).alloc (Nat.le_refl _) _).alloc (by simp) _).alloc (by simp; omega) _)
  exact ⟨Cg.below _ hB, by rw [y3]; exact Nat.le_refl _, hk _ hB, fun k e => Or.inl ⟨e, hlt k e⟩, by rw [Lib.cell_of_heap y0]; rfl, by rw [Lib.cell_of_heap y1]; rfl, froz_heap y1, by rw [Lib.cell_of_heap y2]; rfl, froz_heap y2, ⟨by simp [ints], Or.inl ⟨rfl, rfl⟩⟩, fun k e => by simp [Value.ownBlock] at e⟩
end
end Wd
end Go.Proofs.Yteiejjmhmmkdhaa

/- Load: a program's objects are made, then filled. -/
namespace Go.Proofs.Yteiejjmhmmkdhaa
open Go.RowKit
set_option linter.unusedVariables false
set_option maxRecDepth 20000
namespace Wd
section
variable {σ : Type} {M : Sto σ} {P : World → σ → (Nat → Prop) → Prop} {p : Nat} {sz : σ → Nat}
theorem StoI.szN (K : StoI M P p sz) (S : σ) (O : List ObjA) : ∀ k, sz (stA M S O k).1 ≤ sz S + k
  | 0 => Nat.le_refl _
  | k + 1 => Nat.le_trans (K.szA _ _ _) (by have := StoI.szN K S O k; omega)
theorem StoI.szO (K : StoI M P p sz) (S : σ) (ids : List Int) (O : List ObjA) : ∀ k, sz (stO M S ids O k) ≤ sz S
  | 0 => Nat.le_refl _
  | k + 1 => Nat.le_trans (K.szF _ _ _ _ _) (StoI.szO K S ids O k)
theorem StoI.ids64 (K : StoI M P p sz) (S : σ) (O : List ObjA) (hs : sz S ≤ 500) : ∀ k, sz S + k ≤ 2000 → ∀ id ∈ (stA M S O k).2, b64 id
  | 0, _ => fun id h => by simp [stA] at h
  | k + 1, hk => fun id h => by
    simp only [stA, List.mem_append, List.mem_singleton] at h
    rcases h with h | rfl
    · exact StoI.ids64 K S O hs k (by omega) id h
    · exact K.ids _ _ _ (Nat.le_trans (K.szN S O k) (by omega))
variable {w0 w1 wr w' w2 : World} {F0 F F' : Nat → Prop} {oa : Option Addr} {n oc : Nat} {iv iv' : Value} {T T' : σ} {ids : List Int}
theorem LdI.upI (K : StoI M P p sz) (h : LdI P w0 F0 oa n oc wr iv T F ids) (b : Below wr.heap.size wr w') : LdI P w0 F0 oa n oc w' iv T F ids :=
  h.same (K.same h.st b.size (fun k hk => b.block k (K.lt h.st k hk))) (h.cg.trans (Cg.below _ b)) (fun k hk _ => b.block k hk) b.size
theorem LdI.stI (K : StoI M P p sz) (h : LdI P w0 F0 oa n oc wr iv T F ids) (hP : P w' T' F') (c : Cg F wr w') (hn : ∀ k, F' k → F k ∨ wr.heap.size ≤ k) (hF0 : ∀ k, F0 k → k < w0.heap.size) : LdI P w0 F0 oa n oc w' iv T' F' ids :=
  h.stp hP c hn hF0 (fun v hv => own_lt h.own v hv)
set_option maxHeartbeats 64000000 in
theorem loadI_c (K : StoI M P p sz) {w : World} {u : Value} {U : UnitA} {S : σ} (hu : UnK w1 u U) (hb : Below w1.heap.size w1 w) (hr : unitR U = 0) (ho : ObsOk U.objects) (hP : P w S F0) (hF0 : ∀ k, F0 k → w1.heap.size ≤ k) (hs : sz S ≤ 500) (hid : ∀ k o, U.objects[k]? = some o → M.ai (stA M S U.objects k).1 o.cls (o.flds.length : Int) ≠ -1) :
    Calls Try.prog 7 #[.iface 33 (pV p), u] w fun e w' => ∃ iv F', e = .returned (.tuple #[iv, .bool true]) ∧ P w' (ldS M S U.objects) F' ∧ w'.ownsRow 0 3 1 iv U.objects.length (ints (ldI M S U.objects)) ∧ Cg F0 w w' ∧ (∀ k, F' k → F0 k ∨ w.heap.size ≤ k) ∧ ∀ k, iv.ownBlock = some k → ¬ F' k ∧ w.heap.size ≤ k := by
  have hm : ∀ w : World, (method 72 33 (pV p) "Alloc").run Try.prog w = .ok (13, pV p) w := fun _ => by kernel_rfl
  have hmf : ∀ (fn : Fn) (first cap : Array Value) (w : World), (Instr.makeFunc fn first cap).run Try.prog w = .ok (.func fn first cap) w := fun _ _ _ _ => rfl
  obtain ⟨na, nc, ca, cc, ma, mc, oa, oc, rfl, hS⟩ := hu.ex
  have hbF : Hid (∀ w', Cg F0 w w' → Below w1.heap.size w1 w') := Lib.hid (fun w' c => hb.trans (c.toB hb.size hF0))
  have PU := Lib.hid (fun (w' : World) (b : Cg F0 w w') => uright_c (hu.up (hbF.out _ b)))
  rw [hr] at PU
  have hlw := Lib.hid (K.lt hP)
  have hob := Lib.hid (fun (k : Nat) (x : ObjA) (hx : U.objects[k]? = some x) => hS.o.at hx)
  have hst := Lib.hid (LdI.begin (P := P) (oa := oa) (n := U.objects.length) (oc := oc) (a := .cells #[.slice na U.names.length nc, .slice ca U.classes.length cc, .slice ma U.methods.length mc, .slice oa U.objects.length oc, .int .i64 U.main] 28) hP (K.lt hP) (fun w' b => K.same hP b.size (fun k hk => b.block k (K.lt hP k hk))) rfl)
  have hUl := Lib.hid ho.len
  have h1000 := ho.len
  clear hu hS hr
  generalize U.names.length = l1 at *
  generalize U.classes.length = l2 at *
  generalize U.methods.length = l3 at *
  generalize U.main = mm at *
  generalize hl4 : U.objects.length = l4 at *
  rw [show ldS M S U.objects = stO M (stA M S U.objects l4).1 (stA M S U.objects l4).2 U.objects l4 by unfold ldS ldI; rw [hl4], show ldI M S U.objects = (stA M S U.objects l4).2 by unfold ldI; rw [hl4]]
  obtain ⟨x0, _⟩ := box3 w (.cells #[.slice na l1 nc, .slice ca l2 cc, .slice ma l3 mc, .slice oa l4 oc, .int .i64 mm] 28) (.cells #[.slice none 0 0] 22) (.cells #[.bool false] 4)
  generalize hW : (((w.alloc (.cells #[.slice na l1 nc, .slice ca l2 cc, .slice ma l3 mc, .slice oa l4 oc, .int .i64 mm] 28)).alloc (.cells #[.slice none 0 0] 22)).alloc (.cells #[.bool false] 4)) = W at *
  have b0 : W.cell? ⟨w.heap.size, 0, none⟩ = some (.slice na l1 nc) := by rw [Lib.cell_of_heap x0]; rfl
  have b1 : W.cell? ⟨w.heap.size, 1, none⟩ = some (.slice ca l2 cc) := by rw [Lib.cell_of_heap x0]; rfl
  have b2 : W.cell? ⟨w.heap.size, 2, none⟩ = some (.slice ma l3 mc) := by rw [Lib.cell_of_heap x0]; rfl
  have b3 : W.cell? ⟨w.heap.size, 3, none⟩ = some (.slice oa l4 oc) := by rw [Lib.cell_of_heap x0]; rfl
  have b4 : W.cell? ⟨w.heap.size, 4, none⟩ = some (.int .i64 mm) := by rw [Lib.cell_of_heap x0]; rfl
  clear x0
  go_enter_defers Try.func7, Try.ntmps7
  go_upto_region 2 with fail
  clear hW
  go_upto_region 4 with (go_at_call 21; refine (PU.out W hst.out.cg).mono ?_; rintro e w3 ⟨rfl, hb3⟩; have hI := Lib.hid (hst.out.upI K hb3); clear hst hb3 b0 b1 b2 b3 b4)
  have b3 := hI.out.b3
  obtain ⟨i0, hi0, hz0, hz1, hz2⟩ := infoP8 infoI8
  go_wp2
  clear b3 PU
  go_loopw [22] (fun i wr => ∃ (k : Nat) (iv : Value) (F : Nat → Prop), k ≤ l4 ∧ i = .int .i64 k ∧ Hid (LdI P w F0 oa l4 oc wr iv (stA M S U.objects k).1 F (stA M S U.objects k).2)) (fun i _ => l4 - (intOf i).toNat)
  case atStart => exact ⟨0, _, F0, by omega, rfl, hI⟩
  case round =>
    clear hI
    obtain ⟨k, iv, F, hk, rfl, hI⟩ := hrel
    obtain ⟨ai, ci, e, _⟩ := own_form hI.out.own
    rw [stA_len] at e
    subst e
    by_cases hlt : k < l4
    · as_aux_lemma =>
      have hlt' : decide ((k : Int) < (l4 : Int)) = true := by simp; omega
      have p1 : (k : Int) < (l4 : Int) := by omega
      obtain ⟨x, hx⟩ : ∃ x, U.objects[k]? = some x := ⟨U.objects[k]'(by omega), by simp⟩
      obtain ⟨i1, g, off, fv, rfl, d0, d1, pf⟩ := hob.out k x hx
      obtain ⟨fa, fc, rfl, _, _⟩ := pf.form
      replace d0 := cell_up (hbF.out wr hI.out.cg) d0
      replace d1 := cell_up (hbF.out wr hI.out.cg) d1
      have hne := hid k x hx
      have hne2 : (M.ai (stA M S U.objects k).1 x.cls (x.flds.length : Int) == -1) = false := by simpa using hne
      have hsz := Lib.hid (Nat.le_trans (K.szN S U.objects k) (show sz S + k ≤ 2000 by omega))
      have hI3 := Lib.hid (hI.out.upI K ((Below.refl _ _).alloc (Nat.le_refl _) (.cells #[.int .i64 x.cls, .slice fa x.flds.length fc] 40)))
      have h62 := (okA_cases x.cls (x.flds.length : Int)).elim (fun h => h.2.2.2.2.1) (fun h => by have := ho.ok x (List.mem_of_getElem? hx); rcases h with h | h <;> rw [h.1] at this <;> cases this)
      have PA := Lib.hid (K.alloc x.cls (x.flds.length : Int) hI3.out.st hsz.out i1 ⟨by omega, by omega⟩)
      have hss := Lib.hid (stA_succ M (S := S) hx)
      have hle := Lib.hid (stA_len M S U.objects k)
      have z0 : (wr.alloc (.cells #[.int .i64 x.cls, .slice fa x.flds.length fc] 40)).cell? ⟨wr.heap.size, 0, none⟩ = some (.int .i64 x.cls) := World.cell?_alloc_new _ _ _ 0
      have z1 : (wr.alloc (.cells #[.int .i64 x.cls, .slice fa x.flds.length fc] 40)).cell? ⟨wr.heap.size, 1, none⟩ = some (.slice fa x.flds.length fc) := World.cell?_alloc_new _ _ _ 1
      have hmx : Hid (k + 1 ≤ maxLen) := Lib.hid (by simp only [maxLen]; omega)
      have hbx : Hid ((k + 1) * 8 ≤ 140737488355328) := Lib.hid (by omega)
      clear hx pf i1 hne h62 hI hid hob ho hP hb hs hF0
      generalize (stA M S U.objects k).2 = is at *
      generalize (stA M S U.objects k).1 = Tk at *
      generalize M.ai Tk x.cls (x.flds.length : Int) = id at *
      go_upto_region 7 with fail
      generalize wr.alloc (.cells #[.int .i64 x.cls, .slice fa x.flds.length fc] 40) = W3 at *
      generalize wr.heap.size = q3 at *
      clear d0 d1
      go_wp2_with (first | (go_at_call 13; refine (PA.out).mono ?_; rintro e w5 ⟨rfl, F2, hP5, hc5, hn5⟩; have hI5 := Lib.hid (hI3.out.stI K hP5 hc5 hn5 hlw.out); have c4 := hI5.out.c4; have hown5 := Lib.hid (own_same hI5.out.own (w' := w5.alloc (.cells #[.int .i64 id] 3)) (fun k hk => Below.heap_alloc _ _ _ (own_lt hI5.out.own k hk)) (by simp)); have hlt5 := Lib.hid (K.lt hP5); have hsm5 := Lib.hid (fun (w' : World) (a : w5.heap.size ≤ w'.heap.size) (b : ∀ k, F2 k → w'.heap[k]? = w5.heap[k]?) => K.same hP5 a b); clear hP5 hc5 hn5 PA z0 z1) | (at_builtin; refine wpList_app_any rfl (.tmp 35) (.tmp 37) 22 rfl 0 3 i0 (.int .i64 0) 1 8 Try.underlying22 hi0 hz0 hz1 hz2 rfl (by decide) (.slice ai k ci) (.slice (some ⟨w5.heap.size, 0, none⟩) 1 1) k 1 (ints is) [.int .i64 id] (by simp [Act.eval]) (by simp [Act.eval]) (by have := hown5.out; rw [hle.out] at this; exact this) (rd_one _ _ _) rfl (by simp [Value.oneCell']) hmx.out hbx.out (Nat.zero_le _) ?_; intro v9 w9 hown9 hg9 hat9; (obtain ⟨pc9, pz9⟩ := hI5.out.cell hg9); have hI9 := Lib.hid (hI5.out.app hlt5.out hsm5.out (by rw [hle.out]; exact hown9) hg9 hat9); (obtain ⟨a9, c9, e9, _⟩ := own_form hown9); subst e9; clear hown9 hg9 hat9 c4 hown5 hlt5 hsm5 hI5))
      go_roundw
      case rel => exact ⟨k + 1, _, F2, by omega, by go_num, by rw [hss.out]; exact hI9⟩
      case measure => simp [intOf]; omega
    · have e : k = l4 := by omega
      subst e
      have hd : decide ((k : Int) < (k : Int)) = false := by simp
      have b3 := hI.out.b3
      have hil : (stA M S U.objects k).2.length = k := stA_len M S U.objects k
      have hi64 := Lib.hid (K.ids64 S U.objects hs k (by omega))
      have hsz := Lib.hid (Nat.le_trans (K.szN S U.objects k) (show sz S + k ≤ 2000 by omega))
      generalize hids : (stA M S U.objects k).2 = ids at *
      generalize hT0 : (stA M S U.objects k).1 = T0 at *
      replace hids := Lib.hid hids
      replace hT0 := Lib.hid hT0
      clear hi0 hz0 hz1 hz2
      go_wp2
      clear b3
      go_loopw [43] (fun i wr => ∃ (j : Nat) (F : Nat → Prop), j ≤ k ∧ i = .int .i64 j ∧ Hid (LdI P w F0 oa k oc wr (.slice ai k ci) (stO M T0 ids U.objects j) F ids)) (fun i _ => k - (intOf i).toNat)
      case atStart => exact ⟨0, F, by omega, rfl, hI⟩
      case round =>
        clear hI
        obtain ⟨j, F, hj, rfl, hI⟩ := hrel
        by_cases hlt2 : j < k
        · as_aux_lemma =>
          have hlt' : decide ((j : Int) < (k : Int)) = true := by simp; omega
          have p1 : (j : Int) < (k : Int) := by omega
          obtain ⟨x, hx⟩ : ∃ x, U.objects[j]? = some x := ⟨U.objects[j]'(by omega), by simp⟩
          obtain ⟨i1, g, off, fv, rfl, d0, d1, pf⟩ := hob.out j x hx
          obtain ⟨fa, fc, rfl, _, _⟩ := pf.form
          replace d0 := cell_up (hbF.out wr hI.out.cg) d0
          replace d1 := cell_up (hbF.out wr hI.out.cg) d1
          have hjl : j < ids.length := by omega
          have hidx : ids[j]? = some ids[j] := by simp
          have h64 := hi64.out ids[j] (by simp)
          have hxm := List.mem_of_getElem? hx
          have h62 : x.flds.length ≤ 62 := (okA_cases x.cls (x.flds.length : Int)).elim (fun h => by have := h.2.2.2.2.1; omega) (fun h => by have := ho.ok x hxm; rcases h with h | h <;> rw [h.1] at this <;> cases this)
          have hI3 := Lib.hid (hI.out.upI K ((Below.refl _ _).alloc (Nat.le_refl _) (.cells #[.int .i64 x.cls, .slice fa x.flds.length fc] 40)))
          have hs2 := Lib.hid (Nat.le_trans (K.szO T0 ids U.objects j) hsz.out)
          have PF := Lib.hid (fun (W : World) (b : Below (wr.alloc (.cells #[.int .i64 x.cls, .slice fa x.flds.length fc] 40)).heap.size (wr.alloc (.cells #[.int .i64 x.cls, .slice fa x.flds.length fc] 40)) W) => fillI_c (ia := ai) (n := k) (c := ci) (fa := fa) (fc := fc) (V := x.flds) (ids := ids) K (hI3.out.upI K b).st hs2.out h64 (fun f hf e => by have := ho.ref x hxm f hf e; omega) (by omega) (fun w' c => ⟨pf.up (hbF.out w' ((hI3.out.upI K b).cg.trans' c (fun q hq => ((hI3.out.upI K b).nF q hq).elim (fun e => Or.inl e.1) (fun e => Or.inr (by omega))))), by
            have hI4 := hI3.out.upI K b
            have := own_same hI4.own (w' := w') (fun q hq => c.block q (own_lt hI4.own q hq) (hI4.of q hq).1) c.size
            rw [hil] at this; exact this⟩))
          have hst4 := Lib.hid (fun (W : World) (b : Below (wr.alloc (.cells #[.int .i64 x.cls, .slice fa x.flds.length fc] 40)).heap.size (wr.alloc (.cells #[.int .i64 x.cls, .slice fa x.flds.length fc] 40)) W) (w5 : World) (F2 : Nat → Prop) (hP5 : P w5 (stF M (stO M T0 ids U.objects j) ids ids[j] x.flds x.flds.length) F2) (hc5 : Cg F W w5) (hn5 : ∀ q, F2 q → F q ∨ W.heap.size ≤ q) => (hI3.out.upI K b).stI K hP5 hc5 hn5 hlw.out)
          have hso := stO_succ M (S := T0) (ids := ids) hx hidx
          rw [← hso] at hst4 PF
          have hqF := Lib.hid (show ¬ F wr.heap.size from fun e => by have := K.lt hI.out.st _ e; omega)
          have z1 : (wr.alloc (.cells #[.int .i64 x.cls, .slice fa x.flds.length fc] 40)).cell? ⟨wr.heap.size, 1, none⟩ = some (.slice fa x.flds.length fc) := World.cell?_alloc_new _ _ _ 1
          have hown3 := hI3.out.own
          obtain ⟨gi, rfl, hci⟩ : ∃ gi, ai = some ⟨gi, 0, none⟩ ∧ Hid (∀ (W : World), W.ownsRow 0 3 1 (.slice (some ⟨gi, 0, none⟩) k ci) ids.length (ints ids) → W.cell? ⟨gi, j, none⟩ = some (.int .i64 ids[j])) := by
            rcases hown3.2 with ⟨_, e2⟩ | ⟨gi, cap', cur, e, _⟩
            · omega
            · cases e
              exact ⟨gi, rfl, Lib.hid (fun W h => own_cell h (by simp [ints]))⟩
          have hrg := Lib.hid (fun (W : World) (iv : Value) (T : σ) (F2 : Nat → Prop) (h : LdI P w F0 (some ⟨g, off, none⟩) k oc W (.slice (some ⟨gi, 0, none⟩) k ci) T F2 ids) => (⟨h.c4, hci.out W h.own⟩ : _ ∧ _))
          clear hx pf i1 h62 hI hob ho hP hb hs hF0 hxm hso hidx h64 hown3 hid
          have hjk : (j : Int) < (k : Int) := p1
          generalize ids[j] = id at *
          go_upto_region 15 with fail
          generalize hW3 : wr.alloc (.cells #[.int .i64 x.cls, .slice fa x.flds.length fc] 40) = W3 at *
          have hq3 : Hid (wr.heap.size < W3.heap.size) := Lib.hid (by rw [← hW3]; simp)
          clear hW3
          generalize wr.heap.size = q3 at *
          clear d0 d1
          have cA := (hrg.out _ .nilIface _ _ hI3.out).1
          have cB := (hrg.out _ .nilIface _ _ hI3.out).2
          refine wp_noP ?_
          refine wp_region_held_drew (S := (fun wr' => wr'.cell? ⟨w.heap.size + 1, 0, none⟩ = some (.slice (some ⟨gi, 0, none⟩) k ci) ∧ wr'.cell? ⟨gi, j, none⟩ = some (.int .i64 id) ∧ wr'.cell? ⟨q3, 1, none⟩ = some (.slice fa x.flds.length fc))) (by kernel_rfl) ?_ (fun hHeld => ?_)
          · (try dsimp only); exact ⟨cA, cB, z1⟩
          try simp only [Act.put, nA]
          refine tk (i := 0) (oi := ⟨some 48, .move (.tmp 0), 72, "load.go:29", #[], none⟩) (hy := by intro w hSw; (try dsimp only at hSw); obtain ⟨q0, q1, q2⟩ := hSw; go_simp <;> with_reducible rfl) ?_
          try simp only [Act.put, nA]
          refine tk (i := 1) (oi := ⟨some 49, .load 22 (.tmp 4), 22, "load.go:29", #[], none⟩) (hy := by intro w hSw; (try dsimp only at hSw); obtain ⟨q0, q1, q2⟩ := hSw; go_simp <;> with_reducible rfl) ?_
          try simp only [Act.put, nA]
          refine tk (i := 2) (oi := ⟨some 50, .move (.tmp 9), 3, "load.go:29", #[], none⟩) (hy := by intro w hSw; (try dsimp only at hSw); obtain ⟨q0, q1, q2⟩ := hSw; go_simp <;> with_reducible rfl) ?_
          try simp only [Act.put, nA]
          refine tk (i := 3) (oi := ⟨some 51, .indexAddr 22 (.tmp 49) (.tmp 50), 0, "load.go:29", #[⟨1, .data⟩, ⟨2, .data⟩], none⟩) (hy := by intro w hSw; (try dsimp only at hSw); obtain ⟨q0, q1, q2⟩ := hSw; go_simp <;> with_reducible rfl) ?_
          try simp only [Act.put, nA]
          refine tk (i := 4) (oi := ⟨some 52, .load 3 (.tmp 51), 3, "load.go:29", #[⟨3, .data⟩], none⟩) (hy := by intro w hSw; (try dsimp only at hSw); obtain ⟨q0, q1, q2⟩ := hSw; go_simp <;> with_reducible rfl) ?_
          try simp only [Act.put, nA]
          refine tk (i := 5) (oi := ⟨some 53, .fieldAddr 40 (.tmp 10) 1, 0, "load.go:29", #[], none⟩) (hy := by intro w hSw; (try dsimp only at hSw); obtain ⟨q0, q1, q2⟩ := hSw; go_simp <;> with_reducible rfl) ?_
          try simp only [Act.put, nA]
          refine tk (i := 6) (oi := ⟨some 54, .load 38 (.tmp 53), 38, "load.go:29", #[⟨5, .data⟩], none⟩) (hy := by intro w hSw; (try dsimp only at hSw); obtain ⟨q0, q1, q2⟩ := hSw; go_simp <;> with_reducible rfl) ?_
          try simp only [Act.put, nA]
          refine tk (i := 7) (oi := ⟨some 55, .load 22 (.tmp 4), 22, "load.go:29", #[], none⟩) (hy := by intro w hSw; (try dsimp only at hSw); obtain ⟨q0, q1, q2⟩ := hSw; go_simp <;> with_reducible rfl) ?_
          try simp only [Act.put, nA]
          refine wpAnyH_ready (rs := [8]) (by kernel_rfl) (by simp) ?_
          refine AllReadyH.cons (o := ⟨some 56, .call { callee := .value (.func 22), args := #[.tmp 48, .tmp 52, .tmp 54, .tmp 55], argTypes := #[72, 3, 38, 22] }, 0, "load.go:29", #[⟨0, .data⟩, ⟨4, .data⟩, ⟨6, .data⟩, ⟨7, .data⟩], none⟩) rfl (fun K9 hK => ?_) AllReadyH.nil
          go_simp
          refine (PF.out _ (Below.refl _ _).drew).mono ?_
          rintro e w5 ⟨rfl, F2, hP5, hc5, hn5⟩
          have hI5 := Lib.hid (hst4.out _ (Below.refl _ _).drew w5 F2 hP5 hc5 hn5)
          have y0 := (hrg.out _ .nilIface _ _ hI5.out).1
          have y1 := (hrg.out _ .nilIface _ _ hI5.out).2
          have y2 := (World.cell?_of_block (a := ⟨q3, 1, none⟩) (hc5.block q3 hq3.out hqF.out)).trans z1
          clear hP5 hc5 hn5
          go_wp2_with fail
          refine hK.out _ _ ?_ ?_
          · (try dsimp only); exact ⟨y0, y1, y2⟩
          clear hK K9 hHeld; intro hHeld
          try simp only [Act.put, nA]
          refine wpAnyH_done (by kernel_rfl) ?_ _
          refine noP_normal ?_
          go_wp2
          go_roundw
          case rel => exact ⟨j + 1, F2, by omega, by go_num, hI5⟩
          case measure => simp [intOf]; omega
        · have e : j = k := by omega
          subst e
          have hd : decide ((j : Int) < (j : Int)) = false := by simp
          have c4 := hI.out.c4
          have z4 := hI.out.z4
          have c5 := hI.out.c5
          have z5 := hI.out.z5
          go_wp2
          refine leaves_cons (f := 20) (args := #[.pointer (some ⟨w.heap.size + 1, 0, none⟩), .pointer (some ⟨w.heap.size + 1 + 1, 0, none⟩)]) (by simp) (by simp [go_sem]) ?_
          refine (catch_c _ _ _).mono ?_
          rintro e u' w'' ⟨rfl, rfl, rfl⟩
          obtain ⟨k4, k5, kb⟩ := two_set (x := .slice ai j ci) (y := .bool true) c4 c5
          have hsz9 : ((wr.setCell ⟨w.heap.size + 1, 0, none⟩ (.slice ai j ci)).setCell ⟨w.heap.size + 1 + 1, 0, none⟩ (.bool true)).heap.size = wr.heap.size := by simp [World.setCell]
          have hz3 := hI.out.sz
          have ke : ∀ q, q ≠ w.heap.size + 1 → q ≠ w.heap.size + 1 + 1 → ((wr.setCell ⟨w.heap.size + 1, 0, none⟩ (.slice ai j ci)).setCell ⟨w.heap.size + 1 + 1, 0, none⟩ (.bool true)).heap[q]? = wr.heap[q]? := fun q h1 h2 => (Below.heap_setCell _ _ _ _ h2).trans (Below.heap_setCell _ _ _ _ h1)
          clear c4 c5 z4 z5
          generalize ((wr.setCell ⟨w.heap.size + 1, 0, none⟩ (.slice ai j ci)).setCell ⟨w.heap.size + 1 + 1, 0, none⟩ (.bool true)) = W9 at *
          have fin : P W9 (stO M (stA M S U.objects j).1 (stA M S U.objects j).2 U.objects j) F ∧ W9.ownsRow 0 3 1 (.slice ai j ci) j (ints (stA M S U.objects j).2) ∧ Cg F0 w W9 ∧ (∀ k, F k → F0 k ∨ w.heap.size ≤ k) ∧ ∀ k, (Value.slice ai j ci).ownBlock = some k → ¬ F k ∧ w.heap.size ≤ k := by
            rw [hids.out, hT0.out]
            refine ⟨K.same hI.out.st (by omega) (fun q hq => ke q (fun e => ?_) (fun e => ?_)), ?_, hI.out.cg.belowB (kb _ (by omega)), fun q hq => (hI.out.nF q hq).elim (fun e => Or.inl e.1) (fun e => Or.inr (by omega)), fun q hq => ⟨(hI.out.of q hq).1, by have := (hI.out.of q hq).2; omega⟩⟩
            · rcases hI.out.nF q hq with h1 | h1 <;> omega
            · rcases hI.out.nF q hq with h1 | h1 <;> omega
            · have := own_same hI.out.own (w' := W9) (fun q hq => by have := (hI.out.of q hq).2; exact ke q (by omega) (by omega)) (by omega)
              rw [hil] at this; exact this
          simp [Leaves, settle, results, Try.results7, go_sem, k4, k5]
          exact ⟨F, fin⟩
end
end Wd
end Go.Proofs.Yteiejjmhmmkdhaa

/- The landed Ideal of a call's own: its calls in few words. -/
namespace Go.Proofs.Yteiejjmhmmkdhaa
open Go.RowKit
set_option linter.unusedVariables false
set_option maxRecDepth 20000
namespace Wd
/-- at block p the landed Ideal keeps L; it lies in the blocks F -/
def IA (p : Nat) (w : World) (L : List Ob8) (F : Nat → Prop) : Prop := ∃ v xs B, ID w p v xs B L ∧ F = unD p v B L.length
theorem IA.lt {p : Nat} {w : World} {L : List Ob8} {F : Nat → Prop} (h : IA p w L F) : ∀ k, F k → k < w.heap.size := by
  obtain ⟨v, xs, B, h, rfl⟩ := h
  exact h.lt
theorem IA.same {p : Nat} {w w' : World} {L : List Ob8} {F : Nat → Prop} (h : IA p w L F) (hs : w.heap.size ≤ w'.heap.size) (e : ∀ k, F k → w'.heap[k]? = w.heap[k]?) : IA p w' L F := by
  obtain ⟨v, xs, B, h, rfl⟩ := h
  exact ⟨v, xs, B, h.same hs e, rfl⟩
theorem alL_len (L : List Ob8) (c n : Int) : (alL L c n).length ≤ L.length + 1 := by unfold alL; split <;> simp
theorem alI_64 (L : List Ob8) (c n : Int) (h : L.length ≤ 100000) : b64 (alI L c n) := by unfold alI b64; split <;> omega
theorem ia_alloc {p : Nat} {w : World} {L : List Ob8} {F : Nat → Prop} (c n : Int) (h : IA p w L F) (hl : L.length ≤ 10000) (hc : b64 c) (hn : b64 n) : Calls Try.prog 13 #[pV p, .int .i64 c, .int .i64 n] w fun e w' => e = .returned (.int .i64 (alI L c n)) ∧ ∃ F', IA p w' (alL L c n) F' ∧ Cg F w w' ∧ ∀ k, F' k → F k ∨ w.heap.size ≤ k := by
  obtain ⟨v, xs, B, h, rfl⟩ := h
  refine (ialloc_c h c n hc hn hl).mono ?_
  rintro e w' ⟨rfl, v', xs', B', h1, h2, h3⟩
  exact ⟨rfl, _, ⟨v', xs', B', h1, rfl⟩, h2, h3⟩
theorem ia_put {p : Nat} {w : World} {L : List Ob8} {F : Nat → Prop} (id i x : Int) (h : IA p w L F) (hl : L.length ≤ 10000) (hi : b64 id) (hj : b64 i) (hx : b32 x) : Calls Try.prog 14 #[pV p, .int .i64 id, .int .i64 i, .int .u32 x] w fun e w' => e = .returned (.bool (puB L id i x)) ∧ IA p w' (puL L id i x) F ∧ Cg F w w' := by
  obtain ⟨v, xs, B, h, rfl⟩ := h
  refine (iput_c h id i x hi hj hx (by omega)).mono ?_
  rintro e w' ⟨rfl, h1, h2⟩
  exact ⟨rfl, ⟨v, xs, B, h1, by rw [puL_len]⟩, h2⟩
theorem idealK (p : Nat) : StoI idealM (IA p) p List.length where
  lt := fun h => h.lt
  same := fun h hs e => h.same hs e
  szA := alL_len
  szP := fun S id i x => Nat.le_of_eq (puL_len S id i x)
  ids := fun S c n h => alI_64 S c n (by omega)
  alloc := fun c n h hs hc hn => ia_alloc c n h (by omega) hc hn
  put := fun id i x h hs hi hj hx => (ia_put id i x h (by omega) hi hj hx).mono (by rintro e w' ⟨rfl, h1, h2⟩; exact ⟨_, _, rfl, h1, h2, fun k hk => Or.inl hk⟩)
/-- a landed Ideal that lies in blocks newer than w0 -/
def IS (w0 wr : World) (p : Nat) (L : List Ob8) : Prop := ∃ F, IA p wr L F ∧ Below w0.heap.size w0 wr ∧ ∀ k, F k → w0.heap.size ≤ k
section
variable {w0 w w' : World} {p : Nat} {L : List Ob8}
theorem IS.bel (h : IS w0 w p L) : Below w0.heap.size w0 w := h.choose_spec.2.1
theorem IS.up (h : IS w0 w p L) (b : Below w.heap.size w w') : IS w0 w' p L := by
  obtain ⟨F, h1, h2, h3⟩ := h
  exact ⟨F, h1.same b.size (fun k hk => b.block k (h1.lt k hk)), h2.trans (b.mono h2.size), h3⟩
theorem is_new (hb : Below w0.heap.size w0 w) : Calls Try.prog 6 #[] w fun e w' => ∃ p, e = .returned (pV p) ∧ IS w0 w' p [] ∧ Below w.heap.size w w' := by
  refine (inew_c w).mono ?_
  rintro e w' ⟨p, rfl, h1, h2, h3⟩
  refine ⟨p, rfl, ⟨_, ⟨_, _, _, h1, rfl⟩, hb.trans (h3.mono hb.size), ?_⟩, h3⟩
  rintro k (rfl | hk | ⟨j, hj, _⟩)
  · exact Nat.le_trans hb.size h2
  · cases hk
  · simp at hj
theorem is_alloc (h : IS w0 w p L) (c n : Int) (hl : L.length ≤ 10000) (hc : b64 c) (hn : b64 n) : Calls Try.prog 13 #[pV p, .int .i64 c, .int .i64 n] w fun e w' => e = .returned (.int .i64 (alI L c n)) ∧ IS w0 w' p (alL L c n) := by
  obtain ⟨F, h1, h2, h3⟩ := h
  refine (ia_alloc c n h1 hl hc hn).mono ?_
  rintro e w' ⟨rfl, F', g1, g2, g3⟩
  exact ⟨rfl, F', g1, h2.trans (g2.toB h2.size h3), fun k hk => (g3 k hk).elim (h3 k) (fun e => Nat.le_trans h2.size e)⟩
theorem is_put (h : IS w0 w p L) (id i x : Int) (hl : L.length ≤ 10000) (hi : b64 id) (hj : b64 i) (hx : b32 x) : Calls Try.prog 14 #[pV p, .int .i64 id, .int .i64 i, .int .u32 x] w fun e w' => e = .returned (.bool (puB L id i x)) ∧ IS w0 w' p (puL L id i x) := by
  obtain ⟨F, h1, h2, h3⟩ := h
  refine (ia_put id i x h1 hl hi hj hx).mono ?_
  rintro e w' ⟨rfl, g1, g2⟩
  exact ⟨rfl, F, g1, h2.trans (g2.toB h2.size h3), h3⟩
theorem is_get (h : IS w0 w p L) (id i : Int) (hl : L.length ≤ 10000) (hi : b64 id) (hj : b64 i) : Calls Try.prog 9 #[pV p, .int .i64 id, .int .i64 i] w fun e w' => e = .returned (.tuple #[.int .u32 (gvL L id i), .bool (inO L id i)]) ∧ IS w0 w' p L ∧ Below w.heap.size w w' := by
  have h0 := h
  obtain ⟨F, ⟨v, xs, B, h1, rfl⟩, h2, h3⟩ := h
  refine (iget_c h1 id i hi hj (by omega)).mono ?_
  rintro e w' ⟨rfl, g⟩
  exact ⟨rfl, h0.up g, g⟩
theorem is_cls (h : IS w0 w p L) (id : Int) (hl : L.length ≤ 10000) (hi : b64 id) : Calls Try.prog 15 #[pV p, .int .i64 id] w fun e w' => e = .returned (.int .i64 (clsL L id)) ∧ IS w0 w' p L ∧ Below w.heap.size w w' := by
  have h0 := h
  obtain ⟨F, ⟨v, xs, B, h1, rfl⟩, h2, h3⟩ := h
  refine (icls_c h1 id hi (by omega)).mono ?_
  rintro e w' ⟨rfl, g⟩
  exact ⟨rfl, h0.up g, g⟩
theorem is_fld (h : IS w0 w p L) (id : Int) (hl : L.length ≤ 10000) (hi : b64 id) : Calls Try.prog 24 #[pV p, .int .i64 id] w fun e w' => e = .returned (.int .i64 (fldL L id)) ∧ IS w0 w' p L ∧ Below w.heap.size w w' := by
  have h0 := h
  obtain ⟨F, ⟨v, xs, B, h1, rfl⟩, h2, h3⟩ := h
  refine (ifld_c h1 id hi (by omega)).mono ?_
  rintro e w' ⟨rfl, g⟩
  exact ⟨rfl, h0.up g, g⟩
theorem is_len (h : IS w0 w p L) : Calls Try.prog 8 #[pV p] w fun e w' => e = .returned (.int .i64 (L.length : Int)) ∧ w' = w := by
  obtain ⟨F, ⟨v, xs, B, h1, rfl⟩, h2, h3⟩ := h
  exact ilen_c h1
end
def zU : UnitA := ⟨[], [], [], [], 0⟩
theorem zU_right : unitR zU = 3 := by decide +kernel
theorem zU_k (w : World) : UnK w (.agg #[.slice none 0 0, .slice none 0 0, .slice none 0 0, .slice none 0 0, .int .i64 0]) zU :=
  ⟨⟨none, 0, none, 0, none, 0, none, 0, rfl, ⟨⟨none, 0, rfl, by decide, by decide, fun k x h => by simp [zU] at h⟩, ⟨none, 0, rfl, by decide, by decide, fun k x h => by simp [zU] at h⟩, ⟨none, 0, rfl, by decide, by decide, fun k x h => by simp [zU] at h⟩, ⟨none, 0, rfl, by decide, by decide, fun k x h => by simp [zU] at h⟩⟩⟩⟩
end Wd
end Go.Proofs.Yteiejjmhmmkdhaa

/- Turning a program: a row inside it that grows. -/
namespace Go.Proofs.Yteiejjmhmmkdhaa
open Go.RowKit
set_option linter.unusedVariables false
set_option maxRecDepth 20000
namespace Wd
section
variable {w0 W w4 : World} {b : Nat} {N : List ByteArray} {T : List (ClassA × Value)} {M : List (MethA × Value × Value)} {O : List (ObjA × Value)} {nv cv mv ov v4 : Value} {main : Int}
theorem OU.bind {g n cp k : Nat} {cx : ClassA} {bv : Value} {p : Int × Int} (h : OU w0 W (fun _ => False) b N T M O nv (.slice (some ⟨g, 0, none⟩) n cp) mv ov main) (hn : T.length = n) (hx : T[k]? = some (cx, bv)) (hb4 : (cx.binds ++ [p]).length ≤ b + 50) (B4 : Below W.heap.size W w4) (na4 : ∀ k, v4.ownBlock = some k → W.heap.size ≤ k) (hp : PrV w4 v4 (cx.binds ++ [p])) : w4.cell? ⟨g, k * 4 + 3, none⟩ = some bv ∧ w4.frozen? ⟨g, k * 4 + 3, none⟩ = false ∧ OUf w0 (w4.setCell ⟨g, k * 4 + 3, none⟩ v4) (b + 50) := by
  have hk := (List.getElem?_eq_some_iff.1 hx).1
  have h1 := (h.more (b' := b + 50) (I' := fun q => v4.ownBlock = some q) (by omega) (fun q e => e.elim) (fun q e => Or.inr (na4 q e))).up B4
  have ho := h1.oc
  rw [hn] at ho
  have hget := cl4s_get T k _ hx
  have hup := cl4s_set T k _ (cx.binds ++ [p]) v4 hx
  simp only at hget hup
  obtain ⟨s0, f0, nb, pb⟩ := h1.ic _ (List.mem_of_getElem? hx)
  simp only at s0 f0 nb pb
  refine ⟨(ho.cellAt (k * 4 + 3) (by omega)).trans hget.2.2.2, ho.frozenAt (k * 4 + 3), ?_⟩
  exact (h1.cls (k := k) (j := 3) (y := (⟨cx.nm, cx.super, cx.fields, cx.binds ++ [p]⟩, v4)) (u := v4) hn hup ⟨s0, f0, hb4, StP.new hp (fun q e => e)⟩ (h1.cs (cx, bv) (List.mem_of_getElem? hx))).fin (Nat.le_refl _)
end
end Wd
end Go.Proofs.Yteiejjmhmmkdhaa

/- A tape's program, by value. -/
namespace Go.Proofs.Yteiejjmhmmkdhaa
open Go.RowKit
set_option linter.unusedVariables false
set_option maxRecDepth 20000
namespace Wd
theorem UnV.k {w : World} {nv cv mv ov : Value} {U : UnitA} (h : UnV w nv cv mv ov U) (hm : U.main = 6) : UnK w (.agg #[nv, cv, mv, ov, .int .i64 6]) U := by
  obtain ⟨na, nc, rfl, _⟩ := h.n.ex
  obtain ⟨ca, cc, rfl, _⟩ := h.c.ex
  obtain ⟨ma, mc, rfl, _⟩ := h.m.ex
  obtain ⟨oa, oc, rfl, _⟩ := h.o.ex
  exact ⟨⟨na, nc, ca, cc, ma, mc, oa, oc, by rw [hm], h⟩⟩
theorem MeV.of {w : World} {la ca : Option Addr} {nl lc nb cc : Nat} {a t : Int} {L : List (Int × Int)} {C : List Int} (hl : PrV w (.slice la nl lc) L) (hc : ByV w (.slice ca nb cc) C) (ha : In64 a) (ht : In64 t) : MeV w (.agg #[.int .i64 a, .int .i64 t, .slice la nl lc, .slice ca nb cc]) ⟨a, t, L, C⟩ := by
  obtain ⟨_, _, e, _⟩ := hl.ex
  obtain ⟨_, _, e2, _⟩ := hc.ex
  cases e; cases e2
  exact ⟨⟨la, lc, ca, cc, rfl, hl, hc⟩, ha, ht⟩
/-- numbers that came in -/
def NumA (w : World) (ad : Option Addr) (n : Nat) : Prop := ∀ k, k < n → ∃ (g off : Nat) (x : Int), ad = some ⟨g, off, none⟩ ∧ (-9223372036854775808 ≤ x ∧ x ≤ 9223372036854775807) ∧ w.cell? ⟨g, off + k, none⟩ = some (.int .i64 x)
theorem NumA.up {w w1 : World} {ad : Option Addr} {n : Nat} (h : NumA w ad n) (b : Below w.heap.size w w1) : NumA w1 ad n := fun k hk => by
  obtain ⟨g, off, x, e, h1, h2⟩ := h k hk
  exact ⟨g, off, x, e, h1, cell_up b h2⟩
theorem tape_tp {w : World} {ad : Option Addr} {n cap : Nat} (h : NumA w ad n) (hn : n ≤ 4611686018427387904) : Tp (w.alloc (.cells #[.slice ad n cap, .int .i64 0] 31)) w.heap.size ad n := by
  refine ⟨⟨cap, by simp⟩, ⟨0, by omega, by simp⟩, World.frozen?_alloc_new _ _ _ _, fun k hk => ?_, hn⟩
  obtain ⟨g, off, x, e, b, c⟩ := h k hk
  have hg := World.block_lt_of_cell? w _ c
  exact ⟨g, off, x, e, by simp only at hg; omega, b, (World.cell?_alloc_old _ _ _ (Nat.ne_of_lt hg)).trans c⟩
theorem unit_bel {w w' : World} {c : Obj} (h : Cg (fun k => k = w.heap.size) (w.alloc c) w') : Below w.heap.size w w' :=
  ⟨h.os, h.tape, h.output, by have := h.size; simp at this; omega, fun k hk => (h.block k (by simp; omega) (by omega)).trans (Below.heap_alloc _ _ _ hk)⟩
/-- a tape's program, with the rows of its methods: it lies in blocks from s on -/
structure UnT (s : Nat) (w : World) (v : Value) (U : UnitA) (g cap : Nat) (M : List (MethA × Value × Value)) : Prop where
  ex : ∃ na nc ca cc oa oc, v = .agg #[.slice na U.names.length nc, .slice ca U.classes.length cc, .slice (some ⟨g, 0, none⟩) U.methods.length cap, .slice oa U.objects.length oc, .int .i64 U.main]
  un : ∀ (G : Nat → Prop) (w2 : World), Cg G w w2 → (∀ k, G k → k < s) → UnK w2 v U
  mm : M.map (·.1) = U.methods
  ms : ∀ (G : Nat → Prop) (w2 : World), Cg G w w2 → (∀ k, G k → k < s) → ∀ (k : Nat) x, M[k]? = some x → w2.cell? ⟨g, k * 4, none⟩ = some (.int .i64 x.1.args) ∧ w2.cell? ⟨g, k * 4 + 1, none⟩ = some (.int .i64 x.1.temps) ∧ w2.cell? ⟨g, k * 4 + 2, none⟩ = some x.2.1 ∧ w2.cell? ⟨g, k * 4 + 3, none⟩ = some x.2.2 ∧ In64 x.1.args ∧ In64 x.1.temps ∧ PrV w2 x.2.1 x.1.lits ∧ ByV w2 x.2.2 x.1.code
  ta : TapeU U
theorem UnT.cg {s : Nat} {w w1 : World} {v : Value} {U : UnitA} {g cap : Nat} {M : List (MethA × Value × Value)} (h : UnT s w v U g cap M) {F : Nat → Prop} (c : Cg F w w1) (hF : ∀ k, F k → k < s) : UnT s w1 v U g cap M :=
  ⟨h.ex, fun G w2 hG hl => h.un (fun k => F k ∨ G k) w2 ((c.mono (fun k hk => Or.inl hk)).trans (hG.mono (fun k hk => Or.inr hk))) (fun k hk => hk.elim (hF k) (hl k)), h.mm,
    fun G w2 hG hl => h.ms (fun k => F k ∨ G k) w2 ((c.mono (fun k hk => Or.inl hk)).trans (hG.mono (fun k hk => Or.inr hk))) (fun k hk => hk.elim (hF k) (hl k)), h.ta⟩
theorem UnT.up {s : Nat} {w w1 : World} {v : Value} {U : UnitA} {g cap : Nat} {M : List (MethA × Value × Value)} (h : UnT s w v U g cap M) (b : Below w.heap.size w w1) : UnT s w1 v U g cap M := h.cg (Cg.below (fun _ => False) b) (fun _ e => e.elim)
theorem UnT.k {s : Nat} {w : World} {v : Value} {U : UnitA} {g cap : Nat} {M : List (MethA × Value × Value)} (h : UnT s w v U g cap M) : UnK w v U := h.un (fun _ => False) w (Cg.refl _ _) (fun _ e => e.elim)
theorem UnT.m {s : Nat} {w : World} {v : Value} {U : UnitA} {g cap : Nat} {M : List (MethA × Value × Value)} (h : UnT s w v U g cap M) {k : Nat} {x : MethA × Value × Value} (hx : M[k]? = some x) : w.cell? ⟨g, k * 4, none⟩ = some (.int .i64 x.1.args) ∧ w.cell? ⟨g, k * 4 + 1, none⟩ = some (.int .i64 x.1.temps) ∧ w.cell? ⟨g, k * 4 + 2, none⟩ = some x.2.1 ∧ w.cell? ⟨g, k * 4 + 3, none⟩ = some x.2.2 ∧ In64 x.1.args ∧ In64 x.1.temps ∧ PrV w x.2.1 x.1.lits ∧ ByV w x.2.2 x.1.code := h.ms (fun _ => False) w (Cg.refl _ _) (fun _ e => e.elim) k x hx
/-- a method of it, by value -/
theorem UnT.me {s : Nat} {w : World} {v : Value} {U : UnitA} {g cap : Nat} {M : List (MethA × Value × Value)} (h : UnT s w v U g cap M) {k : Nat} {x : MethA × Value × Value} (hx : M[k]? = some x) : MeV w (.agg #[.int .i64 x.1.args, .int .i64 x.1.temps, x.2.1, x.2.2]) x.1 := by
  obtain ⟨_, _, _, _, i1, i2, hl, hc⟩ := h.m hx
  obtain ⟨la, lc, e1, _⟩ := hl.form
  obtain ⟨ca, cc, e2, _⟩ := hc.form
  rw [e1] at hl ⊢
  rw [e2] at hc ⊢
  exact MeV.of hl hc i1 i2
theorem UnT.ml {s : Nat} {w : World} {v : Value} {U : UnitA} {g cap : Nat} {M : List (MethA × Value × Value)} (h : UnT s w v U g cap M) : M.length = 9 ∧ U.methods.length = 9 := by
  have := h.ta.ml
  rw [← h.mm] at this
  exact ⟨by simpa using this, h.ta.ml⟩
set_option maxHeartbeats 4000000 in
theorem unit_t {w : World} {p n : Nat} {ad : Option Addr} (h : Tp w p ad n) :
    Calls Try.prog 5 #[.pointer (some ⟨p, 0, none⟩)] w fun e w' => ∃ v U g cap M, e = .returned v ∧ UnT (w.heap.size + 1) w' v U g cap M ∧ Cg (fun k => k = p) w w' := by
  refine (unit_c h).mono ?_
  rintro e w' ⟨nv, cv, mv, ov, rfl, U, hU, hT, _, hcg, M, hM, hF⟩
  obtain ⟨_, g, cap, e, _⟩ := hF (fun _ => False) w' (Cg.refl _ _) (fun _ e => e.elim)
  subst e
  refine ⟨_, U, g, cap, M, rfl, ⟨?_, fun G w2 hG hl => (hF G w2 hG hl).1.k hT.main, hM, fun G w2 hG hl k x hx => ?_, hT⟩, hcg⟩
  · obtain ⟨na, nc, rfl, _⟩ := hU.n.ex
    obtain ⟨ca, cc, rfl, _⟩ := hU.c.ex
    obtain ⟨oa, oc, rfl, _⟩ := hU.o.ex
    exact ⟨na, nc, ca, cc, oa, oc, by rw [hT.main]⟩
  · obtain ⟨_, g', cap', e', hcl⟩ := hF G w2 hG hl
    cases e'
    exact hcl k x hx
end Wd
end Go.Proofs.Yteiejjmhmmkdhaa

/- The chapter's runs. -/
namespace Go.Proofs.Yteiejjmhmmkdhaa
open Go.RowKit
set_option linter.unusedVariables false
set_option maxRecDepth 20000
namespace Wd
def kL1 : List Ob8 := [(2, [2, 2, 2])]
def kL2 : List Ob8 := [(2, [2, 2, 9])]
section
variable {w0 w w' : World} {p : Nat}
theorem kn_a1 (h : IS w0 w p []) : Calls Try.prog 13 #[pV p, .int .i64 2, .int .i64 3] w fun e w' => e = .returned (.int .i64 4) ∧ IS w0 w' p kL1 := by
  have := is_alloc h 2 3 (by decide) ⟨by decide, by decide⟩ ⟨by decide, by decide⟩
  rwa [show alI [] 2 3 = 4 by decide, show alL [] 2 3 = kL1 by decide] at this
theorem kn_p1 (h : IS w0 w p kL1) : Calls Try.prog 14 #[pV p, .int .i64 4, .int .i64 2, .int .u32 9] w fun e w' => e = .returned (.bool true) ∧ IS w0 w' p kL2 := by
  have := is_put h 4 2 9 (by decide) ⟨by decide, by decide⟩ ⟨by decide, by decide⟩ ⟨by decide, by decide⟩
  rwa [show puB kL1 4 2 9 = true by decide, show puL kL1 4 2 9 = kL2 by decide] at this
theorem kn_g1 (h : IS w0 w p kL2) : Calls Try.prog 9 #[pV p, .int .i64 4, .int .i64 2] w fun e w' => e = .returned (.tuple #[.int .u32 9, .bool true]) ∧ IS w0 w' p kL2 := by
  have := is_get h 4 2 (by decide) ⟨by decide, by decide⟩ ⟨by decide, by decide⟩
  rw [show gvL kL2 4 2 = 9 by decide, show inO kL2 4 2 = true by decide] at this
  exact this.mono (by rintro e w' ⟨h1, h2, _⟩; exact ⟨h1, h2⟩)
theorem kn_g2 (h : IS w0 w p kL2) : Calls Try.prog 9 #[pV p, .int .i64 5, .int .i64 0] w fun e w' => e = .returned (.tuple #[.int .u32 0, .bool false]) ∧ IS w0 w' p kL2 := by
  have := is_get h 5 0 (by decide) ⟨by decide, by decide⟩ ⟨by decide, by decide⟩
  rw [show gvL kL2 5 0 = 0 by decide, show inO kL2 5 0 = false by decide] at this
  exact this.mono (by rintro e w' ⟨h1, h2, _⟩; exact ⟨h1, h2⟩)
theorem kn_c1 (h : IS w0 w p kL2) : Calls Try.prog 15 #[pV p, .int .i64 4] w fun e w' => e = .returned (.int .i64 2) ∧ IS w0 w' p kL2 := by
  have := is_cls h 4 (by decide) ⟨by decide, by decide⟩
  rw [show clsL kL2 4 = 2 by decide] at this
  exact this.mono (by rintro e w' ⟨h1, h2, _⟩; exact ⟨h1, h2⟩)
theorem kn_c2 (h : IS w0 w p kL2) : Calls Try.prog 15 #[pV p, .int .i64 5] w fun e w' => e = .returned (.int .i64 (-1)) ∧ IS w0 w' p kL2 := by
  have := is_cls h 5 (by decide) ⟨by decide, by decide⟩
  rw [show clsL kL2 5 = -1 by decide] at this
  exact this.mono (by rintro e w' ⟨h1, h2, _⟩; exact ⟨h1, h2⟩)
theorem kn_f1 (h : IS w0 w p kL2) : Calls Try.prog 24 #[pV p, .int .i64 4] w fun e w' => e = .returned (.int .i64 3) ∧ IS w0 w' p kL2 := by
  have := is_fld h 4 (by decide) ⟨by decide, by decide⟩
  rw [show fldL kL2 4 = 3 by decide] at this
  exact this.mono (by rintro e w' ⟨h1, h2, _⟩; exact ⟨h1, h2⟩)
theorem kn_a2 (h : IS w0 w p kL2) : Calls Try.prog 13 #[pV p, .int .i64 4096, .int .i64 1] w fun e w' => e = .returned (.int .i64 (-1)) ∧ IS w0 w' p kL2 := by
  have := is_alloc h 4096 1 (by decide) ⟨by decide, by decide⟩ ⟨by decide, by decide⟩
  rwa [show alI kL2 4096 1 = -1 by decide, show alL kL2 4096 1 = kL2 by decide] at this
theorem kn_a3 (h : IS w0 w p kL2) : Calls Try.prog 13 #[pV p, .int .i64 1, .int .i64 63] w fun e w' => e = .returned (.int .i64 (-1)) ∧ IS w0 w' p kL2 := by
  have := is_alloc h 1 63 (by decide) ⟨by decide, by decide⟩ ⟨by decide, by decide⟩
  rwa [show alI kL2 1 63 = -1 by decide, show alL kL2 1 63 = kL2 by decide] at this
theorem kn_p2 (h : IS w0 w p kL2) : Calls Try.prog 14 #[pV p, .int .i64 4, .int .i64 0, .int .u32 0] w fun e w' => e = .returned (.bool false) ∧ IS w0 w' p kL2 := by
  have := is_put h 4 0 0 (by decide) ⟨by decide, by decide⟩ ⟨by decide, by decide⟩ ⟨by decide, by decide⟩
  rwa [show puB kL2 4 0 0 = false by decide, show puL kL2 4 0 0 = kL2 by decide] at this
theorem kn_l1 (h : IS w0 w p kL2) : Calls Try.prog 8 #[pV p] w fun e w' => e = .returned (.int .i64 1) ∧ IS w0 w' p kL2 :=
  (is_len h).mono (by rintro e w' ⟨h1, rfl⟩; exact ⟨h1, h⟩)
theorem kn_z (h : IS w0 w p kL2) : Calls Try.prog 7 #[.iface 33 (pV p), .agg #[.slice none 0 0, .slice none 0 0, .slice none 0 0, .slice none 0 0, .int .i64 0]] w fun e w' => e = .returned (.tuple #[.slice none 0 0, .bool false]) ∧ IS w0 w' p kL2 :=
  (load_bad (zU_k w) (by rw [zU_right]; decide) _ _).mono (by rintro e w' ⟨h1, h2⟩; exact ⟨h1, h.up h2⟩)
theorem kn_u (h : IS w0 w p kL2) : Calls Try.prog 5 #[.pointer (some ⟨w.heap.size, 0, none⟩)] (w.alloc (.cells #[.slice none 0 0, .int .i64 0] 31)) fun e w' => ∃ v U, e = .returned v ∧ UnK w' v U ∧ IS w0 w' p kL2 := by
  refine (unit_t (tape_tp (ad := none) (n := 0) (cap := 0) (fun k hk => by omega) (by omega))).mono ?_
  rintro e w' ⟨v, U, g, cap, M, rfl, hU, hc⟩
  exact ⟨v, U, rfl, hU.k, h.up (unit_bel hc)⟩
theorem kn_n {v : Value} {U : UnitA} (hu : UnK w v U) (h : IS w0 w p kL2) : Calls Try.prog 7 #[.nilIface, v] w fun e w' => e = .returned (.tuple #[.slice none 0 0, .bool false]) ∧ IS w0 w' p kL2 :=
  (load_nil hu).mono (by rintro e w' ⟨h1, h2⟩; exact ⟨h1, h.up h2⟩)
end
theorem builtUn8 : Try.prog.built 28 [] = some #[.slice none 0 0, .slice none 0 0, .slice none 0 0, .slice none 0 0, .int .i64 0] := by kernel_rfl
theorem builtTp8 : Try.prog.built 31 [] = some #[.slice none 0 0, .int .i64 0] := by kernel_rfl
set_option maxHeartbeats 16000000 in
theorem known8_c (w : World) : Calls Try.prog 12 #[] w fun e w' => e = .returned (.bool true) ∧ Below w.heap.size w w' := by
  have hb1 := builtUn8
  have hb2 := builtTp8
  go_enter Try.func12, Try.ntmps12
  simp only [List.append_eq, List.cons_append, List.nil_append]
  go_upto_region 4 with (go_at_call 6; refine (is_new (Below.refl _ _)).mono ?_; rintro e w1 ⟨p, rfl, h1, _⟩; replace h1 := Lib.hid h1)
  go_upto_region 5 with (go_at_call 13; refine (kn_a1 h1.out).mono ?_; rintro e w2 ⟨rfl, h2⟩; replace h2 := Lib.hid h2)
  go_upto_region 6 with (go_at_call 14; refine (kn_p1 h2.out).mono ?_; rintro e w3 ⟨rfl, h3⟩; replace h3 := Lib.hid h3)
  clear h1 h2
  go_upto_region 7 with (go_at_call 9; refine (kn_g1 h3.out).mono ?_; rintro e w4 ⟨rfl, h4⟩; replace h4 := Lib.hid h4)
  go_upto_region 8 with (go_at_call 9; refine (kn_g2 h4.out).mono ?_; rintro e w5 ⟨rfl, h5⟩; replace h5 := Lib.hid h5)
  clear h3 h4
  go_upto_region 9 with (go_at_call 7; refine (kn_z h5.out).mono ?_; rintro e w6 ⟨rfl, h6⟩; replace h6 := Lib.hid h6)
  go_upto_region 10 with (first | (go_at_call 5; refine (kn_u h6.out).mono ?_; rintro e w7 ⟨v, U, rfl, hu, h7⟩; replace h7 := Lib.hid h7; replace hu := Lib.hid hu) | (go_at_call 7; refine (kn_n hu.out h7.out).mono ?_; rintro e w8 ⟨rfl, h8⟩; replace h8 := Lib.hid h8))
  clear h5 h6 h7 hu
  go_wp2_with (first | (go_at_call 15; with_reducible refine (kn_c1 h8.out).mono ?_; rintro e w9 ⟨rfl, h9⟩; replace h9 := Lib.hid h9) | (go_at_call 24; with_reducible refine (kn_f1 h9.out).mono ?_; rintro e w10 ⟨rfl, h10⟩; replace h10 := Lib.hid h10) | (go_at_call 15; with_reducible refine (kn_c2 h10.out).mono ?_; rintro e w11 ⟨rfl, h11⟩; replace h11 := Lib.hid h11) | (go_at_call 8; with_reducible refine (kn_l1 h11.out).mono ?_; rintro e w12 ⟨rfl, h12⟩; replace h12 := Lib.hid h12) | (go_at_call 13; with_reducible refine (kn_a2 h12.out).mono ?_; rintro e w13 ⟨rfl, h13⟩; replace h13 := Lib.hid h13) | (go_at_call 13; with_reducible refine (kn_a3 h13.out).mono ?_; rintro e w14 ⟨rfl, h14⟩; replace h14 := Lib.hid h14) | (go_at_call 14; with_reducible refine (kn_p2 h14.out).mono ?_; rintro e w15 ⟨rfl, h15⟩; replace h15 := Lib.hid h15))
  go_ret
  exact ⟨rfl, h15.out.bel⟩
end Wd
end Go.Proofs.Yteiejjmhmmkdhaa

/- Identities are told one by one; what is put stays. -/
namespace Go.Proofs.Yteiejjmhmmkdhaa
open Go.RowKit
set_option linter.unusedVariables false
set_option maxRecDepth 20000
namespace Wd
/-- asks that came in: kind, two numbers, a word -/
def AskV8 (w : World) (ad : Option Addr) (n : Nat) : Prop := ∀ k, k < n → ∃ (g off : Nat) (x y z u : Int), ad = some ⟨g, off, none⟩ ∧ b64 x ∧ b64 y ∧ b64 z ∧ b64 u ∧ w.cell? ⟨g, off + k * 4, none⟩ = some (.int .i64 x) ∧ w.cell? ⟨g, off + k * 4 + 1, none⟩ = some (.int .i64 y) ∧ w.cell? ⟨g, off + k * 4 + 2, none⟩ = some (.int .i64 z) ∧ w.cell? ⟨g, off + k * 4 + 3, none⟩ = some (.int .i64 u)
theorem AskV8.fn {w : World} {ad : Option Addr} {n : Nat} (h : AskV8 w ad n) : ∃ f : Nat → Int × Int × Int × Int, ∀ k, k < n → (b64 (f k).1 ∧ b64 (f k).2.1 ∧ b64 (f k).2.2.1 ∧ b64 (f k).2.2.2) ∧ ∃ g off, ad = some ⟨g, off, none⟩ ∧ w.cell? ⟨g, off + k * 4, none⟩ = some (.int .i64 (f k).1) ∧ w.cell? ⟨g, off + k * 4 + 1, none⟩ = some (.int .i64 (f k).2.1) ∧ w.cell? ⟨g, off + k * 4 + 2, none⟩ = some (.int .i64 (f k).2.2.1) ∧ w.cell? ⟨g, off + k * 4 + 3, none⟩ = some (.int .i64 (f k).2.2.2) := by
  have H : ∀ k, ∃ q : Int × Int × Int × Int, k < n → (b64 q.1 ∧ b64 q.2.1 ∧ b64 q.2.2.1 ∧ b64 q.2.2.2) ∧ ∃ g off, ad = some ⟨g, off, none⟩ ∧ w.cell? ⟨g, off + k * 4, none⟩ = some (.int .i64 q.1) ∧ w.cell? ⟨g, off + k * 4 + 1, none⟩ = some (.int .i64 q.2.1) ∧ w.cell? ⟨g, off + k * 4 + 2, none⟩ = some (.int .i64 q.2.2.1) ∧ w.cell? ⟨g, off + k * 4 + 3, none⟩ = some (.int .i64 q.2.2.2) := fun k => by
    by_cases hk : k < n
    · obtain ⟨g, off, x, y, z, u, e, b0, b1, b2, b3, c0, c1, c2, c3⟩ := h k hk
      exact ⟨(x, y, z, u), fun _ => ⟨⟨b0, b1, b2, b3⟩, g, off, e, c0, c1, c2, c3⟩⟩
    · exact ⟨(0, 0, 0, 0), fun e => absurd e hk⟩
  obtain ⟨f, hf⟩ := Classical.axiomOfChoice H
  exact ⟨f, hf⟩
def kc (y : Int) : Int := bits .and .i64 y 15
def kj (z : Int) : Int := bits .and .i64 z 7
def kv (u : Int) : Int := bits .or .u32 (u % 4294967296) 1
theorem kc_bd (y : Int) : 0 ≤ kc y ∧ kc y ≤ 15 := by unfold kc; rw [i64_and15]; omega
theorem kj_bd (y : Int) : 0 ≤ kj y ∧ kj y ≤ 7 := by unfold kj; rw [i64_and7]; omega
theorem kv_bd (u : Int) : 1 ≤ kv u ∧ kv u ≤ 4294967295 := by
  have hb := bits_bd .or (u % 4294967296) 1
  refine ⟨?_, hb.2⟩
  unfold kv
  rw [u32_or _ 1 (by omega) (by omega) (by decide) (by decide)]
  have := Nat.right_le_or (n := (u % 4294967296).toNat) (m := (1 : Int).toNat)
  have e : (1 : Int).toNat = 1 := rfl
  omega
def obK (f : Nat → Int × Int × Int × Int) (k : Nat) : Ob8 := puO (newO (kc (f k).2.1) (1 + kj (f k).2.2.1)) (kj (f k).2.2.1) (kv (f k).2.2.2)
def LK (f : Nat → Int × Int × Int × Int) (i : Nat) : List Ob8 := (List.range i).map (obK f)
theorem LK_len (f) (i : Nat) : (LK f i).length = i := by simp [LK]
theorem LK_at (f) {i k : Nat} (h : k < i) : (LK f i)[k]? = some (obK f k) := by simp [LK, h]
theorem LK_al (f) (i : Nat) : alI (LK f i) (kc (f i).2.1) (1 + kj (f i).2.2.1) = 4 + (i : Int) ∧ alL (LK f i) (kc (f i).2.1) (1 + kj (f i).2.2.1) = LK f i ++ [newO (kc (f i).2.1) (1 + kj (f i).2.2.1)] := by
  have h1 := kc_bd (f i).2.1
  have h2 := kj_bd (f i).2.2.1
  have : okA (kc (f i).2.1) (1 + kj (f i).2.2.1) = true := by unfold okA; rw [Bool.and_eq_true, decide_eq_true_eq, decide_eq_true_eq]; omega
  unfold alI alL
  rw [this, if_pos rfl, if_pos rfl, LK_len]
  exact ⟨rfl, rfl⟩
theorem LK_pu (f) (i : Nat) : puB (LK f i ++ [newO (kc (f i).2.1) (1 + kj (f i).2.2.1)]) (4 + (i : Int)) (kj (f i).2.2.1) (kv (f i).2.2.2) = true ∧ puL (LK f i ++ [newO (kc (f i).2.1) (1 + kj (f i).2.2.1)]) (4 + (i : Int)) (kj (f i).2.2.1) (kv (f i).2.2.2) = LK f (i + 1) := by
  have h2 := kj_bd (f i).2.2.1
  have h3 := kv_bd (f i).2.2.2
  have hat : (LK f i ++ [newO (kc (f i).2.1) (1 + kj (f i).2.2.1)])[i]? = some (newO (kc (f i).2.1) (1 + kj (f i).2.2.1)) := by
    rw [List.getElem?_append_right (by rw [LK_len]; omega), LK_len]; simp
  obtain ⟨e1, e2⟩ := hasL_at hat
  have hb : puB (LK f i ++ [newO (kc (f i).2.1) (1 + kj (f i).2.2.1)]) (4 + (i : Int)) (kj (f i).2.2.1) (kv (f i).2.2.2) = true := by
    unfold puB inO
    rw [e1, e2, Bool.and_eq_true, Bool.true_and, decide_eq_true_eq, decide_eq_true_eq]
    refine ⟨?_, by omega⟩
    simp only [newO, List.length_replicate]
    omega
  refine ⟨hb, ?_⟩
  unfold puL
  rw [hb, if_pos rfl, e2, show (4 + (i : Int) - 4).toNat = i by omega]
  unfold LK
  rw [List.range_succ, List.map_append]
  have hl : i = ((List.range i).map (obK f)).length := by simp
  conv => lhs; arg 2; rw [hl]
  rw [List.set_append_right _ _ (by omega), Nat.sub_self]
  rfl
theorem LK_fin (f) {m k : Nat} (h : k < m) : gvL (LK f m) (4 + (k : Int)) (kj (f k).2.2.1) = kv (f k).2.2.2 ∧ inO (LK f m) (4 + (k : Int)) (kj (f k).2.2.1) = true ∧ clsL (LK f m) (4 + (k : Int)) = kc (f k).2.1 := by
  have h2 := kj_bd (f k).2.2.1
  obtain ⟨e1, e2⟩ := hasL_at (LK_at f h)
  have hin : inO (LK f m) (4 + (k : Int)) (kj (f k).2.2.1) = true := by
    unfold inO
    rw [e1, e2, Bool.true_and, decide_eq_true_eq]
    simp only [obK, puO, newO, List.length_set, List.length_replicate]
    omega
  refine ⟨?_, hin, ?_⟩
  · unfold gvL
    rw [hin, if_pos rfl, e2]
    simp only [obK, puO, newO]
    rw [List.getD_eq_getElem?_getD, List.getElem?_set_self (by simp only [List.length_replicate]; omega)]
    rfl
  · unfold clsL
    rw [e1, if_pos rfl, e2]
    rfl
end Wd
end Go.Proofs.Yteiejjmhmmkdhaa

/- The shell: what came in, as the form reads it, opened: a slice of asks. -/
namespace Go.Proofs.Yteiejjmhmmkdhaa
open Go.ChangeShapes Go.WideShapes Go.ChangeAt Go.RowKit
set_option linter.unusedVariables false
set_option maxRecDepth 100000
namespace Wd
theorem laidOut : laidOutB Try.prog = true := by kernel_rfl
theorem cellsI9 : Try.prog.cellsOf 3 = 1 := by kernel_rfl
theorem cellsA9 : Try.prog.cellsOf 54 = 4 := by kernel_rfl
theorem bytesI9 : Try.prog.bytesOf 3 = 8 := by kernel_rfl
theorem bytesAsk : Try.prog.bytesOf 54 = 32 := by kernel_rfl
theorem list4 {α : Type} (l : List α) (h : l.length = 4) : ∃ a b c d, l = [a, b, c, d] := by
  match l, h with
  | [a, b, c, d], _ => exact ⟨a, b, c, d, rfl⟩
variable {H : Type} {enc : TypeId × Value → H} {W : World}
theorem nums_raw {n : Nat} {c : Value} {y : DataW H × List MemPlace} (h : DataW.trod enc Try.prog W 0 (fun _ => true) true n 22 [c] = some y) : ∃ ad len cap, c = .slice ad len cap ∧ NumA W ad len := by
  rcases DataW.trod_slice Try.underlying22 h with ⟨hcs, hx⟩ | ⟨a, len, cap, elems, rest, m, _, hcs, hx, hb, hl, hm, hlen, hel, _, _⟩
  · simp at hcs
    exact ⟨none, 0, 0, hcs, fun k hk => absurd hk (by omega)⟩
  · simp at hcs
    have hsp : 0 < len → a.spot = none := fun h0 => by
      obtain ⟨z, hz⟩ : ∃ z, elems[0]? = some z := ⟨elems[0]'(by omega), by simp⟩
      have hk1 := hel 0 h0
      rw [hz, cellsI9, Option.bind_eq_some_iff] at hk1
      obtain ⟨cs, hc, ht⟩ := hk1
      obtain ⟨_, hcl, hcc⟩ := World.cells?_some hc
      obtain ⟨x, e0, _, w0⟩ := DataW.trod_int Try.underlying3 ht
      subst e0
      have hs := World.cell?_spot ((hcc 0 (by omega)).trans (show [Value.int IntKind.i64 x][0]? = some (.int .i64 x) from rfl))
      simpa [Addr.add] using hs
    refine ⟨some a, len, cap, hcs, fun k hk => ?_⟩
    obtain ⟨z, hz⟩ : ∃ z, elems[k]? = some z := ⟨elems[k]'(by omega), by simp⟩
    have hk1 := hel k hk
    rw [hz, cellsI9, Option.bind_eq_some_iff] at hk1
    obtain ⟨cs, hc, ht⟩ := hk1
    obtain ⟨_, hcl, hcc⟩ := World.cells?_some hc
    obtain ⟨x, e0, _, w0⟩ := DataW.trod_int Try.underlying3 ht
    subst e0
    have h0 := hcc 0 (by omega)
    obtain ⟨b, off, spot⟩ := a
    have hspot : spot = none := hsp (by omega)
    subst hspot
    simp only [Addr.add_lit, Nat.add_zero, Nat.mul_one] at h0
    exact ⟨b, off, x, rfl, bounds_i64 w0, h0⟩
theorem nums_of {base : Nat} {v : Value} {d : DataW H} {p : List MemPlace} (hv : Value.okWide Try.prog W .any base 22 v) (h : DataW.Trod enc Try.prog W 0 (fun _ => true) true 22 v d p) : ∃ ad len cap, v = .slice ad len cap ∧ NumA W ad len ∧ ((d = .nil ∧ len = 0) ∨ ∃ elems spare, d = .slice elems spare ∧ len ≤ elems.length) := by
  obtain ⟨a0, len, cap, rfl⟩ := okWide_slice Try.underlying22 hv
  obtain ⟨fuel, hf⟩ := h
  obtain ⟨ad, len', cap', e, hN⟩ := nums_raw (c := .slice a0 len cap) (by simpa [Value.cells] using hf)
  cases e
  refine ⟨_, _, _, rfl, hN, ?_⟩
  rcases DataW.trod_slice Try.underlying22 hf with ⟨hcs, hx⟩ | ⟨a, len', cap', elems, rest, n, _, hcs, hx, hb, hl, hm, hlen, hel, _, _⟩
  · simp [Value.cells] at hcs
    obtain ⟨rfl, rfl, rfl⟩ := hcs
    simp only [Prod.mk.injEq] at hx
    exact Or.inl ⟨hx.1, rfl⟩
  · simp [Value.cells] at hcs
    obtain ⟨rfl, rfl, rfl⟩ := hcs
    simp only [Prod.mk.injEq] at hx
    exact Or.inr ⟨_, _, hx.1, by simp; omega⟩
theorem asks_raw {n : Nat} {c : Value} {y : DataW H × List MemPlace} (h : DataW.trod enc Try.prog W 0 (fun _ => true) true n 50 [c] = some y) : ∃ ad len cap, c = .slice ad len cap ∧ AskV8 W ad len := by
  rcases DataW.trod_slice Try.underlying50 h with ⟨hcs, hx⟩ | ⟨a, len, cap, elems, rest, m, _, hcs, hx, hb, hl, hm, hlen, hel, _, _⟩
  · simp at hcs
    exact ⟨none, 0, 0, hcs, fun k hk => absurd hk (by omega)⟩
  · simp at hcs
    have hsp : 0 < len → a.spot = none := fun h0 => by
      obtain ⟨z, hz⟩ : ∃ z, elems[0]? = some z := ⟨elems[0]'(by omega), by simp⟩
      have hk1 := hel 0 h0
      rw [hz, cellsA9, Option.bind_eq_some_iff] at hk1
      obtain ⟨cs, hc, ht⟩ := hk1
      obtain ⟨_, hcl, hcc⟩ := World.cells?_some hc
      obtain ⟨c0, c1, c2, c3, rfl⟩ := list4 cs hcl
      have hs := World.cell?_spot ((hcc 0 (by omega)).trans (show [c0, c1, c2, c3][0]? = some c0 from rfl))
      simpa [Addr.add] using hs
    refine ⟨some a, len, cap, hcs, fun k hk => ?_⟩
    obtain ⟨z, hz⟩ : ∃ z, elems[k]? = some z := ⟨elems[k]'(by omega), by simp⟩
    have hk1 := hel k hk
    rw [hz, cellsA9, Option.bind_eq_some_iff] at hk1
    obtain ⟨cs, hc, ht⟩ := hk1
    obtain ⟨_, hcl, hcc⟩ := World.cells?_some hc
    obtain ⟨xs, n', _, _, _, hxl, hg⟩ := DataW.trod_struct Try.underlying54 ht
    obtain ⟨y0, y1, y2, y3, rfl⟩ := list4 xs hxl
    obtain ⟨c0, c1, c2, c3, rfl⟩ := list4 cs hcl
    have g0 : DataW.trod enc Try.prog W 0 (fun _ => true) true n' 3 (([c0, c1, c2, c3].drop 0).take (Try.prog.cellsOf 3)) = some y0 := hg 0 _ rfl
    have g1 : DataW.trod enc Try.prog W 0 (fun _ => true) true n' 3 (([c0, c1, c2, c3].drop 1).take (Try.prog.cellsOf 3)) = some y1 := hg 1 _ rfl
    have g2 : DataW.trod enc Try.prog W 0 (fun _ => true) true n' 3 (([c0, c1, c2, c3].drop 2).take (Try.prog.cellsOf 3)) = some y2 := hg 2 _ rfl
    have g3 : DataW.trod enc Try.prog W 0 (fun _ => true) true n' 3 (([c0, c1, c2, c3].drop 3).take (Try.prog.cellsOf 3)) = some y3 := hg 3 _ rfl
    rw [cellsI9] at g0 g1 g2 g3
    obtain ⟨x, e0, _, w0⟩ := DataW.trod_int Try.underlying3 g0
    obtain ⟨q, e1, _, w1⟩ := DataW.trod_int Try.underlying3 g1
    obtain ⟨r, e2, _, w2⟩ := DataW.trod_int Try.underlying3 g2
    obtain ⟨s, e3, _, w3⟩ := DataW.trod_int Try.underlying3 g3
    simp at e0 e1 e2 e3
    subst e0 e1 e2 e3
    have h0 := hcc 0 (by omega)
    have h1 := hcc 1 (by omega)
    have h2 := hcc 2 (by omega)
    have h3 := hcc 3 (by omega)
    obtain ⟨b, off, spot⟩ := a
    have hspot : spot = none := hsp (by omega)
    subst hspot
    simp only [Addr.add_lit, Nat.add_zero] at h0 h1 h2 h3
    exact ⟨b, off, x, q, r, s, rfl, bounds_i64 w0, bounds_i64 w1, bounds_i64 w2, bounds_i64 w3, h0, h1, h2, h3⟩
theorem asks_of {base : Nat} {v : Value} {d : DataW H} {p : List MemPlace} (hv : Value.okWide Try.prog W .any base 50 v) (h : DataW.Trod enc Try.prog W 0 (fun _ => true) true 50 v d p) : ∃ ad len cap, v = .slice ad len cap ∧ AskV8 W ad len ∧ ((d = .nil ∧ len = 0) ∨ ∃ elems spare, d = .slice elems spare ∧ len ≤ elems.length) := by
  obtain ⟨a0, len, cap, rfl⟩ := okWide_slice Try.underlying50 hv
  obtain ⟨fuel, hf⟩ := h
  obtain ⟨ad, len', cap', e, hN⟩ := asks_raw (c := .slice a0 len cap) (by simpa [Value.cells] using hf)
  cases e
  refine ⟨_, _, _, rfl, hN, ?_⟩
  rcases DataW.trod_slice Try.underlying50 hf with ⟨hcs, hx⟩ | ⟨a, len', cap', elems, rest, n, _, hcs, hx, hb, hl, hm, hlen, hel, _, _⟩
  · simp [Value.cells] at hcs
    obtain ⟨rfl, rfl, rfl⟩ := hcs
    simp only [Prod.mk.injEq] at hx
    exact Or.inl ⟨hx.1, rfl⟩
  · simp [Value.cells] at hcs
    obtain ⟨rfl, rfl, rfl⟩ := hcs
    simp only [Prod.mk.injEq] at hx
    exact Or.inr ⟨_, _, hx.1, by simp; omega⟩
end Wd
end Go.Proofs.Yteiejjmhmmkdhaa
