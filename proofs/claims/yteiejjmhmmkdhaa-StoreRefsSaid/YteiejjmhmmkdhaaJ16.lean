/- Texts joined: UTR, WU, WX. -/
import Derived.Test.YteiejjmhmmkdhaaJ9
import Derived.Test.YteiejjmhmmkdhaaJ10
import Derived.Test.YteiejjmhmmkdhaaJ12
import Derived.Test.YteiejjmhmmkdhaaJ14
import Derived.Test.YteiejjmhmmkdhaaJ15
import Derived.Tactics2
import Derived.BigFrame
/- A tape's program is right, whatever objects that are right it has; with another main it is as good as that. -/
namespace Go.Proofs.Yteiejjmhmmkdhaa
open Go.RowKit
set_option linter.unusedVariables false
set_option maxRecDepth 20000
namespace Wd
theorem first_skip : ∀ (A B : List Int), (∀ x ∈ A, x = 0) → firstE (A ++ B) = firstE B
  | [], B, _ => rfl
  | x :: A, B, h => by
    rw [List.cons_append, firstE, if_pos (h x (by simp))]
    exact first_skip A B (fun y hy => h y (by simp [hy]))
theorem first_one (x : Int) : firstE [x] = x := by
  unfold firstE
  split
  · next e => rw [e]; rfl
  · rfl
/-- rows that go up, of numbers from k on, f of them -/
def ups : Nat → Nat → List (List Nat)
  | 0, _ => [[]]
  | f + 1, k => ups f (k + 1) ++ (ups f (k + 1)).map (k :: ·)
theorem ups_mem : ∀ (f k : Nat) (S : List Nat), S.Pairwise (· < ·) → (∀ s ∈ S, k ≤ s ∧ s < k + f) → S ∈ ups f k
  | 0, k, [], _, _ => by simp [ups]
  | 0, k, s :: S, _, h => by have := h s (by simp); omega
  | f + 1, k, [], _, _ => by
    unfold ups
    exact List.mem_append_left _ (ups_mem f (k + 1) [] List.Pairwise.nil (by simp))
  | f + 1, k, s :: S, hp, h => by
    unfold ups
    have hs := h s (by simp)
    have hS := List.pairwise_cons.1 hp
    by_cases e : s = k
    · subst e
      exact List.mem_append_right _ (List.mem_map_of_mem (ups_mem f (s + 1) S hS.2 (fun x hx => by have := hS.1 x hx; have := h x (by simp [hx]); omega)))
    · refine List.mem_append_left _ (ups_mem f (k + 1) (s :: S) hp (fun x hx => ?_))
      have h2 := h x hx
      rcases List.mem_cons.1 hx with e1 | e1
      · subst e1; omega
      · have := hS.1 x e1; omega
theorem ups_fit : ∀ S ∈ ups 6 0, eBinds (S.map (fun (s : Nat) => ((s : Int), (s : Int)))) = 0 := by decide +kernel
theorem bnd_fit {B : List (Int × Int)} (h : bndSub 6 B) : eBinds B = 0 := by
  obtain ⟨S, h1, h2, rfl⟩ := h
  exact ups_fit S (ups_mem 6 0 S h1 (fun s hs => by have := h2 s hs; omega))
theorem name_args : ∀ s : Nat, s < 6 → argsR (nmAt nameL (s : Int)) = argOf s := by decide +kernel
theorem name_ok : namesB nameL = true := by decide +kernel
theorem eArgs_zero {U : UnitA} : ∀ (C : List ClassA), (∀ c ∈ C, ∀ b ∈ c.binds, eArg U b = 0) → ∀ x ∈ eArgs U C, x = 0
  | [], _, x, hx => by simp [eArgs] at hx
  | c :: C, h, x, hx => by
    unfold eArgs at hx
    rcases List.mem_append.1 hx with hx | hx
    · obtain ⟨b, hb, rfl⟩ := List.mem_map.1 hx
      exact h c (by simp) b hb
    · exact eArgs_zero C (fun c hc => h c (by simp [hc])) x hx
/-- a program of a tape's names, classes and methods, and of objects that are right -/
structure TapeM (T U : UnitA) : Prop where
  ta : TapeU T
  n : U.names = T.names
  c : U.classes = T.classes
  m : U.methods = T.methods
  o1 : 1 ≤ U.objects.length
  o2 : U.objects.length ≤ 40
  ob : ∀ x ∈ U.objects, objB x U.classes U.objects.length = true
theorem TapeM.unit {T U : UnitA} (h : TapeM T U) : unitR U = mainE U := by
  have hn : U.names = nameL := h.n.trans h.ta.names
  have hml : U.methods.length = 9 := by rw [h.m]; exact h.ta.ml
  have hlong : longB U = false := by
    unfold longB
    rw [hn, hml]
    rw [decide_eq_false (show ¬ 48 < nameL.length by decide), decide_eq_false (show ¬ 9 < 1 by decide), decide_eq_false (show ¬ 32 < 9 by decide), decide_eq_false (show ¬ U.objects.length < 1 by have := h.o1; omega), decide_eq_false (show ¬ 40 < U.objects.length by have := h.o2; omega)]
    rfl
  have hsh : shapeR U.classes U.names.length U.methods.length = 0 := by
    rw [hn, hml, h.c]
    exact tape_right h.ta.tl (by have := h.ta.cl0; omega)
  unfold unitR
  rw [firstE, if_pos (by rw [hlong]; rfl), firstE, if_pos (by rw [hn, name_ok]; rfl), firstE, if_pos hsh]
  unfold restC
  rw [List.drop_zero, first_skip _ _ (fun x hx => ?_)]
  · unfold restM
    rw [List.drop_zero, first_skip _ _ (fun x hx => ?_)]
    · unfold restA
      rw [List.drop_zero, first_skip _ _ (eArgs_zero _ (fun c hc b hb => ?_))]
      · unfold restO
        rw [List.drop_zero, first_skip _ _ (fun x hx => ?_), first_one]
        obtain ⟨y, hy, rfl⟩ := List.mem_map.1 hx
        rw [if_pos (h.ob y hy)]
      · rw [h.c] at hc
        obtain ⟨k, hk⟩ := List.getElem?_of_mem hc
        obtain ⟨_, _, S, _, h2, e⟩ := h.ta.cls k c hk
        rw [e] at hb
        obtain ⟨s, hs, rfl⟩ := List.mem_map.1 hb
        have hs6 := h2 s hs
        unfold eArg
        rw [if_pos]
        simp only
        rw [hn, name_args s hs6]
        obtain ⟨x, hx⟩ : ∃ x, T.methods[s]? = some x := ⟨T.methods[s]'(by rw [h.ta.ml]; omega), by simp⟩
        unfold agAt
        rw [h.m, Int.toNat_natCast, hx]
        simp only
        rw [(h.ta.mts s x hx).args, if_pos hs6]
    · obtain ⟨y, hy, rfl⟩ := List.mem_map.1 hx
      rw [h.m] at hy
      obtain ⟨k, hk⟩ := List.getElem?_of_mem hy
      have hk9 := (List.getElem?_eq_some_iff.1 hk).1
      rw [h.ta.ml] at hk9
      exact meth_ok (h.ta.mts k y hk) hk9 (by rw [hn]; decide) (by rw [h.c]) hml
  · obtain ⟨y, hy, rfl⟩ := List.mem_map.1 hx
    rw [h.c] at hy
    obtain ⟨k, hk⟩ := List.getElem?_of_mem hy
    exact bnd_fit (h.ta.cls k y hk).2.2
theorem val_ok {N : Nat} {v : Int × Int} (h : valOk N v) : fldOk v N = true := by
  obtain ⟨a, b⟩ := v
  rcases h with h | h | h | ⟨h, h1, h2⟩ | ⟨h, h1, h2⟩
  · cases h; rfl
  · cases h; rfl
  · cases h; rfl
  · simp only at h h1 h2
    subst h
    rw [fld_3]; unfold num30
    rw [decide_eq_true (by omega), decide_eq_true (by omega)]; rfl
  · simp only at h h1 h2
    subst h
    rw [fld_4]; unfold inN
    rw [decide_eq_true (by omega), decide_eq_true (by omega)]; rfl
theorem obj_len {T : UnitA} (h : TapeU T) {k : Nat} {x : ObjA} (hx : T.objects[k]? = some x) : x.flds.length ≤ 8 ∧ 1 ≤ x.cls ∧ x.cls < (T.classes.length : Int) ∧ (1 < x.cls → (x.flds.length : Int) = clsF T.classes x.cls) := by
  have hc0 := h.cl0
  have hc1 := h.cl1
  rcases (h.obs k x hx).cls with ⟨h2, d, hd, e⟩ | ⟨_, e, h8⟩
  · obtain ⟨j, hj⟩ : ∃ j : Nat, x.cls = j := ⟨x.cls.toNat, by omega⟩
    rw [hj, Int.toNat_natCast] at hd
    have hjl := (List.getElem?_eq_some_iff.1 hd).1
    have hf := ((h.cls j d hd).1.fld (by omega))
    refine ⟨by omega, by omega, by omega, fun _ => ?_⟩
    rw [hj, clsF_at hd]
    exact e
  · exact ⟨h8, by omega, by omega, fun g => by omega⟩
theorem obj_ok {T : UnitA} (h : TapeU T) {x : ObjA} (hx : x ∈ T.objects) : objB x T.classes T.objects.length = true := by
  obtain ⟨k, hk⟩ := List.getElem?_of_mem hx
  obtain ⟨h8, g1, g2, g3⟩ := obj_len h hk
  rw [objB_yes (head_ok (by omega) (fun g => g.2 (g3 g.1)) (by omega)), List.all_eq_true]
  exact fun v hv => val_ok ((h.obs k x hk).flds v hv)
theorem TapeU.m {T : UnitA} (h : TapeU T) : TapeM T T := ⟨h, rfl, rfl, rfl, h.ob0, by have := h.ob1; omega, fun x hx => obj_ok h hx⟩
theorem main_six {T U : UnitA} (h : TapeU T) (hm : U.methods = T.methods) (h6 : U.main = 6) : mainE U = 0 := by
  obtain ⟨x, hx⟩ : ∃ x, T.methods[6]? = some x := ⟨T.methods[6]'(by rw [h.ml]; omega), by simp⟩
  unfold mainE
  rw [if_pos]
  rw [hm, h6, h.ml]
  refine ⟨by decide, by decide, ?_⟩
  unfold agAt
  rw [show (6 : Int).toNat = 6 from rfl, hx]
  simp only
  rw [(h.mts 6 x hx).args]; rfl
/-- a tape's program is right -/
theorem TapeU.right {T : UnitA} (h : TapeU T) : unitR T = 0 := h.m.unit.trans (main_six h rfl h.main)
theorem meth_size {c : Int} {j : Nat} {x : MethA} (h : methOk c j x) : x.code.length ≤ 300 ∧ x.lits.length ≤ 20 := by
  refine ⟨?_, ?_⟩
  · obtain ⟨I, ⟨⟨P, S, q, r, l, hI, h1, h5, hP, hS, _⟩⟩, e⟩ := h.code
    have hfl := flatten_len P hP
    rw [e, flat_len, hI]
    have hSl : S.length ≤ 2 := by
      rcases hS with rfl | rfl <;> simp
    simp only [List.length_append, List.length_cons, List.length_nil]
    omega
  · have := (lits_k h.lits).1
    omega
theorem TapeU.zb {T : UnitA} (h : TapeU T) : Zb 300 T := by
  have hc0 := h.cl0
  have hc1 := h.cl1
  have ho0 := h.ob0
  have ho1 := h.ob1
  have hm := h.ml
  refine ⟨by rw [h.names]; decide, by omega, by omega, by omega, by omega, by omega, by omega, fun x hx => ?_, fun x hx => ?_, fun x hx => ?_, by rw [h.names]; decide, fun x hx => ?_⟩
  · obtain ⟨k, hk⟩ := List.getElem?_of_mem hx
    have := (h.cls k x hk).2.2.len
    omega
  · obtain ⟨k, hk⟩ := List.getElem?_of_mem hx
    have := meth_size (h.mts k x hk)
    omega
  · obtain ⟨k, hk⟩ := List.getElem?_of_mem hx
    have := (obj_len h hk).1
    omega
  · obtain ⟨k, hk⟩ := List.getElem?_of_mem hx
    have hk5 : k < 5 := by have := (List.getElem?_eq_some_iff.1 hk).1; omega
    have hc := (h.cls k x hk).1
    rcases (show k = 0 ∨ k = 1 ∨ 2 ≤ k by omega) with rfl | rfl | h2
    · rw [(hc.z rfl).1]; decide
    · rw [(hc.o rfl).1]; decide
    · rw [hc.nm h2]
      rcases (show k = 2 ∨ k = 3 ∨ k = 4 by omega) with rfl | rfl | rfl <;> decide
end Wd
end Go.Proofs.Yteiejjmhmmkdhaa

/- Steps through a long region that does not draw, the frame out of sight. -/
namespace Go.Proofs.Yteiejjmhmmkdhaa
open Go.RowKit
namespace Wd
section
variable {P : Program} {ops : Array Oper} {Q : Exit → Act → World → Prop} {a a' : Act} {w : World} {rest : List Oper} {o oi : Oper} {i d k n : Nat} {b c : Bool} {v u : Value}
theorem lk {v : Value} (hy : (execOp a.eval o).run P w = .ok (.value v) w) (hw : Region.wanted o (yielded ops a.tmps) = true) (h : ∀ a', a' = a.put o.dst v → wpList P ops Q rest a' w) : wpList P ops Q (o :: rest) a w :=
  Go.BigFrame.wpList_want hw fun K hK => by unfold Oper.wp; rw [hy]; exact hK _ _ (h _ rfl)
theorem lu (hw : Region.wanted o (yielded ops a.tmps) = false) (h : ∀ a', a' = a.put o.dst undef → wpList P ops Q rest a' w) : wpList P ops Q (o :: rest) a w := wpList_skip hw (h _ rfl)
theorem ge8 {l : List Oper} (h : ∀ A : Act, A = a → wpList P ops Q l A w) : wpList P ops Q l a w := h _ rfl
theorem le0 (h : Q .normal a w) : wpList P ops Q [] a w := h
theorem pz (e : a' = a.put (some d) v) (h : a.tmps.size = n) : a'.tmps.size = n := by rw [e]; simpa [Act.put] using h
theorem ps (e : a' = a.put (some d) v) (h : a.tmps.size = n) (hd : d < n) : a'.eval (.tmp d) = v := by
  rw [e]; simp [Act.put, Act.eval, h, hd]
theorem po (e : a' = a.put (some d) v) (hk : d ≠ k) (h : a.eval (.tmp k) = u) : a'.eval (.tmp k) = u := by
  rw [← h, e]; simp [Act.put, Act.eval, hk]
theorem wn (hg : o.guard = none) : Region.wanted o (yielded ops a.tmps) = true := by unfold Region.wanted; rw [hg]
theorem at8 (hz : a.tmps.size = n) (hd : d < n) (he : a.eval (.tmp d) = v) : a.tmps[d]? = some v := by
  have h : d < a.tmps.size := by omega
  simp only [Act.eval, Array.getD_eq_getD_getElem?, Array.getElem?_eq_getElem h, Option.getD_some] at he
  rw [Array.getElem?_eq_getElem h, he]
theorem wy (hg : o.guard = some (i, b)) (hi : (ops[i]?).bind (·.dst) = some d) (hz : a.tmps.size = n) (hd : d < n) (he : a.eval (.tmp d) = .bool b) : Region.wanted o (yielded ops a.tmps) = true := by
  have h := at8 hz hd he
  unfold Region.wanted; rw [hg]
  simp [yielded, hi, h]
theorem wx (hg : o.guard = some (i, b)) (hi : (ops[i]?).bind (·.dst) = some d) (hz : a.tmps.size = n) (hd : d < n) (he : a.eval (.tmp d) = .bool c) (hc : c ≠ b) : Region.wanted o (yielded ops a.tmps) = false := by
  have h := at8 hz hd he
  unfold Region.wanted; rw [hg]
  simp [yielded, hi, h, hc]
theorem wz (hg : o.guard = some (i, b)) (hi : (ops[i]?).bind (·.dst) = some d) (hz : a.tmps.size = n) (hd : d < n) (he : a.eval (.tmp d) = undef) : Region.wanted o (yielded ops a.tmps) = false := by
  have h := at8 hz hd he
  unfold Region.wanted; rw [hg]
  simp [yielded, hi, h, undef]
end
end Wd
end Go.Proofs.Yteiejjmhmmkdhaa

/- What single operations yield, of whatever frame. -/
namespace Go.Proofs.Yteiejjmhmmkdhaa
open Go.RowKit
namespace Wd
section
variable {w : World} {ρ : Operand → Value} {d : Option Tmp} {ty : TypeId} {pos : String} {af : Array Edge} {g : Option (Nat × Bool)} {x y z : Operand} {v : Value} {b c r : Bool} {m n : Int}
theorem op_move (h : ρ x = v) : (execOp ρ ⟨d, .move x, ty, pos, af, g⟩).run Try.prog w = .ok (.value v) w := by go_simp
theorem op_not (h : ρ x = .bool b) (e : (!b) = r) : (execOp ρ ⟨d, .unOp .not 4 x, ty, pos, af, g⟩).run Try.prog w = .ok (.value (.bool r)) w := by subst e; go_simp
theorem op_fa0 {q : Nat} (h : ρ x = .pointer (some ⟨q, 0, none⟩)) : (execOp ρ ⟨d, .fieldAddr 42 x 0, ty, pos, af, g⟩).run Try.prog w = .ok (.value (.pointer (some ⟨q, 0, none⟩))) w := by go_simp
theorem op_fa1 {q : Nat} (h : ρ x = .pointer (some ⟨q, 0, none⟩)) : (execOp ρ ⟨d, .fieldAddr 42 x 1, ty, pos, af, g⟩).run Try.prog w = .ok (.value (.pointer (some ⟨q, 1, none⟩))) w := by go_simp
theorem op_load {p : Addr} (h : ρ x = .pointer (some p)) (c : w.cell? p = some (.int .i64 m)) : (execOp ρ ⟨d, .load 3 x, ty, pos, af, g⟩).run Try.prog w = .ok (.value (.int .i64 m)) w := by go_simp
theorem op_eqi (hc : ρ (.const (.int .i64 n)) = .int .i64 n) (h : ρ x = .int .i64 m) (e : (m == n) = r) : (execOp ρ ⟨d, .binOp .eql 3 x (.const (.int .i64 n)) 3, ty, pos, af, g⟩).run Try.prog w = .ok (.value (.bool r)) w := by subst e; go_simp
theorem op_lti (hc : ρ (.const (.int .i64 n)) = .int .i64 n) (h : ρ x = .int .i64 m) (e : decide (m < n) = r) : (execOp ρ ⟨d, .binOp .lss 3 x (.const (.int .i64 n)) 3, ty, pos, af, g⟩).run Try.prog w = .ok (.value (.bool r)) w := by subst e; go_simp
theorem op_gti (hc : ρ (.const (.int .i64 n)) = .int .i64 n) (h : ρ x = .int .i64 m) (e : decide (n < m) = r) : (execOp ρ ⟨d, .binOp .gtr 3 x (.const (.int .i64 n)) 3, ty, pos, af, g⟩).run Try.prog w = .ok (.value (.bool r)) w := by subst e; go_simp
theorem op_nei (h : ρ x = .int .i64 m) (h2 : ρ y = .int .i64 n) (e : (m != n) = r) : (execOp ρ ⟨d, .binOp .neq 3 x y 3, ty, pos, af, g⟩).run Try.prog w = .ok (.value (.bool r)) w := by subst e; go_simp
theorem op_neb (h : ρ x = .bool b) (h2 : ρ y = .bool c) (e : (b != c) = r) : (execOp ρ ⟨d, .binOp .neq 4 x y 4, ty, pos, af, g⟩).run Try.prog w = .ok (.value (.bool r)) w := by subst e; go_simp; cases b <;> cases c <;> rfl
theorem op_pickT (h : ρ x = .bool true) (h2 : ρ y = v) : (execOp ρ ⟨d, .pick x y z, ty, pos, af, g⟩).run Try.prog w = .ok (.value v) w := by go_simp
theorem op_pickF (h : ρ x = .bool false) (h2 : ρ z = v) : (execOp ρ ⟨d, .pick x y z, ty, pos, af, g⟩).run Try.prog w = .ok (.value v) w := by go_simp
theorem op_idx {q k l c : Nat} (h : ρ x = .slice (some ⟨q, 0, none⟩) l c) (h2 : ρ y = .int .i64 (k : Int)) (hk : k < l) : (execOp ρ ⟨d, .indexAddr 22 x y, ty, pos, af, g⟩).run Try.prog w = .ok (.value (.pointer (some ⟨q, k, none⟩))) w := by
  have h3 : (k : Int) < (l : Int) := by omega
  go_simp
end
end Wd
end Go.Proofs.Yteiejjmhmmkdhaa
