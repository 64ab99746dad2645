/- The landed cache: Put; and all together. -/
import Derived.Test.YtpilbpofikdkmaaZO
namespace Go.Proofs.Ytpilbpofikdkmaa
open Go.RowKit Go.Maps
set_option linter.unusedVariables false
set_option maxRecDepth 20000
namespace Wd
/-- what Put goes through: the key's box is g -/
structure ZT (w0 w : World) (p mm mk h m a b : Nat) (A : Pl → Option Int) (B : Int → Option Pl) (g : Nat) (c k : Int) : Prop where
  q : ZQ w p mm mk h m a b A B
  k0 : w.cell? ⟨g, 0, none⟩ = some (.int .i64 c)
  k1 : w.cell? ⟨g, 1, none⟩ = some (.int .i64 k)
  ch : Ch (FZ p mm mk) w0 w
  ng : ¬ FZ p mm mk g
section
variable {w0 w w1 : World} {p mm mk h m a b g a' b' : Nat} {A A' : Pl → Option Int} {B B' : Int → Option Pl} {c k : Int}
theorem ZT.gl (T : ZT w0 w p mm mk h m a b A B g c k) : g < w.heap.size := World.block_lt_of_cell? w _ T.k0
theorem ZT.keep (T : ZT w0 w p mm mk h m a b A B g c k) (e : Below w.heap.size w w1) : ZT w0 w1 p mm mk h m a b A B g c k :=
  ⟨T.q.keep e, cell_up e T.k0, cell_up e T.k1, T.ch.trans (below_toCh _ e), T.ng⟩
theorem ZT.drew (T : ZT w0 w p mm mk h m a b A B g c k) : ZT w0 w.drew p mm mk h m a b A B g c k := ⟨T.q.drew, T.k0, T.k1, T.ch.drew, T.ng⟩
theorem ZT.meth (T : ZT w0 w p mm mk h m a b A B g c k) (hm : MapP w1 mm a' A') (e : w.grownBy w1 (some mm)) : ZT w0 w1 p mm mk h m a' b A' B g c k := by
  have hg : w1.heap[g]? = w.heap[g]? := e.block g T.gl (fun h => T.ng (by injection h with h; exact Or.inr (Or.inl h)))
  exact ⟨T.q.meth hm e, (World.cell?_of_block (a := ⟨g, 0, none⟩) hg).trans T.k0, (World.cell?_of_block (a := ⟨g, 1, none⟩) hg).trans T.k1, T.ch.grown e (Or.inr (Or.inl rfl)), T.ng⟩
theorem ZT.keys (T : ZT w0 w p mm mk h m a b A B g c k) (hm : MapQ w1 mk b' B') (e : w.grownBy w1 (some mk)) : ZT w0 w1 p mm mk h m a b' A B' g c k := by
  have hg : w1.heap[g]? = w.heap[g]? := e.block g T.gl (fun h => T.ng (by injection h with h; exact Or.inr (Or.inr h)))
  exact ⟨T.q.keys hm e, (World.cell?_of_block (a := ⟨g, 0, none⟩) hg).trans T.k0, (World.cell?_of_block (a := ⟨g, 1, none⟩) hg).trans T.k1, T.ch.grown e (Or.inr (Or.inr rfl)), T.ng⟩
end
section
variable {w : World} {p mm mk : Nat}
set_option maxHeartbeats 32000000 in
theorem kput_c {S : Cst} (H : ZQ w p mm mk S.h S.m (cntL S) (cntL S) (methM S.L) (keyM S.L)) (hW : WfL S.L) {c k x : Int} (hc : I64 c) (hk : I64 k) (hx : I64 x) : Calls Try.prog 11 #[.pointer (some ⟨p, 0, none⟩), .agg #[.int .i64 c, .int .i64 k], .int .i64 x] w fun e w' => e = .returned (.tuple #[]) ∧ ZQ w' p mm mk S.h S.m (cntL (putS S c k x)) (cntL (putS S c k x)) (methM (putS S c k x).L) (keyM (putS S c k x).L) ∧ Ch (FZ p mm mk) w w' := by
  have hle : cntL S ≤ 32 := cntK_le S.L 32
  have hmx : 100000 ≤ maxLen := by decide
  have PL := fun W => kline_c hc hk W
  have hl := line_lt c k
  have hI : I64 ((lineR c k : Nat) : Int) := ⟨by omega, by omega⟩
  have hB := (Below.refl w.heap.size w).alloc (Nat.le_refl _) (.cells #[.int .i64 c, .int .i64 k] 32)
  have hp : (w.alloc (.cells #[.int .i64 c, .int .i64 k] 32)).heap[w.heap.size]? = some (.cells #[.int .i64 c, .int .i64 k] 32 (0, 0)) := heap_alloc_new w _
  have T0 : ZT w (w.alloc (.cells #[.int .i64 c, .int .i64 k] 32)) p mm mk S.h S.m (cntL S) (cntL S) (methM S.L) (keyM S.L) w.heap.size c k :=
    ⟨H.keep hB, by unfold World.cell?; rw [hp]; rfl, by unfold World.cell?; rw [hp]; rfl, below_toCh _ hB, fun hF => by have := H.lt _ hF; omega⟩
  have k0 := T0.k0
  have k1 := T0.k1
  replace T0 := Lib.hid T0
  clear H hB hp
  rw [cnt_put]
  have ek : keyM (putS S c k x).L = updQ (keyM S.L) (lineR c k : Nat) (some (c, k)) := keyM_upd S.L c k x
  have em : (putS S c k x).L = updL S.L (lineR c k) (some (c, k, x)) := rfl
  rw [ek, em]
  clear ek em
  have eL := keyM_at (L := S.L) c k
  cases hs : S.L (lineR c k) with
  | none =>
    obtain ⟨e1, e2⟩ := methM_put0 hW (x := x) hs
    rw [hs] at eL
    rw [e1]
    simp only [Option.isSome_none, Bool.false_eq_true, if_false]
    clear hs e1
    replace eL := Lib.hid eL
    replace e2 := Lib.hid e2
    generalize ((lineR c k : Nat) : Int) = r at *
    go_enter Try.func11, Try.ntmps11
    go_wp2_with fail
    refine (PL _).mono ?_
    rintro e w1 ⟨rfl, hb1⟩
    clear PL k0 k1
    have T1 := T0.out.keep hb1
    have c1 := T1.q.c1
    have hlk := T1.q.mq.look_ok hI
    rw [eL.out] at hlk
    unfold plV at hlk
    simp only [Option.map_none, Option.isSome_none, Option.getD_none] at hlk
    replace T1 := Lib.hid T1
    have hgs : Hid (w.heap.size < w1.heap.size) := Lib.hid T1.out.gl
    clear T0 hb1
    go_upto_region 5 with fail
    have T2 := T1.out.keep ((Below.refl _ _).alloc (Nat.le_refl _) (.cells #[.int .i64 0, .int .i64 0] 32))
    clear T1 c1 hlk
    replace T2 := Lib.hid T2
    generalize w1.alloc (.cells #[.int .i64 0, .int .i64 0] 32) = W2 at *
    have T2d := T2.out.drew
    have d1 : W2.cell? ⟨p, 1, none⟩ = some (.map (some mk)) := T2.out.q.c1
    have k0 : W2.cell? ⟨w.heap.size, 0, none⟩ = some (.int .i64 c) := T2.out.k0
    have k1 : W2.cell? ⟨w.heap.size, 1, none⟩ = some (.int .i64 k) := T2.out.k1
    obtain ⟨w3, hr3, hm3, hg3, hs3⟩ := T2d.q.mq.put (by omega) hI (c, k)
    rw [eL.out] at hm3
    have T3 := T2d.keys hm3 hg3
    simp only [Option.map_none, Option.isSome_none, Bool.false_eq_true, if_false] at T3
    clear hm3 hg3 hs3 T2 T2d
    unfold plV at hr3
    go_region
    clear hr3 d1 k0 k1
    go_upto_region 6 with fail
    have T3d := T3.drew
    have d0 : w3.cell? ⟨p, 0, none⟩ = some (.map (some mm)) := T3.q.c0
    have k0 : w3.cell? ⟨w.heap.size, 0, none⟩ = some (.int .i64 c) := T3.k0
    have k1 : w3.cell? ⟨w.heap.size, 1, none⟩ = some (.int .i64 k) := T3.k1
    obtain ⟨w4, hr4, hm4, hg4, hs4⟩ := T3d.q.mp.put (by omega) (p := (c, k)) ⟨hc, hk⟩ (v := x) (wfI hx)
    rw [e2.out] at hm4
    have T4 := T3d.meth hm4 hg4
    simp only [Option.isSome_none, Bool.false_eq_true, if_false] at T4
    clear hm4 hg4 hs4 T3 T3d
    replace T4 := Lib.hid T4
    unfold plV at hr4
    go_region
    go_wp2
    go_returns
    exact ⟨rfl, T4.out.q, T4.out.ch⟩
  | some t =>
    obtain ⟨c', k', x'⟩ := t
    obtain ⟨e1, e2, e3⟩ := methM_put1 hW (x := x) hs
    obtain ⟨_, _, hc', hk', _⟩ := hW _ _ _ _ hs
    have hps := cnt_pos hs
    rw [hs] at eL
    rw [e1]
    simp only [Option.isSome_some, if_true]
    clear hs e1
    replace eL := Lib.hid eL
    replace e2 := Lib.hid e2
    replace e3 := Lib.hid e3
    generalize ((lineR c k : Nat) : Int) = r at *
    go_enter Try.func11, Try.ntmps11
    go_wp2_with fail
    refine (PL _).mono ?_
    rintro e w1 ⟨rfl, hb1⟩
    clear PL k0 k1
    have T1 := T0.out.keep hb1
    have c1 := T1.q.c1
    have hlk := T1.q.mq.look_ok hI
    rw [eL.out] at hlk
    unfold plV at hlk
    simp only [Option.map_some, Option.isSome_some, Option.getD_some] at hlk
    replace T1 := Lib.hid T1
    have hgs : Hid (w.heap.size < w1.heap.size) := Lib.hid T1.out.gl
    clear T0 hb1
    go_upto_region 4 with fail
    have hp := heap_alloc_new w1 (.cells #[.int .i64 c', .int .i64 k'] 32)
    have o0 : (w1.alloc (.cells #[.int .i64 c', .int .i64 k'] 32)).cell? ⟨w1.heap.size, 0, none⟩ = some (.int .i64 c') := by unfold World.cell?; rw [hp]; rfl
    have o1 : (w1.alloc (.cells #[.int .i64 c', .int .i64 k'] 32)).cell? ⟨w1.heap.size, 1, none⟩ = some (.int .i64 k') := by unfold World.cell?; rw [hp]; rfl
    have Ta := T1.out.keep ((Below.refl _ _).alloc (Nat.le_refl _) (.cells #[.int .i64 c', .int .i64 k'] 32))
    clear T1 c1 hlk hp
    replace Ta := Lib.hid Ta
    generalize w1.alloc (.cells #[.int .i64 c', .int .i64 k'] 32) = Wa at *
    have Tad := Ta.out.drew
    have a0 : Wa.cell? ⟨p, 0, none⟩ = some (.map (some mm)) := Ta.out.q.c0
    obtain ⟨W2, hr2, hm2, hg2, hs2⟩ := Tad.q.mp.drop (p := (c', k')) ⟨hc', hk'⟩ e3.out 0
    have T2 := Tad.meth hm2 hg2
    clear hm2 hg2 hs2 Ta Tad
    replace T2 := Lib.hid T2
    unfold plV at hr2
    go_region
    clear hr2 a0 o0 o1
    go_upto_region 5 with fail

    have T2d := T2.out.drew
    have d1 : W2.cell? ⟨p, 1, none⟩ = some (.map (some mk)) := T2.out.q.c1
    have k0 : W2.cell? ⟨w.heap.size, 0, none⟩ = some (.int .i64 c) := T2.out.k0
    have k1 : W2.cell? ⟨w.heap.size, 1, none⟩ = some (.int .i64 k) := T2.out.k1
    obtain ⟨w3, hr3, hm3, hg3, hs3⟩ := T2d.q.mq.put (by omega) hI (c, k)
    rw [eL.out] at hm3
    have T3 := T2d.keys hm3 hg3
    simp only [Option.map_some, Option.isSome_some, if_true] at T3
    clear hm3 hg3 hs3 T2 T2d
    unfold plV at hr3
    go_region
    clear hr3 d1 k0 k1
    go_upto_region 6 with fail
    have T3d := T3.drew
    have d0 : w3.cell? ⟨p, 0, none⟩ = some (.map (some mm)) := T3.q.c0
    have k0 : w3.cell? ⟨w.heap.size, 0, none⟩ = some (.int .i64 c) := T3.k0
    have k1 : w3.cell? ⟨w.heap.size, 1, none⟩ = some (.int .i64 k) := T3.k1
    obtain ⟨w4, hr4, hm4, hg4, hs4⟩ := T3d.q.mp.put (by omega) (p := (c, k)) ⟨hc, hk⟩ (v := x) (wfI hx)
    rw [e2.out] at hm4
    have T4 := T3d.meth hm4 hg4
    simp only [Option.isSome_none, Bool.false_eq_true, if_false] at T4
    clear hm4 hg4 hs4 T3 T3d
    replace T4 := Lib.hid T4
    unfold plV at hr4
    go_region
    go_wp2
    go_returns
    have en : cntL S - 1 + 1 = cntL S := by omega
    have Tq := T4.out.q
    rw [en] at Tq
    exact ⟨rfl, Tq, T4.out.ch⟩
end
theorem KK : CacK CZ where
  lt := by
    rintro w p S F ⟨mm, mk, H, hW, rfl⟩
    exact H.lt
  keep := by
    rintro w w' p S F ⟨mm, mk, H, hW, rfl⟩ hb
    exact ⟨mm, mk, H.same hb, hW, rfl⟩
  put := by
    rintro w p S F c k x ⟨mm, mk, H, hW, rfl⟩ hc hk hx
    refine (kput_c H hW hc hk hx).mono ?_
    rintro e w' ⟨rfl, H', hC⟩
    exact ⟨_, rfl, ⟨mm, mk, H', wf_put hW hc hk hx, rfl⟩, hC, fun k hk => Or.inl hk⟩
  get := by
    rintro w p S F c k ⟨mm, mk, H, hW, rfl⟩ hc hk hb
    refine (kget_c H hc hk hb).mono ?_
    rintro e w' ⟨rfl, H', hC⟩
    have eL : (getS S c k).L = S.L := by unfold getS; split <;> rfl
    exact ⟨_, rfl, ⟨mm, mk, by unfold cntL at H' ⊢; rw [eL]; exact H', by rw [eL]; exact hW, rfl⟩, hC, fun k hk => Or.inl hk⟩
  clear := by
    rintro w p S F ⟨mm, mk, H, hW, rfl⟩
    refine (kclear_c H).mono ?_
    rintro e w' ⟨rfl, H', hC⟩
    refine ⟨_, rfl, ⟨mm, mk, ?_, fun j c k x h => (by cases h), rfl⟩, hC, fun k hk => Or.inl hk⟩
    have e0 : cntL (clrS S) = 0 := rfl
    rw [e0, show (clrS S).L = fun _ => none from rfl, methM_clr, keyM_clr]
    exact H'
  hits := by
    rintro w p S F ⟨mm, mk, H, hW, rfl⟩
    exact khits_c H
  misses := by
    rintro w p S F ⟨mm, mk, H, hW, rfl⟩
    exact kmisses_c H
  len := by
    rintro w p S F ⟨mm, mk, H, hW, rfl⟩
    exact klen_c H
  new := fun {w} => knew_c w
end Wd
end Go.Proofs.Ytpilbpofikdkmaa
