/- Texts joined: OMeth, USU, SLaw, QBase. -/
import Derived.Test.YteiejjmhmmkdhaaGreatJ8
import Derived.Test.YteiejjmhmmkdhaaGreatJ9
/- The document's own instructions: is a method right? -/
namespace Go.Proofs.YteiejjmhmmkdhaaGreat
open Go.RowKit
set_option linter.unusedVariables false
set_option maxRecDepth 20000
namespace Wd
/-- a program in a box of its own -/
structure UnB (w : World) (q : Nat) (u : Value) (U : UnitA) (na ka ma oa : Option Addr) (nc kc mc oc : Nat) : Prop where
  e : u = .agg #[.slice na U.names.length nc, .slice ka U.classes.length kc, .slice ma U.methods.length mc, .slice oa U.objects.length oc, .int .i64 U.main]
  c0 : w.cell? ⟨q, 0, none⟩ = some (.slice na U.names.length nc)
  c1 : w.cell? ⟨q, 1, none⟩ = some (.slice ka U.classes.length kc)
  c2 : w.cell? ⟨q, 2, none⟩ = some (.slice ma U.methods.length mc)
  c3 : w.cell? ⟨q, 3, none⟩ = some (.slice oa U.objects.length oc)
  c4 : w.cell? ⟨q, 4, none⟩ = some (.int .i64 U.main)
  un : UnK w u U
theorem UnB.born {w : World} {U : UnitA} {na ka ma oa : Option Addr} {nc kc mc oc : Nat} (h : UnK w (.agg #[.slice na U.names.length nc, .slice ka U.classes.length kc, .slice ma U.methods.length mc, .slice oa U.objects.length oc, .int .i64 U.main]) U) : UnB (w.alloc (.cells #[.slice na U.names.length nc, .slice ka U.classes.length kc, .slice ma U.methods.length mc, .slice oa U.objects.length oc, .int .i64 U.main] 32)) w.heap.size (.agg #[.slice na U.names.length nc, .slice ka U.classes.length kc, .slice ma U.methods.length mc, .slice oa U.objects.length oc, .int .i64 U.main]) U na ka ma oa nc kc mc oc :=
  ⟨rfl, by simp, by simp, by simp, by simp, by simp, h.up ((Below.refl _ _).alloc (Nat.le_refl _) _)⟩
theorem UnB.up {w w1 : World} {q : Nat} {u : Value} {U : UnitA} {na ka ma oa : Option Addr} {nc kc mc oc : Nat} (h : UnB w q u U na ka ma oa nc kc mc oc) (b : Below w.heap.size w w1) : UnB w1 q u U na ka ma oa nc kc mc oc :=
  ⟨h.e, cell_up b h.c0, cell_up b h.c1, cell_up b h.c2, cell_up b h.c3, cell_up b h.c4, h.un.up b⟩
def metT (m : MethA) (nn nc nm : Nat) : Int := if m.lits.all (fun x => litR x nn nc nm) = false then 12 else if insF m (m.code.length / 2) 0 = false then 12 else 0
theorem met_long {m : MethA} {nn nc nm : Nat} (h : m.code.length > 128 ∨ m.lits.length > 16 ∨ m.args < 0 ∨ m.temps < 0 ∨ m.args > 8 ∨ m.temps > 8 - m.args) : metR m nn nc nm = 3 := if_pos h
theorem met_len {m : MethA} {nn nc nm : Nat} (h : ¬ (m.code.length > 128 ∨ m.lits.length > 16 ∨ m.args < 0 ∨ m.temps < 0 ∨ m.args > 8 ∨ m.temps > 8 - m.args)) (h2 : m.code.length < 2 ∨ m.code.length % 2 ≠ 0) : metR m nn nc nm = 12 := by
  unfold metR; rw [if_neg h, if_pos h2]
theorem met_last {m : MethA} {nn nc nm : Nat} (h : ¬ (m.code.length > 128 ∨ m.lits.length > 16 ∨ m.args < 0 ∨ m.temps < 0 ∨ m.args > 8 ∨ m.temps > 8 - m.args)) (h2 : ¬ (m.code.length < 2 ∨ m.code.length % 2 ≠ 0)) (h3 : byAt m.code (m.code.length - 2) ≠ 14 ∧ byAt m.code (m.code.length - 2) ≠ 19 ∧ byAt m.code (m.code.length - 2) ≠ 16) : metR m nn nc nm = 12 := by
  unfold metR; rw [if_neg h, if_neg h2, if_pos h3]
theorem met_t {m : MethA} {nn nc nm : Nat} (h : ¬ (m.code.length > 128 ∨ m.lits.length > 16 ∨ m.args < 0 ∨ m.temps < 0 ∨ m.args > 8 ∨ m.temps > 8 - m.args)) (h2 : ¬ (m.code.length < 2 ∨ m.code.length % 2 ≠ 0)) (h3 : ¬ (byAt m.code (m.code.length - 2) ≠ 14 ∧ byAt m.code (m.code.length - 2) ≠ 19 ∧ byAt m.code (m.code.length - 2) ≠ 16)) : metR m nn nc nm = metT m nn nc nm := by
  unfold metR; rw [if_neg h, if_neg h2, if_neg h3]; rfl
theorem metT_lit {m : MethA} {nn nc nm : Nat} (h : m.lits.all (fun x => litR x nn nc nm) = false) : metT m nn nc nm = 12 := if_pos h
theorem metT_ins {m : MethA} {nn nc nm : Nat} (h : m.lits.all (fun x => litR x nn nc nm) = true) (h2 : insF m (m.code.length / 2) 0 = false) : metT m nn nc nm = 12 := by
  unfold metT; rw [if_neg (by rw [h]; decide), if_pos h2]
theorem metT_ok {m : MethA} {nn nc nm : Nat} (h : m.lits.all (fun x => litR x nn nc nm) = true) (h2 : insF m (m.code.length / 2) 0 = true) : metT m nn nc nm = 0 := by
  unfold metT; rw [if_neg (by rw [h]; decide), if_neg (by rw [h2]; decide)]
theorem all_next {α : Type} {L : List α} {f : α → Bool} {k : Nat} {x : α} (h : L[k]? = some x) : (L.drop k).all f = (f x && (L.drop (k + 1)).all f) := by
  obtain ⟨hk, e⟩ := List.getElem?_eq_some_iff.1 h
  rw [← e, List.drop_eq_getElem_cons hk, List.all_cons]
theorem ins_next {m : MethA} {N j : Nat} (h : j < N) : insF m (N - j) (2 * j) = (insR m ((2 * j : Nat) : Int) (byAt m.code (2 * j)) (byAt m.code (2 * j + 1)) && insF m (N - (j + 1)) (2 * (j + 1))) := by
  rw [show N - j = (N - (j + 1)) + 1 by omega, insF, show 2 * j + 2 = 2 * (j + 1) by omega]
/-- all that follows the first tests -/
structure MSt (w0 wr : World) (q q2 : Nat) (v u : Value) (m : MethA) (U : UnitA) (la ca na ka ma oa : Option Addr) (lc cc nc kc mc oc : Nat) : Prop where
  b : MeB wr q v m la ca lc cc
  u : UnB wr q2 u U na ka ma oa nc kc mc oc
  bel : Below w0.heap.size w0 wr
theorem MSt.up {w0 w w1 : World} {q q2 : Nat} {v u : Value} {m : MethA} {U : UnitA} {la ca na ka ma oa : Option Addr} {lc cc nc kc mc oc : Nat} (h : MSt w0 w q q2 v u m U la ca na ka ma oa lc cc nc kc mc oc) (b : Below w.heap.size w w1) : MSt w0 w1 q q2 v u m U la ca na ka ma oa lc cc nc kc mc oc :=
  ⟨h.b.up b, h.u.up b, h.bel.trans (b.mono h.bel.size)⟩
end Wd
end Go.Proofs.YteiejjmhmmkdhaaGreat

/- Is a program right? (the document's own) -/
namespace Go.Proofs.YteiejjmhmmkdhaaGreat
open Go.RowKit
set_option linter.unusedVariables false
set_option maxRecDepth 20000
namespace Wd
/-- the first thing that is wrong -/
def firstE : List Int → Int
  | [] => 0
  | e :: L => if e = 0 then firstE L else e
def eBinds (B : List (Int × Int)) : Int := if (ofD B D0).isSome = true then 0 else 14
def nmAt (L : List ByteArray) (i : Int) : ByteArray := L.getD i.toNat ⟨#[]⟩
def agAt (L : List MethA) (i : Int) : Int := match L[i.toNat]? with
  | some x => x.args
  | none => 0
def eArg (U : UnitA) (b : Int × Int) : Int := if argsR (nmAt U.names b.1) = agAt U.methods b.2 then 0 else 15
def eArgs (U : UnitA) : List ClassA → List Int
  | [] => []
  | c :: C => c.binds.map (eArg U) ++ eArgs U C
def longB (U : UnitA) : Bool := decide (48 < U.names.length) || (decide (U.methods.length < 1) || (decide (32 < U.methods.length) || (decide (U.objects.length < 1) || decide (40 < U.objects.length))))
def mainE (U : UnitA) : Int := if 0 ≤ U.main ∧ U.main < (U.methods.length : Int) ∧ agAt U.methods U.main = 0 then 0 else 15
def restO (U : UnitA) (k : Nat) : List Int := (U.objects.drop k).map (fun x => if objB x U.classes U.objects.length = true then (0 : Int) else 16) ++ [mainE U]
def restA (U : UnitA) (k : Nat) : List Int := eArgs U (U.classes.drop k) ++ restO U 0
def restM (U : UnitA) (k : Nat) : List Int := (U.methods.drop k).map (fun m => metR m U.names.length U.classes.length U.methods.length) ++ restA U 0
def restC (U : UnitA) (k : Nat) : List Int := (U.classes.drop k).map (fun c => eBinds c.binds) ++ restM U 0
/-- what is wrong with a program; 0: nothing -/
def unitR (U : UnitA) : Int := firstE ((if longB U = true then (3 : Int) else 0) :: (if namesB U.names = true then (0 : Int) else 13) :: shapeR U.classes U.names.length U.methods.length :: restC U 0)
/-- so far nothing is wrong; X: what is still looked at -/
structure StU (U : UnitA) (X : List Int) : Prop where
  mk ::
  eq : unitR U = firstE X
theorem StU.ok {U : UnitA} {X : List Int} {e : Int} (h : StU U (e :: X)) (he : e = 0) : StU U X := ⟨by rw [h.eq, firstE, if_pos he]⟩
theorem StU.bad {U : UnitA} {X : List Int} {e : Int} (h : StU U (e :: X)) (he : ¬ e = 0) : unitR U = e := by rw [h.eq, firstE, if_neg he]
theorem StU.start (U : UnitA) : StU U ((if longB U = true then (3 : Int) else 0) :: (if namesB U.names = true then (0 : Int) else 13) :: shapeR U.classes U.names.length U.methods.length :: restC U 0) := ⟨rfl⟩
theorem drop_all {T : Type} {L : List T} {k : Nat} (h : k = L.length) : L.drop k = [] := by subst h; exact List.drop_length
/-- classes that are right: each bind is -/
theorem from_binds {L : List ClassA} {names methods : Int} : ∀ (C : List ClassA) (i : Nat), shapeFrom L names methods i C = 0 → ∀ c ∈ C, bindsOk c.binds names methods = true
  | [], _, _, c, h => by cases h
  | d :: C, i, e, c, h => by
    rw [shapeFrom] at e
    split at e
    · cases e
    · split at e
      · cases e
      · split at e
        · cases e
        · split at e
          · cases e
          · rename_i hb
            rcases List.mem_cons.1 h with rfl | h
            · simpa using hb
            · exact from_binds C (i + 1) e c h
theorem shape_binds {L : List ClassA} {names methods : Int} (e : shapeR L names methods = 0) {k : Nat} {c : ClassA} (hc : L[k]? = some c) {j : Nat} {b : Int × Int} (hb : c.binds[j]? = some b) : 0 ≤ b.1 ∧ b.1 < names ∧ 0 ≤ b.2 ∧ b.2 < methods := by
  unfold shapeR at e
  split at e
  · cases e
  · split at e
    · cases e
    · have h1 := from_binds L 0 e c (List.mem_of_getElem? hc)
      unfold bindsOk at h1
      simp only [Bool.and_eq_true, List.all_eq_true] at h1
      have h2 := h1.1.1 b (List.mem_of_getElem? hb)
      unfold bindOk at h2
      simp only [Bool.and_eq_true, decide_eq_true_iff] at h2
      omega
theorem eBinds_14 {B : List (Int × Int)} (e : ¬ eBinds B = 0) : eBinds B = 14 := by
  unfold eBinds at e ⊢
  split
  · rename_i h; rw [if_pos h] at e; exact absurd rfl e
  · rfl
/-- a program lies boxed -/
structure V1 (w wr : World) (U : UnitA) (na : Option Addr) (nc : Nat) (ca : Option Addr) (cc : Nat) (ma : Option Addr) (mc : Nat) (oa : Option Addr) (oc : Nat) (l1 l2 l3 l4 : Nat) : Prop where
  mk ::
  cells : wr.cell? ⟨w.heap.size, 0, none⟩ = some (.slice na l1 nc) ∧ wr.cell? ⟨w.heap.size, 1, none⟩ = some (.slice ca l2 cc) ∧ wr.cell? ⟨w.heap.size, 2, none⟩ = some (.slice ma l3 mc) ∧ wr.cell? ⟨w.heap.size, 3, none⟩ = some (.slice oa l4 oc) ∧ wr.cell? ⟨w.heap.size, 4, none⟩ = some (.int .i64 U.main)
  views : NmV wr (.slice na l1 nc) U.names ∧ ClV wr (.slice ca l2 cc) U.classes ∧ MtV wr (.slice ma l3 mc) U.methods ∧ ObV wr (.slice oa l4 oc) U.objects
  lens : l1 = U.names.length ∧ l2 = U.classes.length ∧ l3 = U.methods.length ∧ l4 = U.objects.length
  les : l1 ≤ maxLen ∧ l2 ≤ maxLen ∧ l3 ≤ maxLen ∧ l4 ≤ maxLen
  caps : l1 ≤ nc ∧ l2 ≤ cc ∧ l3 ≤ mc ∧ l4 ≤ oc
  bel : Below w.heap.size w wr
section
variable {w wr w2 : World} {U : UnitA} {na ca ma oa : Option Addr} {nc cc mc oc l1 l2 l3 l4 : Nat}
theorem V1.up (h : V1 w wr U na nc ca cc ma mc oa oc l1 l2 l3 l4) (b : Below wr.heap.size wr w2) : V1 w w2 U na nc ca cc ma mc oa oc l1 l2 l3 l4 := by
  obtain ⟨a0, a1, a2, a3, a4⟩ := h.cells
  obtain ⟨v0, v1, v2, v3⟩ := h.views
  exact ⟨⟨cell_up b a0, cell_up b a1, cell_up b a2, cell_up b a3, cell_up b a4⟩, ⟨v0.up b, v1.up b, v2.up b, v3.up b⟩, h.lens, h.les, h.caps, h.bel.trans (b.mono h.bel.size)⟩
theorem V1.drew (h : V1 w wr U na nc ca cc ma mc oa oc l1 l2 l3 l4) : V1 w wr.drew U na nc ca cc ma mc oa oc l1 l2 l3 l4 := h.up ((Below.refl _ _).drew)
theorem V1.unk (h : V1 w wr U na nc ca cc ma mc oa oc l1 l2 l3 l4) : UnK wr (.agg #[.slice na l1 nc, .slice ca l2 cc, .slice ma l3 mc, .slice oa l4 oc, .int .i64 U.main]) U := by
  obtain ⟨v0, v1, v2, v3⟩ := h.views
  obtain ⟨e1, e2, e3, e4⟩ := h.lens
  subst e1; subst e2; subst e3; subst e4
  exact ⟨⟨na, nc, ca, cc, ma, mc, oa, oc, rfl, ⟨v0, v1, v2, v3⟩⟩⟩
end
end Wd
end Go.Proofs.YteiejjmhmmkdhaaGreat

/- What the laws ask of the package's judgement of classes. -/
namespace Go.Proofs.YteiejjmhmmkdhaaGreat
open Go.RowKit
set_option linter.unusedVariables false
set_option maxRecDepth 20000
namespace Wd
theorem SL.up {w w' : World} {e : TypeId} {v : Value} {L : List Int} (h : SL w e v L) (b : Below w.heap.size w w') : SL w' e v L := SL.keep h b
theorem SL.at {w : World} {e : TypeId} {a : Option Addr} {n c : Nat} {L : List Int} (h : SL w e (.slice a n c) L) {k : Nat} {x : Int} (hx : L[k]? = some x) : ∃ g, a = some ⟨g, 0, none⟩ ∧ w.cell? ⟨g, k, none⟩ = some (.int .i64 x) := by
  have hk := (List.getElem?_eq_some_iff.1 hx).1
  rcases h.cases with ⟨e1, e2⟩ | ⟨g, cap, e1, _, _, _, ho⟩
  · subst e2; simp at hx
  · cases e1
    exact ⟨g, rfl, row_cell ho hx⟩
end Wd
end Go.Proofs.YteiejjmhmmkdhaaGreat

/- The landed package's chains. -/
namespace Go.Proofs.YteiejjmhmmkdhaaGreat
open Go.RowKit
set_option linter.unusedVariables false
set_option maxRecDepth 20000
namespace Wd
theorem isc_y (ad : Option Addr) (n cap : Nat) (i : Int) (h0 : 0 ≤ i) (h1 : i < n) (w : World) :
    Calls Tryz.prog 108 #[.slice ad n cap, .int .i64 i] w fun e w' => e = .returned (.bool true) ∧ w' = w := by
  have h0' : decide (i ≥ 0) = true := by simpa using h0
  have h1' : decide (i < (n : Int)) = true := by simpa using h1
  go_enter Tryz.func108, Tryz.ntmps108
  go_wp2
  go_ret
  exact ⟨rfl, rfl⟩
theorem isc_n (ad : Option Addr) (n cap : Nat) (i : Int) (h : i < 0 ∨ (n : Int) ≤ i) (w : World) :
    Calls Tryz.prog 108 #[.slice ad n cap, .int .i64 i] w fun e w' => e = .returned (.bool false) ∧ w' = w := by
  by_cases h0 : 0 ≤ i
  · have h0' : decide (i ≥ 0) = true := by simpa using h0
    have h1' : decide (i < (n : Int)) = false := by simp; omega
    go_enter Tryz.func108, Tryz.ntmps108
    go_wp2
    go_ret
    exact ⟨rfl, rfl⟩
  · have h0' : decide (i ≥ 0) = false := by simp; omega
    go_enter Tryz.func108, Tryz.ntmps108
    go_wp2
    go_ret
    exact ⟨rfl, rfl⟩
set_option maxHeartbeats 16000000 in
theorem kchain {w : World} {v : Value} {L : List ClassA} (h : ClV w v L) (i : Int) (hi : In64 i) :
    Calls Tryz.prog 116 #[v, .int .i64 i] w fun e w' => ∃ v', e = .returned v' ∧ SL w' 3 v' (chain L i) ∧ Below w.heap.size w w' := by
  obtain ⟨i0, hi0, hz0, hz1, hz2⟩ := info_parts info3
  have hmx : 100000 ≤ maxLen := by decide
  obtain ⟨ad, cap, rfl, hcap, hm⟩ := h.form
  obtain ⟨n, hn⟩ : ∃ n, n = L.length := ⟨_, rfl⟩
  rw [← hn] at h hcap ⊢
  replace h := Lib.hid h
  have hn' := Lib.hid hn
  have hnm : n ≤ maxLen := by omega
  have hst : Hid (ChR w w L i i (.slice none 0 0) 0 []) := Lib.hid ⟨World.ownsRow_nil _ _ _ _, by simp, by simp, by simp [chain], Below.refl _ _, hi⟩
  clear hcap hm hi hn
  go_enter Tryz.func116, Tryz.ntmps116
  go_wp2
  go_loopw [1, 5] (fun i1 v5 wr => ∃ (j : Int) (C : List Int) (a : Option Addr) (m c : Nat), i1 = .int .i64 j ∧ v5 = .slice a m c ∧ Hid (ChR w wr L i j (.slice a m c) m C)) (fun i1 v5 _ => match v5 with | .slice _ m _ => 8 - m | _ => 0)
  case atStart => exact ⟨i, [], none, 0, 0, rfl, rfl, hst⟩
  case round =>
    obtain ⟨j, C, a, m, c, rfl, rfl, hR⟩ := hrel
    have hle : m ≤ 8 := hR.out.le
    obtain ⟨b0, b1⟩ := hR.out.ij
    by_cases h0 : 0 ≤ j ∧ j < n
    · obtain ⟨h0, h1⟩ := h0
      have PI := Lib.hid (isc_y ad n cap j h0 h1)
      by_cases h2 : m < 8
      · obtain ⟨k, rfl⟩ : ∃ k : Nat, j = k := ⟨j.toNat, by omega⟩
        obtain ⟨x, hx⟩ : ∃ x, L[k]? = some x := ⟨L[k]'(by have := hn'.out; omega), by simp⟩
        obtain ⟨s0, s1, g, off, bv, rfl, c0, c1, c2, c3, _⟩ := h.out.at hx
        have hx' := Lib.hid hx
        have h2' : decide (((m : Nat) : Int) < 8) = true := by simp; omega
        have hown := Lib.hid hR.out.own
        have hsz : Hid (w.heap.size ≤ wr.heap.size) := Lib.hid hR.out.bel.size
        have hk1 := Lib.hid c1
        have hs0 := Lib.hid s0
        clear c0 c1 c2 c3 s1 hx s0
        go_wp2_with (first | (go_at_call 108; ((with_reducible refine (PI.out _).mono ?_); rintro e1 w2 ⟨rfl, hw2⟩; subst w2)) | (at_builtin; refine wpList_append_lies _ rfl (.tmp 14) (.tmp 16) 34 rfl w.heap.size 3 i0 (.int .i64 0) 1 8 Tryz.underlying34 hi0 hz0 hz1 hz2 rfl (by decide) _ m _ (by simp [Act.eval]) (hown.out.alloc _) ⟨wr.heap.size, 0, none⟩ 1 1 (ints [(k : Int)]) (by simp [Act.eval]) (by simp) (one_at ((World.cell?_alloc_new _ _ _ 0).trans rfl)) (ints_one _) (by omega) (by omega) (by omega) (by have := hsz.out; simp; omega) _ rfl ?_; intro g1 cap1 w1 hown1 hgrow1 hat1 hlt1; have hR1 := Lib.hid (hR.out.more hx'.out h2 rfl hown1 hgrow1 hs0.out); have hc1 := cell_up hR1.out.bel hk1.out; clear hgrow1 hat1 hlt1 hown1))
        go_roundw
        case rel => exact ⟨_, _, _, _, _, rfl, rfl, hR1⟩
        case measure => simp; omega
      · have h2' : decide (((m : Nat) : Int) < 8) = false := by simp; omega
        have he : chainR L j (8 - m) = [] := by rw [show 8 - m = 0 by omega]; rfl
        have hf := Lib.hid (hR.out.last he)
        clear he
        go_wp2_with (first | (go_at_call 108; ((with_reducible refine (PI.out _).mono ?_); rintro e1 w2 ⟨rfl, hw2⟩; subst w2)))
        go_ret
        exact ⟨_, rfl, hf.out, hR.out.bel⟩
    · have PI := Lib.hid (isc_n ad n cap j (by omega))
      have he : chainR L j (8 - m) = [] := by
        rcases (show j < 0 ∨ (L.length : Int) ≤ j by have := hn'.out; omega) with h | h
        · exact chainR_neg _ h
        · exact chainR_over _ h
      have hf := Lib.hid (hR.out.last he)
      clear he
      go_wp2_with (first | (go_at_call 108; ((with_reducible refine (PI.out _).mono ?_); rintro e1 w2 ⟨rfl, hw2⟩; subst w2)))
      go_ret
      exact ⟨_, rfl, hf.out, hR.out.bel⟩
theorem kdepth {w : World} {v : Value} {L : List ClassA} (h : ClV w v L) (i : Int) (hi : In64 i) :
    Calls Tryz.prog 109 #[v, .int .i64 i] w fun e w' => e = .returned (.int .i64 ((chain L i).length : Nat)) ∧ Below w.heap.size w w' := by
  have P := kchain h i hi
  generalize chain L i = C at *
  go_enter Tryz.func109, Tryz.ntmps109
  go_wp2_with fail
  refine P.mono ?_
  clear P
  rintro e w1 ⟨v1, rfl, hS, hB⟩
  obtain ⟨a, c, rfl⟩ := hS.form
  obtain ⟨n, hn⟩ : ∃ n, n = C.length := ⟨_, rfl⟩
  have hn' := Lib.hid hn
  rw [← hn]
  clear hS h hi hn
  go_wp2
  go_ret
  exact ⟨by rw [← hn'.out]; rfl, hB⟩
end Wd
end Go.Proofs.YteiejjmhmmkdhaaGreat
