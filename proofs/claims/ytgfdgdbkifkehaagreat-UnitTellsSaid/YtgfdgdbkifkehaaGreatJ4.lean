/- Texts joined: UNT, UNU, USA0, OInst, OMeth, USU. -/
import Derived.Test.YtgfdgdbkifkehaaGreatJ3
import Derived.Laws.IdiomStrings
import Derived.BigRegion
import Derived.Deep.RegionHeld3
import Derived.Deep.RegionWith
/- Bytes as a text. -/
namespace Go.Proofs.YtgfdgdbkifkehaaGreat
open Go.RowKit
set_option linter.unusedVariables false
set_option maxRecDepth 20000
namespace Wd
def byteL (L : List Int) : List UInt8 := L.map (fun x => UInt8.ofNat x.toNat)
def textOf (L : List Int) : ByteArray := ⟨(byteL L).toArray⟩
theorem byte_of {x : Int} (h : 0 ≤ x ∧ x ≤ 255) : (((UInt8.ofNat x.toNat).toNat : Nat) : Int) = x := by
  have : x.toNat < 256 := by omega
  rw [UInt8.toNat_ofNat_of_lt' (by simpa [UInt8.size] using this)]
  omega
theorem textOf_inj : ∀ {A B : List Int}, (∀ x ∈ A, 0 ≤ x ∧ x ≤ 255) → (∀ x ∈ B, 0 ≤ x ∧ x ≤ 255) → textOf A = textOf B → A = B := by
  have key : ∀ (A B : List Int), (∀ x ∈ A, 0 ≤ x ∧ x ≤ 255) → (∀ x ∈ B, 0 ≤ x ∧ x ≤ 255) → byteL A = byteL B → A = B := by
    intro A
    induction A with
    | nil =>
      intro B _ _ h
      cases B with
      | nil => rfl
      | cons y B => simp [byteL] at h
    | cons x A ih =>
      intro B hA hB h
      cases B with
      | nil => simp [byteL] at h
      | cons y B =>
        simp only [byteL, List.map_cons, List.cons.injEq] at h
        obtain ⟨h1, h2⟩ := h
        have e : x = y := by
          rw [← byte_of (hA x (List.mem_cons_self ..)), ← byte_of (hB y (List.mem_cons_self ..)), h1]
        rw [e, ih B (fun z hz => hA z (List.mem_cons_of_mem _ hz)) (fun z hz => hB z (List.mem_cons_of_mem _ hz)) h2]
  intro A B hA hB h
  refine key A B hA hB ?_
  have : (byteL A).toArray = (byteL B).toArray := congrArg ByteArray.data h
  simpa using this
theorem ByV.bd {w : World} {v : Value} {L : List Int} (h : ByV w v L) : ∀ x ∈ L, 0 ≤ x ∧ x ≤ 255 := by
  obtain ⟨ad, cap, rfl, _⟩ := h.form
  intro x hx
  obtain ⟨k, hk⟩ := List.getElem?_of_mem hx
  exact (h.at hk).1
theorem by_text {w : World} {v : Value} {L : List Int} (h : ByV w v L) : (convert 48 9 v).run Tryz.prog w = .ok (.string (textOf L)) w := by
  obtain ⟨ad, cap, rfl, _⟩ := h.form
  have hlen : L.length = (byteL L).length := by simp [byteL]
  cases hL : L with
  | nil =>
    rw [run_convert_bytes_string (P := Tryz.prog) w 48 9 5 ad ([] : List Int).length cap Tryz.underlying48 Tryz.underlying5 Tryz.underlying9]
    have hl := run_loadCells_list (P := Tryz.prog) (w := w)
    cases ad with
    | none => simp [Conv.bytesToString, Sem.run_pure, textOf, byteL] <;> rfl
    | some a =>
      have h0 := hl a [] (fun j v hj => by simp at hj)
      simp [Conv.bytesToString, Sem.run_bind, textOf, byteL] at h0 ⊢
      first | done | (rw [h0]; rfl) | simp [h0]
  | cons x R =>
    rw [← hL]
    obtain ⟨_, g, off, rfl, _⟩ := h.at (k := 0) (x := x) (by rw [hL]; rfl)
    rw [hlen]
    refine run_convert_bytes_back (P := Tryz.prog) w 48 9 5 ⟨g, off, none⟩ cap (byteL L) Tryz.underlying48 Tryz.underlying5 Tryz.underlying9 (fun j hj => ?_)
    rw [Addr.add_lit]
    have hj' : j < L.length := by rw [hlen]; exact hj
    obtain ⟨b, g', off', e, c0⟩ := h.at (List.getElem?_eq_getElem hj')
    cases e
    rw [c0]
    simp only [byteL, List.getElem_map]
    rw [byte_of b]
end Wd
end Go.Proofs.YtgfdgdbkifkehaaGreat

/- Are two methods the same? (the document's own) -/
namespace Go.Proofs.YtgfdgdbkifkehaaGreat
open Go.RowKit
set_option linter.unusedVariables false
set_option maxRecDepth 20000
namespace Wd
/-- two methods lie boxed -/
structure Sm2 (w wr : World) (A B : MethA) (la lb ca cb : Option Addr) (lac lbc cac cbc : Nat) : Prop where
  mk ::
  cells : wr.cell? ⟨w.heap.size, 0, none⟩ = some (.int .i64 A.args) ∧ wr.cell? ⟨w.heap.size, 1, none⟩ = some (.int .i64 A.temps) ∧ wr.cell? ⟨w.heap.size, 2, none⟩ = some (.slice la A.lits.length lac) ∧ wr.cell? ⟨w.heap.size, 3, none⟩ = some (.slice ca A.code.length cac) ∧ wr.cell? ⟨w.heap.size + 1, 0, none⟩ = some (.int .i64 B.args) ∧ wr.cell? ⟨w.heap.size + 1, 1, none⟩ = some (.int .i64 B.temps) ∧ wr.cell? ⟨w.heap.size + 1, 2, none⟩ = some (.slice lb B.lits.length lbc) ∧ wr.cell? ⟨w.heap.size + 1, 3, none⟩ = some (.slice cb B.code.length cbc) ∧ ByV wr (.slice ca A.code.length cac) A.code ∧ ByV wr (.slice cb B.code.length cbc) B.code
  pa : PrV wr (.slice la A.lits.length lac) A.lits
  pb : PrV wr (.slice lb B.lits.length lbc) B.lits
  bel : Below w.heap.size w wr
theorem Sm2.up {w wr w2 : World} {A B : MethA} {la lb ca cb : Option Addr} {lac lbc cac cbc : Nat} (h : Sm2 w wr A B la lb ca cb lac lbc cac cbc) (b : Below wr.heap.size wr w2) : Sm2 w w2 A B la lb ca cb lac lbc cac cbc := by
  obtain ⟨a0, a1, a2, a3, b0, b1, b2, b3, y0, y1⟩ := h.cells
  exact ⟨⟨cell_up b a0, cell_up b a1, cell_up b a2, cell_up b a3, cell_up b b0, cell_up b b1, cell_up b b2, cell_up b b3, y0.up b, y1.up b⟩, h.pa.up b, h.pb.up b, h.bel.trans (b.mono h.bel.size)⟩
def methEq (A B : MethA) : Bool := decide (A.args = B.args) && (decide (A.temps = B.temps) && (decide (A.lits = B.lits) && decide (A.code = B.code)))
theorem meq1 {A B : MethA} (h : ¬ A.args = B.args) : methEq A B = false := by unfold methEq; rw [decide_eq_false h]; rfl
theorem meq2 {A B : MethA} (h : ¬ A.temps = B.temps) : methEq A B = false := by unfold methEq; rw [decide_eq_false h, Bool.false_and, Bool.and_false]
theorem meq3 {A B : MethA} (h : ¬ A.lits = B.lits) : methEq A B = false := by unfold methEq; rw [decide_eq_false h, Bool.false_and, Bool.and_false, Bool.and_false]
theorem meq4 {A B : MethA} (h : ¬ A.code = B.code) : methEq A B = false := by unfold methEq; rw [decide_eq_false h, Bool.and_false, Bool.and_false, Bool.and_false]
theorem meq5 {A B : MethA} (h1 : A.args = B.args) (h2 : A.temps = B.temps) (h3 : A.lits = B.lits) (h4 : A.code = B.code) : methEq A B = true := by unfold methEq; rw [decide_eq_true h1, decide_eq_true h2, decide_eq_true h3, decide_eq_true h4]; rfl
set_option maxHeartbeats 16000000 in
theorem rsamem_c {w : World} {a b : Value} {A B : MethA} (ha : MeV w a A) (hb : MeV w b B) :
    Calls Tryz.prog 39 #[a, b] w fun e w' => e = .returned (.bool (methEq A B)) ∧ Below w.heap.size w w' := by
  obtain ⟨la, lac, ca, cac, rfl, hla, hca⟩ := ha.ex
  obtain ⟨lb, lbc, cb, cbc, rfl, hlb, hcb⟩ := hb.ex
  have hw1 := (Below.refl w.heap.size w).alloc (Nat.le_refl _) (.cells #[.int .i64 A.args, .int .i64 A.temps, .slice la A.lits.length lac, .slice ca A.code.length cac] 50)
  have hw2 := hw1.alloc (by simp only [World.size_alloc]; omega) (.cells #[.int .i64 B.args, .int .i64 B.temps, .slice lb B.lits.length lbc, .slice cb B.code.length cbc] 50)
  have i1 : (w.alloc (.cells #[.int .i64 A.args, .int .i64 A.temps, .slice la A.lits.length lac, .slice ca A.code.length cac] 50)).heap.size = w.heap.size + 1 := by simp
  have hS : Hid (Sm2 w ((w.alloc (.cells #[.int .i64 A.args, .int .i64 A.temps, .slice la A.lits.length lac, .slice ca A.code.length cac] 50)).alloc (.cells #[.int .i64 B.args, .int .i64 B.temps, .slice lb B.lits.length lbc, .slice cb B.code.length cbc] 50)) A B la lb ca cb lac lbc cac cbc) := Lib.hid ⟨⟨(World.cell?_alloc_old _ _ _ (by simp)).trans (by simp), (World.cell?_alloc_old _ _ _ (by simp)).trans (by simp), (World.cell?_alloc_old _ _ _ (by simp)).trans (by simp), (World.cell?_alloc_old _ _ _ (by simp)).trans (by simp), by rw [← i1]; simp, by rw [← i1]; simp, by rw [← i1]; simp, by rw [← i1]; simp, hca.up hw2, hcb.up hw2⟩, hla.up hw2, hlb.up hw2, hw2⟩
  have PV := Lib.hid (fun (w' : World) (h1 : PrV w' (.slice la A.lits.length lac) A.lits) (h2 : PrV w' (.slice lb B.lits.length lbc) B.lits) => rvals_c h1 h2)
  have hcd := Lib.hid (fun h => textOf_inj (A := A.code) (B := B.code) hca.bd hcb.bd h)
  clear ha hb hla hca hlb hcb hw1 hw2 i1
  go_enter Tryz.func39, Tryz.ntmps39
  go_upto_region 1 with fail
  generalize ((w.alloc (.cells #[.int .i64 A.args, .int .i64 A.temps, .slice la A.lits.length lac, .slice ca A.code.length cac] 50)).alloc (.cells #[.int .i64 B.args, .int .i64 B.temps, .slice lb B.lits.length lbc, .slice cb B.code.length cbc] 50)) = W at *
  by_cases g1 : ¬ A.args = B.args
  · have d1 : (A.args == B.args) = false := by simpa using g1
    have e := Lib.hid (meq1 g1)
    clear g1 PV hcd
    obtain ⟨a0, a1, a2, a3, b0, b1, b2, b3, y0, y1⟩ := hS.out.cells
    go_wp2
    go_ret
    exact ⟨congrArg (fun b => Ending.returned (Value.bool b)) e.out.symm, hS.out.bel⟩
  replace g1 : A.args = B.args := Decidable.not_not.1 g1
  have d1 : (A.args == B.args) = true := by simpa using g1
  by_cases g2 : ¬ A.temps = B.temps
  · have d2 : (A.temps == B.temps) = false := by simpa using g2
    have e := Lib.hid (meq2 g2)
    clear g1 g2 PV hcd
    obtain ⟨a0, a1, a2, a3, b0, b1, b2, b3, y0, y1⟩ := hS.out.cells
    go_wp2
    go_ret
    exact ⟨congrArg (fun b => Ending.returned (Value.bool b)) e.out.symm, hS.out.bel⟩
  replace g2 : A.temps = B.temps := Decidable.not_not.1 g2
  have d2 : (A.temps == B.temps) = true := by simpa using g2
  by_cases g3 : ¬ A.lits = B.lits
  · rw [decide_eq_false g3] at PV
    have e := Lib.hid (meq3 g3)
    clear g1 g2 g3 hcd
    obtain ⟨a0, a1, a2, a3, b0, b1, b2, b3, y0, y1⟩ := hS.out.cells
    go_wp2_with (first | (go_at_call 40; ((with_reducible refine (PV.out _ hS.out.pa hS.out.pb).mono ?_); rintro e1 z1 ⟨rfl, hb⟩; replace hS := Lib.hid (hS.out.up hb); clear hb a0 a1 a2 a3 b0 b1 b2 b3 y0 y1; obtain ⟨a0, a1, a2, a3, b0, b1, b2, b3, y0, y1⟩ := hS.out.cells; have hcv1 := by_text y0; have hcv2 := by_text y1; go_wp2_with fail)))
    go_ret
    exact ⟨congrArg (fun b => Ending.returned (Value.bool b)) e.out.symm, hS.out.bel⟩
  replace g3 : A.lits = B.lits := Decidable.not_not.1 g3
  rw [decide_eq_true g3] at PV
  by_cases g4 : ¬ A.code = B.code
  · have d4 : ((textOf A.code).toList == (textOf B.code).toList) = false := bl_ne (fun h => g4 (hcd.out h))
    have e := Lib.hid (meq4 g4)
    clear g1 g2 g3 g4 hcd
    obtain ⟨a0, a1, a2, a3, b0, b1, b2, b3, y0, y1⟩ := hS.out.cells
    go_wp2_with (first | (go_at_call 40; ((with_reducible refine (PV.out _ hS.out.pa hS.out.pb).mono ?_); rintro e1 z1 ⟨rfl, hb⟩; replace hS := Lib.hid (hS.out.up hb); clear hb a0 a1 a2 a3 b0 b1 b2 b3 y0 y1; obtain ⟨a0, a1, a2, a3, b0, b1, b2, b3, y0, y1⟩ := hS.out.cells; have hcv1 := by_text y0; have hcv2 := by_text y1; go_wp2_with fail)))
    go_ret
    exact ⟨congrArg (fun b => Ending.returned (Value.bool b)) e.out.symm, hS.out.bel⟩
  replace g4 : A.code = B.code := Decidable.not_not.1 g4
  have d4 : ((textOf A.code).toList == (textOf B.code).toList) = true := bl_eq (by rw [g4])
  have e := Lib.hid (meq5 g1 g2 g3 g4)
  clear g1 g2 g3 g4 hcd
  obtain ⟨a0, a1, a2, a3, b0, b1, b2, b3, y0, y1⟩ := hS.out.cells
  go_wp2_with (first | (go_at_call 40; ((with_reducible refine (PV.out _ hS.out.pa hS.out.pb).mono ?_); rintro e1 z1 ⟨rfl, hb⟩; replace hS := Lib.hid (hS.out.up hb); clear hb a0 a1 a2 a3 b0 b1 b2 b3 y0 y1; obtain ⟨a0, a1, a2, a3, b0, b1, b2, b3, y0, y1⟩ := hS.out.cells; have hcv1 := by_text y0; have hcv2 := by_text y1; go_wp2_with fail)))
  go_ret
  exact ⟨congrArg (fun b => Ending.returned (Value.bool b)) e.out.symm, hS.out.bel⟩
end Wd
end Go.Proofs.YtgfdgdbkifkehaaGreat

/- Are two programs the same? (the document's own) -/
namespace Go.Proofs.YtgfdgdbkifkehaaGreat
open Go.RowKit
set_option linter.unusedVariables false
set_option maxRecDepth 20000
namespace Wd
instance decClassA : DecidableEq ClassA := fun a b => decidable_of_iff (a.nm = b.nm ∧ a.super = b.super ∧ a.fields = b.fields ∧ a.binds = b.binds) (by
  cases a; cases b; simp)
instance decMethA : DecidableEq MethA := fun a b => decidable_of_iff (a.args = b.args ∧ a.temps = b.temps ∧ a.lits = b.lits ∧ a.code = b.code) (by
  cases a; cases b; simp)
instance decObjA : DecidableEq ObjA := fun a b => decidable_of_iff (a.cls = b.cls ∧ a.flds = b.flds) (by
  cases a; cases b; simp)
def sameU (U V : UnitA) : Bool := decide (U.names = V.names) && (decide (U.classes = V.classes) && (decide (U.methods = V.methods) && (decide (U.objects = V.objects) && decide (U.main = V.main))))
theorem sameU_iff (U V : UnitA) : sameU U V = true ↔ U = V := by
  unfold sameU
  simp only [Bool.and_eq_true, decide_eq_true_iff]
  cases U; cases V; simp
theorem sameU_ne {U V : UnitA} (h : ¬ U = V) : sameU U V = false := by
  cases e : sameU U V with
  | false => rfl
  | true => exact absurd ((sameU_iff U V).1 e) h
theorem sameU_self (U : UnitA) : sameU U U = true := (sameU_iff U U).2 rfl
theorem methEq_iff (A B : MethA) : methEq A B = decide (A = B) := by
  unfold methEq
  cases A; cases B
  simp [Bool.decide_and]
theorem MtV.at {w : World} {ad : Option Addr} {n cap : Nat} {L : List MethA} (h : MtV w (.slice ad n cap) L) {k : Nat} {x : MethA} (hx : L[k]? = some x) : ∃ g off la lc ca cc, ad = some ⟨g, off, none⟩ ∧ w.cell? ⟨g, off + k * 4, none⟩ = some (.int .i64 x.args) ∧ w.cell? ⟨g, off + k * 4 + 1, none⟩ = some (.int .i64 x.temps) ∧ w.cell? ⟨g, off + k * 4 + 2, none⟩ = some (.slice la x.lits.length lc) ∧ w.cell? ⟨g, off + k * 4 + 3, none⟩ = some (.slice ca x.code.length cc) ∧ MeV w (.agg #[.int .i64 x.args, .int .i64 x.temps, .slice la x.lits.length lc, .slice ca x.code.length cc]) x := by
  obtain ⟨ad', cap', e, _, _, h3⟩ := h.ex
  cases e
  obtain ⟨i1, i2, g, off, lv, cv, e, c0, c1, c2, c3, p, q⟩ := h3 k x hx
  obtain ⟨la, lc, rfl, _, _⟩ := p.form
  obtain ⟨cb, cc, rfl, _, _⟩ := q.form
  exact ⟨g, off, la, lc, cb, cc, e, c0, c1, c2, c3, ⟨⟨la, lc, cb, cc, rfl, p, q⟩, i1, i2⟩⟩
/-- two programs lie boxed -/
structure S5 (w wr : World) (U V : UnitA) (na : Option Addr) (nc : Nat) (ca : Option Addr) (cc : Nat) (ma : Option Addr) (mc : Nat) (oa : Option Addr) (oc : Nat) (pa : Option Addr) (pc : Nat) (qa : Option Addr) (qc : Nat) (ra : Option Addr) (rc : Nat) (sa : Option Addr) (sc : Nat) (l1 l2 l3 l4 r1 r2 r3 r4 : Nat) : Prop where
  mk ::
  cells : wr.cell? ⟨w.heap.size, 0, none⟩ = some (.slice na l1 nc) ∧ wr.cell? ⟨w.heap.size, 1, none⟩ = some (.slice ca l2 cc) ∧ wr.cell? ⟨w.heap.size, 2, none⟩ = some (.slice ma l3 mc) ∧ wr.cell? ⟨w.heap.size, 3, none⟩ = some (.slice oa l4 oc) ∧ wr.cell? ⟨w.heap.size, 4, none⟩ = some (.int .i64 U.main) ∧ wr.cell? ⟨w.heap.size + 1, 0, none⟩ = some (.slice pa r1 pc) ∧ wr.cell? ⟨w.heap.size + 1, 1, none⟩ = some (.slice qa r2 qc) ∧ wr.cell? ⟨w.heap.size + 1, 2, none⟩ = some (.slice ra r3 rc) ∧ wr.cell? ⟨w.heap.size + 1, 3, none⟩ = some (.slice sa r4 sc) ∧ wr.cell? ⟨w.heap.size + 1, 4, none⟩ = some (.int .i64 V.main)
  views : NmV wr (.slice na l1 nc) U.names ∧ ClV wr (.slice ca l2 cc) U.classes ∧ MtV wr (.slice ma l3 mc) U.methods ∧ ObV wr (.slice oa l4 oc) U.objects ∧ NmV wr (.slice pa r1 pc) V.names ∧ ClV wr (.slice qa r2 qc) V.classes ∧ MtV wr (.slice ra r3 rc) V.methods ∧ ObV wr (.slice sa r4 sc) V.objects
  lens : l1 = U.names.length ∧ l2 = U.classes.length ∧ l3 = U.methods.length ∧ l4 = U.objects.length ∧ r1 = V.names.length ∧ r2 = V.classes.length ∧ r3 = V.methods.length ∧ r4 = V.objects.length
  les : l1 ≤ maxLen ∧ l2 ≤ maxLen ∧ l3 ≤ maxLen ∧ l4 ≤ maxLen
  caps : l1 ≤ nc ∧ l2 ≤ cc ∧ l3 ≤ mc ∧ l4 ≤ oc ∧ r1 ≤ pc ∧ r2 ≤ qc ∧ r3 ≤ rc ∧ r4 ≤ sc
  bel : Below w.heap.size w wr
section
variable {w wr w2 : World} {U V : UnitA} {na ca ma oa pa qa ra sa : Option Addr} {nc cc mc oc pc qc rc sc l1 l2 l3 l4 r1 r2 r3 r4 : Nat}
theorem S5.up (h : S5 w wr U V na nc ca cc ma mc oa oc pa pc qa qc ra rc sa sc l1 l2 l3 l4 r1 r2 r3 r4) (b : Below wr.heap.size wr w2) : S5 w w2 U V na nc ca cc ma mc oa oc pa pc qa qc ra rc sa sc l1 l2 l3 l4 r1 r2 r3 r4 := by
  obtain ⟨a0, a1, a2, a3, a4, a5, a6, a7, a8, a9⟩ := h.cells
  obtain ⟨v0, v1, v2, v3, v4, v5, v6, v7⟩ := h.views
  exact ⟨⟨cell_up b a0, cell_up b a1, cell_up b a2, cell_up b a3, cell_up b a4, cell_up b a5, cell_up b a6, cell_up b a7, cell_up b a8, cell_up b a9⟩, ⟨v0.up b, v1.up b, v2.up b, v3.up b, v4.up b, v5.up b, v6.up b, v7.up b⟩, h.lens, h.les, h.caps, h.bel.trans (b.mono h.bel.size)⟩
theorem S5.drew (h : S5 w wr U V na nc ca cc ma mc oa oc pa pc qa qc ra rc sa sc l1 l2 l3 l4 r1 r2 r3 r4) : S5 w wr.drew U V na nc ca cc ma mc oa oc pa pc qa qc ra rc sa sc l1 l2 l3 l4 r1 r2 r3 r4 := h.up ((Below.refl _ _).drew)
theorem S5.no1 (h : S5 w wr U V na nc ca cc ma mc oa oc pa pc qa qc ra rc sa sc l1 l2 l3 l4 r1 r2 r3 r4) (e : ¬ l1 = r1) : sameU U V = false := sameU_ne (fun q => e (by obtain ⟨h1, h2, h3, h4, h5, h6, h7, h8⟩ := h.lens; rw [h1, h5, q]))
theorem S5.no2 (h : S5 w wr U V na nc ca cc ma mc oa oc pa pc qa qc ra rc sa sc l1 l2 l3 l4 r1 r2 r3 r4) (e : ¬ l2 = r2) : sameU U V = false := sameU_ne (fun q => e (by obtain ⟨h1, h2, h3, h4, h5, h6, h7, h8⟩ := h.lens; rw [h2, h6, q]))
theorem S5.no3 (h : S5 w wr U V na nc ca cc ma mc oa oc pa pc qa qc ra rc sa sc l1 l2 l3 l4 r1 r2 r3 r4) (e : ¬ l3 = r3) : sameU U V = false := sameU_ne (fun q => e (by obtain ⟨h1, h2, h3, h4, h5, h6, h7, h8⟩ := h.lens; rw [h3, h7, q]))
theorem S5.no4 (h : S5 w wr U V na nc ca cc ma mc oa oc pa pc qa qc ra rc sa sc l1 l2 l3 l4 r1 r2 r3 r4) (e : ¬ l4 = r4) : sameU U V = false := sameU_ne (fun q => e (by obtain ⟨h1, h2, h3, h4, h5, h6, h7, h8⟩ := h.lens; rw [h4, h8, q]))
end
theorem sameU_no1 {U V : UnitA} {k : Nat} {x y : ByteArray} (hx : U.names[k]? = some x) (hy : V.names[k]? = some y) (e : ¬ x = y) : sameU U V = false := sameU_ne (fun q => e (by subst q; rw [hx] at hy; exact Option.some.inj hy))
theorem sameU_no2 {U V : UnitA} {k : Nat} {x y : ClassA} (hx : U.classes[k]? = some x) (hy : V.classes[k]? = some y) (e : ¬ x = y) : sameU U V = false := sameU_ne (fun q => e (by subst q; rw [hx] at hy; exact Option.some.inj hy))
theorem sameU_no3 {U V : UnitA} {k : Nat} {x y : MethA} (hx : U.methods[k]? = some x) (hy : V.methods[k]? = some y) (e : ¬ x = y) : sameU U V = false := sameU_ne (fun q => e (by subst q; rw [hx] at hy; exact Option.some.inj hy))
theorem sameU_no4 {U V : UnitA} {k : Nat} {x y : ObjA} (hx : U.objects[k]? = some x) (hy : V.objects[k]? = some y) (e : ¬ x = y) : sameU U V = false := sameU_ne (fun q => e (by subst q; rw [hx] at hy; exact Option.some.inj hy))
theorem EqR.all {T : Type} {A B : List T} {n : Nat} (h : EqR A B n) (ha : n = A.length) (hb : n = B.length) : A = B := by
  have := h.eq
  rwa [ha, List.take_length, ← ha, hb, List.take_length] at this
end Wd
end Go.Proofs.YtgfdgdbkifkehaaGreat

/- The document's own instructions: is one right where it stands? -/
namespace Go.Proofs.YtgfdgdbkifkehaaGreat
open Go.RowKit
set_option linter.unusedVariables false
set_option maxRecDepth 20000
namespace Wd
theorem ins_other {m : MethA} {pc op arg : Int} (h : op ≠ 0 ∧ op ≠ 10 ∧ op ≠ 1 ∧ op ≠ 11 ∧ op ≠ 2 ∧ op ≠ 12 ∧ op ≠ 13 ∧ op ≠ 20 ∧ op ≠ 18 ∧ op ≠ 15 ∧ op ≠ 17 ∧ op ≠ 16 ∧ op ≠ 21) : insR m pc op arg = decide (op ≤ 21) := by
  unfold insR
  rw [if_neg (by omega), if_neg (by omega), if_neg (by omega), if_neg (by omega), if_neg (by omega), if_neg (by omega), if_neg (by omega), if_neg (by omega), if_neg (by omega)]
set_option maxHeartbeats 16000000 in
theorem rinst_c {w : World} {v : Value} {m : MethA} (h : MeV w v m) (pc : Nat) (h128 : m.code.length ≤ 128) (hp : pc + 2 ≤ m.code.length) (he : pc % 2 = 0) (ha : 0 ≤ m.args ∧ m.args ≤ 8) (ht : 0 ≤ m.temps ∧ m.temps ≤ 8) :
    Calls Tryz.prog 92 #[v, .int .i64 (pc : Int)] w fun e w' => e = .returned (.bool (insR m (pc : Int) (byAt m.code pc) (byAt m.code (pc + 1)))) ∧ Below w.heap.size w w' := by
  obtain ⟨la, lc, ca, cc, rfl, hl, hc⟩ := h.ex
  obtain ⟨b0, _⟩ := hc.at (byAt_some (C := m.code) (k := pc) (by omega))
  obtain ⟨b1, _⟩ := hc.at (byAt_some (C := m.code) (k := pc + 1) (by omega))
  have hf := fet_yes (C := m.code) (pc := (pc : Int)) (by omega) (by omega) (by omega)
  rw [Int.toNat_natCast] at hf
  generalize byAt m.code pc = op at *
  generalize byAt m.code (pc + 1) = arg at *
  have wa : IntKind.i64.wrap (m.args + m.temps) = m.args + m.temps := by rw [IntKind.wrap_i64]; omega
  have wp : IntKind.i64.wrap ((pc : Int) + 2) = (pc : Int) + 2 := by rw [IntKind.wrap_i64]; omega
  have w2 : IntKind.i64.wrap (2 * arg) = 2 * arg := by rw [IntKind.wrap_i64]; omega
  have w3 : IntKind.i64.wrap ((pc : Int) + 2 + 2 * arg) = (pc : Int) + 2 + 2 * arg := by rw [IntKind.wrap_i64]; omega
  have w4 : IntKind.i64.wrap ((pc : Int) - 2 * arg) = (pc : Int) - 2 * arg := by rw [IntKind.wrap_i64]; omega
  have hB := Lib.hid (MeB.born h)
  have hW := Lib.hid ((Below.refl w.heap.size w).alloc (Nat.le_refl _) (.cells #[.int .i64 m.args, .int .i64 m.temps, .slice la m.lits.length lc, .slice ca m.code.length cc] 50))
  have PF := Lib.hid (rfetch_c hB.out.me (pc : Int) ⟨by omega, by omega⟩)
  rw [hf] at PF
  clear hf hl hc h
  have a0 := hB.out.c0
  have a1 := hB.out.c1
  have a2 := hB.out.c2
  have a3 := hB.out.c3
  go_enter Tryz.func92, Tryz.ntmps92
  go_upto_region 1 with fail
  generalize w.alloc (.cells #[.int .i64 m.args, .int .i64 m.temps, .slice la m.lits.length lc, .slice ca m.code.length cc] 50) = W at *
  go_upto_region 2 with (first | (go_at_call 107; ((with_reducible refine PF.out.mono ?_); rintro e1 w1 ⟨rfl, hb⟩)))
  replace hW := Lib.hid (hW.out.trans (hb.mono hW.out.size))
  replace hB := Lib.hid (hB.out.up hb)
  clear hb PF a0 a1 a2 a3
  have a0 := hB.out.c0
  have a1 := hB.out.c1
  have a2 := hB.out.c2
  have a3 := hB.out.c3
  by_cases hop : op = 0 ∨ op = 10 ∨ op = 1 ∨ op = 11 ∨ op = 2 ∨ op = 12 ∨ op = 13 ∨ op = 20 ∨ op = 18 ∨ op = 15 ∨ op = 17 ∨ op = 16 ∨ op = 21
  · rcases hop with rfl | rfl | rfl | rfl | rfl | rfl | rfl | rfl | rfl | rfl | rfl | rfl | rfl
    · have e : Hid (insR m (pc : Int) 0 arg = decide (arg < m.args + m.temps)) := Lib.hid rfl
      go_wp2
      go_ret
      exact ⟨by rw [e.out]; rfl, hW.out⟩
    · have e : Hid (insR m (pc : Int) 10 arg = decide (arg < m.args + m.temps)) := Lib.hid rfl
      go_wp2
      go_ret
      exact ⟨by rw [e.out]; rfl, hW.out⟩
    · have e : Hid (insR m (pc : Int) 1 arg = decide (arg < 62)) := Lib.hid rfl
      go_wp2
      go_ret
      exact ⟨by rw [e.out]; rfl, hW.out⟩
    · have e : Hid (insR m (pc : Int) 11 arg = decide (arg < 62)) := Lib.hid rfl
      go_wp2
      go_ret
      exact ⟨by rw [e.out]; rfl, hW.out⟩
    · have e : Hid (insR m (pc : Int) 2 arg = hasLit m.lits arg 3) := Lib.hid rfl
      go_wp2_with fail
      refine (rlit_c hB.out.me arg 3 b1.1 b1.2).mono ?_
      rintro e2 w2' ⟨rfl, hb⟩
      replace hW := Lib.hid (hW.out.trans (hb.mono hW.out.size))
      go_wp2
      go_ret
      exact ⟨by rw [e.out]; rfl, hW.out⟩
    · have e : Hid (insR m (pc : Int) 12 arg = hasLit m.lits arg 5) := Lib.hid rfl
      go_wp2_with fail
      refine (rlit_c hB.out.me arg 5 b1.1 b1.2).mono ?_
      rintro e2 w2' ⟨rfl, hb⟩
      replace hW := Lib.hid (hW.out.trans (hb.mono hW.out.size))
      go_wp2
      go_ret
      exact ⟨by rw [e.out]; rfl, hW.out⟩
    · have e : Hid (insR m (pc : Int) 13 arg = hasLit m.lits arg 5) := Lib.hid rfl
      go_wp2_with fail
      refine (rlit_c hB.out.me arg 5 b1.1 b1.2).mono ?_
      rintro e2 w2' ⟨rfl, hb⟩
      replace hW := Lib.hid (hW.out.trans (hb.mono hW.out.size))
      go_wp2
      go_ret
      exact ⟨by rw [e.out]; rfl, hW.out⟩
    · have e : Hid (insR m (pc : Int) 20 arg = (hasLit m.lits arg 6 && decide ((litAt m.lits arg).2 > 1))) := Lib.hid rfl
      obtain ⟨k, rfl⟩ : ∃ k : Nat, arg = k := ⟨arg.toNat, by omega⟩
      go_wp2_with fail
      refine (rlit_c hB.out.me (k : Int) 6 b1.1 b1.2).mono ?_
      rintro e2 w2' ⟨rfl, hb⟩
      replace hW := Lib.hid (hW.out.trans (hb.mono hW.out.size))
      replace hB := Lib.hid (hB.out.up hb)
      clear hb a0 a1 a2 a3
      have a2 := hB.out.c2
      cases hh : hasLit m.lits (k : Int) 6 with
      | true =>
        have hk : k < m.lits.length := by
          unfold hasLit at hh
          simp only [Bool.and_eq_true, decide_eq_true_eq] at hh
          omega
        have k0 : (0 : Int) ≤ (k : Int) := by omega
        have k1 : (k : Int) < (m.lits.length : Int) := by omega
        obtain ⟨_, _, g, off, rfl, c0, c1⟩ := hB.out.py.1.at (litAt_some hk)
        rw [hh] at e
        clear hh
        generalize (litAt m.lits (k : Int)).2 = x at *
        go_wp2
        go_ret
        exact ⟨by rw [e.out]; rfl, hW.out⟩
      | false =>
        rw [hh] at e
        clear hh
        go_wp2
        go_ret
        exact ⟨by rw [e.out]; rfl, hW.out⟩
    · have e : Hid (insR m (pc : Int) 18 arg = hasLit m.lits arg 7) := Lib.hid rfl
      go_wp2_with fail
      refine (rlit_c hB.out.me arg 7 b1.1 b1.2).mono ?_
      rintro e2 w2' ⟨rfl, hb⟩
      replace hW := Lib.hid (hW.out.trans (hb.mono hW.out.size))
      go_wp2
      go_ret
      exact ⟨by rw [e.out]; rfl, hW.out⟩
    · have e : Hid (insR m (pc : Int) 15 arg = decide ((pc : Int) + 2 + 2 * arg < (m.code.length : Int))) := Lib.hid rfl
      go_wp2
      go_ret
      exact ⟨by rw [e.out]; rfl, hW.out⟩
    · have e : Hid (insR m (pc : Int) 17 arg = decide ((pc : Int) + 2 + 2 * arg < (m.code.length : Int))) := Lib.hid rfl
      go_wp2
      go_ret
      exact ⟨by rw [e.out]; rfl, hW.out⟩
    · have e : Hid (insR m (pc : Int) 16 arg = decide (2 * arg ≤ (pc : Int))) := Lib.hid rfl
      go_wp2
      go_ret
      exact ⟨by rw [e.out]; rfl, hW.out⟩
    · have e : Hid (insR m (pc : Int) 21 arg = decide (arg ≤ 23)) := Lib.hid rfl
      go_wp2
      go_ret
      exact ⟨by rw [e.out]; rfl, hW.out⟩
  · have e := Lib.hid (ins_other (m := m) (pc := (pc : Int)) (op := op) (arg := arg) (by omega))
    have f0 : (op == 0) = false := by simp; omega
    have f10 : (op == 10) = false := by simp; omega
    have f1 : (op == 1) = false := by simp; omega
    have f11 : (op == 11) = false := by simp; omega
    have f2 : (op == 2) = false := by simp; omega
    have f12 : (op == 12) = false := by simp; omega
    have f13 : (op == 13) = false := by simp; omega
    have f20 : (op == 20) = false := by simp; omega
    have f18 : (op == 18) = false := by simp; omega
    have f15 : (op == 15) = false := by simp; omega
    have f17 : (op == 17) = false := by simp; omega
    have f16 : (op == 16) = false := by simp; omega
    have f21 : (op == 21) = false := by simp; omega
    clear hop
    go_wp2
    go_ret
    exact ⟨by rw [e.out]; rfl, hW.out⟩
end Wd
end Go.Proofs.YtgfdgdbkifkehaaGreat

/- The document's own instructions: is a method right? -/
namespace Go.Proofs.YtgfdgdbkifkehaaGreat
open Go.RowKit
set_option linter.unusedVariables false
set_option maxRecDepth 20000
namespace Wd
/-- a program in a box of its own -/
structure UnB (w : World) (q : Nat) (u : Value) (U : UnitA) (na ka ma oa : Option Addr) (nc kc mc oc : Nat) : Prop where
  e : u = .agg #[.slice na U.names.length nc, .slice ka U.classes.length kc, .slice ma U.methods.length mc, .slice oa U.objects.length oc, .int .i64 U.main]
  c0 : w.cell? ⟨q, 0, none⟩ = some (.slice na U.names.length nc)
  c1 : w.cell? ⟨q, 1, none⟩ = some (.slice ka U.classes.length kc)
  c2 : w.cell? ⟨q, 2, none⟩ = some (.slice ma U.methods.length mc)
  c3 : w.cell? ⟨q, 3, none⟩ = some (.slice oa U.objects.length oc)
  c4 : w.cell? ⟨q, 4, none⟩ = some (.int .i64 U.main)
  un : UnK w u U
theorem UnB.born {w : World} {U : UnitA} {na ka ma oa : Option Addr} {nc kc mc oc : Nat} (h : UnK w (.agg #[.slice na U.names.length nc, .slice ka U.classes.length kc, .slice ma U.methods.length mc, .slice oa U.objects.length oc, .int .i64 U.main]) U) : UnB (w.alloc (.cells #[.slice na U.names.length nc, .slice ka U.classes.length kc, .slice ma U.methods.length mc, .slice oa U.objects.length oc, .int .i64 U.main] 27)) w.heap.size (.agg #[.slice na U.names.length nc, .slice ka U.classes.length kc, .slice ma U.methods.length mc, .slice oa U.objects.length oc, .int .i64 U.main]) U na ka ma oa nc kc mc oc :=
  ⟨rfl, by simp, by simp, by simp, by simp, by simp, h.up ((Below.refl _ _).alloc (Nat.le_refl _) _)⟩
theorem UnB.up {w w1 : World} {q : Nat} {u : Value} {U : UnitA} {na ka ma oa : Option Addr} {nc kc mc oc : Nat} (h : UnB w q u U na ka ma oa nc kc mc oc) (b : Below w.heap.size w w1) : UnB w1 q u U na ka ma oa nc kc mc oc :=
  ⟨h.e, cell_up b h.c0, cell_up b h.c1, cell_up b h.c2, cell_up b h.c3, cell_up b h.c4, h.un.up b⟩
def metT (m : MethA) (nn nc nm : Nat) : Int := if m.lits.all (fun x => litR x nn nc nm) = false then 12 else if insF m (m.code.length / 2) 0 = false then 12 else 0
theorem met_long {m : MethA} {nn nc nm : Nat} (h : m.code.length > 128 ∨ m.lits.length > 16 ∨ m.args < 0 ∨ m.temps < 0 ∨ m.args > 8 ∨ m.temps > 8 - m.args) : metR m nn nc nm = 3 := if_pos h
theorem met_len {m : MethA} {nn nc nm : Nat} (h : ¬ (m.code.length > 128 ∨ m.lits.length > 16 ∨ m.args < 0 ∨ m.temps < 0 ∨ m.args > 8 ∨ m.temps > 8 - m.args)) (h2 : m.code.length < 2 ∨ m.code.length % 2 ≠ 0) : metR m nn nc nm = 12 := by
  unfold metR; rw [if_neg h, if_pos h2]
theorem met_last {m : MethA} {nn nc nm : Nat} (h : ¬ (m.code.length > 128 ∨ m.lits.length > 16 ∨ m.args < 0 ∨ m.temps < 0 ∨ m.args > 8 ∨ m.temps > 8 - m.args)) (h2 : ¬ (m.code.length < 2 ∨ m.code.length % 2 ≠ 0)) (h3 : byAt m.code (m.code.length - 2) ≠ 14 ∧ byAt m.code (m.code.length - 2) ≠ 19 ∧ byAt m.code (m.code.length - 2) ≠ 16) : metR m nn nc nm = 12 := by
  unfold metR; rw [if_neg h, if_neg h2, if_pos h3]
theorem met_t {m : MethA} {nn nc nm : Nat} (h : ¬ (m.code.length > 128 ∨ m.lits.length > 16 ∨ m.args < 0 ∨ m.temps < 0 ∨ m.args > 8 ∨ m.temps > 8 - m.args)) (h2 : ¬ (m.code.length < 2 ∨ m.code.length % 2 ≠ 0)) (h3 : ¬ (byAt m.code (m.code.length - 2) ≠ 14 ∧ byAt m.code (m.code.length - 2) ≠ 19 ∧ byAt m.code (m.code.length - 2) ≠ 16)) : metR m nn nc nm = metT m nn nc nm := by
  unfold metR; rw [if_neg h, if_neg h2, if_neg h3]; rfl
theorem metT_lit {m : MethA} {nn nc nm : Nat} (h : m.lits.all (fun x => litR x nn nc nm) = false) : metT m nn nc nm = 12 := if_pos h
theorem metT_ins {m : MethA} {nn nc nm : Nat} (h : m.lits.all (fun x => litR x nn nc nm) = true) (h2 : insF m (m.code.length / 2) 0 = false) : metT m nn nc nm = 12 := by
  unfold metT; rw [if_neg (by rw [h]; decide), if_pos h2]
theorem metT_ok {m : MethA} {nn nc nm : Nat} (h : m.lits.all (fun x => litR x nn nc nm) = true) (h2 : insF m (m.code.length / 2) 0 = true) : metT m nn nc nm = 0 := by
  unfold metT; rw [if_neg (by rw [h]; decide), if_neg (by rw [h2]; decide)]
theorem all_next {α : Type} {L : List α} {f : α → Bool} {k : Nat} {x : α} (h : L[k]? = some x) : (L.drop k).all f = (f x && (L.drop (k + 1)).all f) := by
  obtain ⟨hk, e⟩ := List.getElem?_eq_some_iff.1 h
  rw [← e, List.drop_eq_getElem_cons hk, List.all_cons]
theorem ins_next {m : MethA} {N j : Nat} (h : j < N) : insF m (N - j) (2 * j) = (insR m ((2 * j : Nat) : Int) (byAt m.code (2 * j)) (byAt m.code (2 * j + 1)) && insF m (N - (j + 1)) (2 * (j + 1))) := by
  rw [show N - j = (N - (j + 1)) + 1 by omega, insF, show 2 * j + 2 = 2 * (j + 1) by omega]
/-- all that follows the first tests -/
structure MSt (w0 wr : World) (q q2 : Nat) (v u : Value) (m : MethA) (U : UnitA) (la ca na ka ma oa : Option Addr) (lc cc nc kc mc oc : Nat) : Prop where
  b : MeB wr q v m la ca lc cc
  u : UnB wr q2 u U na ka ma oa nc kc mc oc
  bel : Below w0.heap.size w0 wr
theorem MSt.up {w0 w w1 : World} {q q2 : Nat} {v u : Value} {m : MethA} {U : UnitA} {la ca na ka ma oa : Option Addr} {lc cc nc kc mc oc : Nat} (h : MSt w0 w q q2 v u m U la ca na ka ma oa lc cc nc kc mc oc) (b : Below w.heap.size w w1) : MSt w0 w1 q q2 v u m U la ca na ka ma oa lc cc nc kc mc oc :=
  ⟨h.b.up b, h.u.up b, h.bel.trans (b.mono h.bel.size)⟩
set_option maxHeartbeats 32000000 in
theorem rmeth_c {w : World} {v u : Value} {m : MethA} {U : UnitA} (h : MeV w v m) (hu : UnK w u U) :
    Calls Tryz.prog 55 #[v, u] w fun e w' => e = .returned (.int .i64 (metR m U.names.length U.classes.length U.methods.length)) ∧ Below w.heap.size w w' := by
  obtain ⟨la, lc, ca, cc, rfl, hl, hc⟩ := h.ex
  obtain ⟨na, nc, ka, kc, ma, mc, oa, oc, rfl, _⟩ := hu.ex
  have hw1 := (Below.refl w.heap.size w).alloc (Nat.le_refl _) (.cells #[.int .i64 m.args, .int .i64 m.temps, .slice la m.lits.length lc, .slice ca m.code.length cc] 50)
  have S0 : Hid (MSt w ((w.alloc (.cells #[.int .i64 m.args, .int .i64 m.temps, .slice la m.lits.length lc, .slice ca m.code.length cc] 50)).alloc (.cells #[.slice na U.names.length nc, .slice ka U.classes.length kc, .slice ma U.methods.length mc, .slice oa U.objects.length oc, .int .i64 U.main] 27)) w.heap.size (w.alloc (.cells #[.int .i64 m.args, .int .i64 m.temps, .slice la m.lits.length lc, .slice ca m.code.length cc] 50)).heap.size _ _ m U la ca na ka ma oa lc cc nc kc mc oc) := Lib.hid ⟨(MeB.born h).up ((Below.refl _ _).alloc (Nat.le_refl _) _), UnB.born (hu.up hw1), hw1.trans (((Below.refl _ _).alloc (Nat.le_refl _) _).mono hw1.size)⟩
  have hle := len_le hc.le
  have hle2 := len_le hl.le
  obtain ⟨p0, p1⟩ := h.a64
  obtain ⟨p2, p3⟩ := h.t64
  have i1 : (w.alloc (.cells #[.int .i64 m.args, .int .i64 m.temps, .slice la m.lits.length lc, .slice ca m.code.length cc] 50)).heap.size = w.heap.size + 1 := by simp
  rw [i1] at S0
  clear hl hc h hu hw1 i1
  have a0 := S0.out.b.c0
  have a1 := S0.out.b.c1
  have a2 := S0.out.b.c2
  have a3 := S0.out.b.c3
  obtain ⟨n, hn⟩ : ∃ n, n = m.code.length := ⟨_, rfl⟩
  obtain ⟨nl, hnl⟩ : ∃ n, n = m.lits.length := ⟨_, rfl⟩
  go_enter Tryz.func55, Tryz.ntmps55
  go_upto_region 1 with fail
  generalize (w.alloc (.cells #[.int .i64 m.args, .int .i64 m.temps, .slice la m.lits.length lc, .slice ca m.code.length cc] 50)).alloc (.cells #[.slice na U.names.length nc, .slice ka U.classes.length kc, .slice ma U.methods.length mc, .slice oa U.objects.length oc, .int .i64 U.main] 27) = W at *
  by_cases g1 : m.code.length > 128
  · have dg1 : decide ((m.code.length : Int) > 128) = true := by simp; omega
    have e := Lib.hid (met_long (m := m) (nn := U.names.length) (nc := U.classes.length) (nm := U.methods.length) (Or.inl g1))
    go_wp2
    go_ret
    exact ⟨by rw [e.out]; rfl, S0.out.bel⟩
  have dg1 : decide ((m.code.length : Int) > 128) = false := by simp; omega
  by_cases g2 : m.lits.length > 16
  · have dg2 : decide ((m.lits.length : Int) > 16) = true := by simp; omega
    have e := Lib.hid (met_long (m := m) (nn := U.names.length) (nc := U.classes.length) (nm := U.methods.length) (Or.inr (Or.inl g2)))
    go_wp2
    go_ret
    exact ⟨by rw [e.out]; rfl, S0.out.bel⟩
  have dg2 : decide ((m.lits.length : Int) > 16) = false := by simp; omega
  by_cases g3 : m.args < 0
  · have dg3 : decide (m.args < 0) = true := by simp; omega
    have e := Lib.hid (met_long (m := m) (nn := U.names.length) (nc := U.classes.length) (nm := U.methods.length) (Or.inr (Or.inr (Or.inl g3))))
    go_wp2
    go_ret
    exact ⟨by rw [e.out]; rfl, S0.out.bel⟩
  have dg3 : decide (m.args < 0) = false := by simp; omega
  by_cases g4 : m.temps < 0
  · have dg4 : decide (m.temps < 0) = true := by simp; omega
    have e := Lib.hid (met_long (m := m) (nn := U.names.length) (nc := U.classes.length) (nm := U.methods.length) (Or.inr (Or.inr (Or.inr (Or.inl g4)))))
    go_wp2
    go_ret
    exact ⟨by rw [e.out]; rfl, S0.out.bel⟩
  have dg4 : decide (m.temps < 0) = false := by simp; omega
  by_cases g5 : m.args > 8
  · have dg5 : decide (m.args > 8) = true := by simp; omega
    have e := Lib.hid (met_long (m := m) (nn := U.names.length) (nc := U.classes.length) (nm := U.methods.length) (Or.inr (Or.inr (Or.inr (Or.inr (Or.inl g5))))))
    go_wp2
    go_ret
    exact ⟨by rw [e.out]; rfl, S0.out.bel⟩
  have dg5 : decide (m.args > 8) = false := by simp; omega
  have wk : IntKind.i64.wrap (8 - m.args) = 8 - m.args := by rw [IntKind.wrap_i64]; omega
  by_cases g6 : m.temps > 8 - m.args
  · have dg6 : decide (m.temps > 8 - m.args) = true := by simp; omega
    have e := Lib.hid (met_long (m := m) (nn := U.names.length) (nc := U.classes.length) (nm := U.methods.length) (Or.inr (Or.inr (Or.inr (Or.inr (Or.inr g6))))))
    go_wp2
    go_ret
    exact ⟨by rw [e.out]; rfl, S0.out.bel⟩
  have dg6 : decide (m.temps > 8 - m.args) = false := by simp; omega
  have G : ¬ (m.code.length > 128 ∨ m.lits.length > 16 ∨ m.args < 0 ∨ m.temps < 0 ∨ m.args > 8 ∨ m.temps > 8 - m.args) := by omega
  have ha : 0 ≤ m.args ∧ m.args ≤ 8 := by omega
  have ht : 0 ≤ m.temps ∧ m.temps ≤ 8 := by omega
  go_upto_region 3 with fail
  clear dg1 dg2 dg3 dg4 dg5 dg6
  by_cases h2 : m.code.length < 2
  · have d2 : decide ((m.code.length : Int) < 2) = true := by simp; omega
    have e := Lib.hid (met_len (nn := U.names.length) (nc := U.classes.length) (nm := U.methods.length) G (Or.inl h2))
    go_wp2
    go_ret
    exact ⟨by rw [e.out]; rfl, S0.out.bel⟩
  have d2 : decide ((m.code.length : Int) < 2) = false := by simp; omega
  have hm := mod2 (n := m.code.length)
  rcases (show m.code.length % 2 = 1 ∨ m.code.length % 2 = 0 by omega) with h1 | h1
  · have e := Lib.hid (met_len (nn := U.names.length) (nc := U.classes.length) (nm := U.methods.length) G (Or.inr (by omega)))
    rw [h1] at hm
    replace hm : Int.tmod (m.code.length : Int) 2 = 1 := hm
    go_wp2
    go_ret
    exact ⟨by rw [e.out]; rfl, S0.out.bel⟩
  rw [h1] at hm
  replace hm : Int.tmod (m.code.length : Int) 2 = 0 := hm
  have H2 : ¬ (m.code.length < 2 ∨ m.code.length % 2 ≠ 0) := by omega
  go_upto_region 6 with fail
  obtain ⟨k, hk⟩ : ∃ k, k = m.code.length - 2 := ⟨_, rfl⟩
  have wm : IntKind.i64.wrap ((m.code.length : Int) - 2) = (k : Int) := by rw [IntKind.wrap_i64]; omega
  have k0 : (0 : Int) ≤ (k : Int) := by omega
  have k1 : (k : Int) < (m.code.length : Int) := by omega
  obtain ⟨bb, g, off, rfl, c0⟩ := S0.out.b.py.2.at (byAt_some (C := m.code) (k := k) (by omega))
  have L3 : byAt m.code k = byAt m.code (m.code.length - 2) := by rw [hk]
  have e1 := fun h => met_last (nn := U.names.length) (nc := U.classes.length) (nm := U.methods.length) G H2 h
  have e2 := fun h => met_t (nn := U.names.length) (nc := U.classes.length) (nm := U.methods.length) G H2 h
  rw [← L3] at e1 e2
  clear L3
  generalize byAt m.code k = x at *
  have wx : IntKind.i64.wrap x = x := by rw [IntKind.wrap_i64]; omega
  by_cases hx : x = 14 ∨ x = 19 ∨ x = 16
  · have e := Lib.hid (e2 (by omega))
    have hevn := Lib.hid h1
    have h128 := Lib.hid (show m.code.length ≤ 128 by omega)
    have hge2 := Lib.hid (show 2 ≤ m.code.length by omega)
    clear e1 e2 G H2 h2 hm hk h1 g1 g2 g3 g4 g5 g6 hn hnl
    rcases hx with rfl | rfl | rfl
    · have hst : Hid (m.lits.all (fun x => litR x U.names.length U.classes.length U.methods.length) = (m.lits.drop 0).all (fun x => litR x U.names.length U.classes.length U.methods.length)) := Lib.hid (by rw [List.drop_zero])
      go_upto_region 9 with fail
      clear c0 wm k0 k1 wx bb
      go_wp2
      go_loopw [73] (fun i73 wr => ∃ k : Nat, k ≤ m.lits.length ∧ i73 = .int .i64 k ∧ Hid (m.lits.all (fun x => litR x U.names.length U.classes.length U.methods.length) = (m.lits.drop k).all (fun x => litR x U.names.length U.classes.length U.methods.length)) ∧ Hid (MSt w wr w.heap.size (w.heap.size + 1) _ _ m U la (some ⟨g, off, none⟩) na ka ma oa lc cc nc kc mc oc)) (fun i73 _ => m.lits.length - (intOf i73).toNat)
      case atStart => exact ⟨0, by omega, rfl, hst, S0⟩
      case round =>
        clear hst S0 a0 a1 a2 a3
        obtain ⟨j, hj, rfl, hA, S⟩ := hrel
        by_cases hlt : j < m.lits.length
        · have d1 : decide ((j : Int) < (m.lits.length : Int)) = true := by simp; omega
          have j0 : (0 : Int) ≤ (j : Int) := by omega
          have j1 : (j : Int) < (m.lits.length : Int) := by omega
          obtain ⟨⟨lk, lx⟩, hx⟩ : ∃ x, m.lits[j]? = some x := ⟨m.lits[j]'hlt, by simp⟩
          obtain ⟨_, _, g', off', rfl, l0, l1⟩ := S.out.b.py.1.at hx
          have hnx := all_next (f := fun x => litR x U.names.length U.classes.length U.methods.length) hx
          have hS1 := S.out.up ((Below.refl _ _).alloc (Nat.le_refl _) (.cells #[.int .i64 lk, .int .i64 lx] 57))
          have PL := Lib.hid (rliteral_c hS1.u.un lk lx)
          replace hS1 := Lib.hid hS1
          have u0 := hS1.out.u.c0
          have u1 := hS1.out.u.c1
          have u2' := hS1.out.u.c2
          have u3 := hS1.out.u.c3
          have u4' := hS1.out.u.c4
          clear hx S
          cases hb : litR (lk, lx) U.names.length U.classes.length U.methods.length with
          | true =>
            rw [hb, Bool.true_and] at hnx
            rw [hb] at PL
            have hA' := Lib.hid (hA.out.trans hnx)
            clear hnx hb hA
            go_wp2_with fail
            with_reducible refine PL.out.mono ?_
            rintro e1 w2 ⟨rfl, hb2⟩
            go_wp2
            go_roundw
            case rel => exact ⟨j + 1, by omega, by go_num, hA', Lib.hid (hS1.out.up hb2)⟩
            case measure => simp [intOf]; omega
          | false =>
            rw [hb, Bool.false_and] at hnx
            rw [hb] at PL
            have eT := Lib.hid (metT_lit (m := m) (hA.out.trans hnx))
            clear hnx hb hA
            go_wp2_with fail
            with_reducible refine PL.out.mono ?_
            rintro e1 w2 ⟨rfl, hb2⟩
            go_wp2
            go_ret
            exact ⟨by rw [e.out, eT.out]; rfl, (hS1.out.up hb2).bel⟩
        · have d1 : decide ((j : Int) < (m.lits.length : Int)) = false := by simp; omega
          have hall := hA.out
          rw [show j = m.lits.length by omega, List.drop_length] at hall
          replace hall := Lib.hid (show m.lits.all (fun x => litR x U.names.length U.classes.length U.methods.length) = true from hall)
          clear hA
          obtain ⟨N, hN⟩ : ∃ N, N = m.code.length / 2 := ⟨_, rfl⟩
          have hN2 : m.code.length = 2 * N := by have := hevn.out; omega
          have hst2 : Hid (insF m (m.code.length / 2) 0 = insF m (N - 0) (2 * 0)) := Lib.hid (by rw [hN]; rfl)
          replace hN2 := Lib.hid hN2
          clear hN
          go_wp2
          go_loopw [9] (fun i9 wr => ∃ t : Nat, t ≤ N ∧ i9 = .int .i64 ((2 * t : Nat) : Int) ∧ Hid (insF m (m.code.length / 2) 0 = insF m (N - t) (2 * t)) ∧ Hid (MSt w wr w.heap.size (w.heap.size + 1) _ _ m U la (some ⟨g, off, none⟩) na ka ma oa lc cc nc kc mc oc)) (fun i9 _ => 2 * N - (intOf i9).toNat)
          case atStart => exact ⟨0, by omega, rfl, hst2, S⟩
          case round =>
            clear hst2 S
            obtain ⟨t, ht2, rfl, hI, S⟩ := hrel
            by_cases hlt2 : t < N
            · have d2' : decide (((2 * t : Nat) : Int) < (m.code.length : Int)) = true := by have := hN2.out; simp; omega
              have d3' : ((2 * t : Nat) : Int) < (m.code.length : Int) := by have := hN2.out; omega
              have wt : IntKind.i64.wrap (((2 * t : Nat) : Int) + 2) = ((2 * (t + 1) : Nat) : Int) := by have := h128.out; have := hN2.out; rw [IntKind.wrap_i64]; omega
              have PI := Lib.hid (rinst_c S.out.b.me (2 * t) h128.out (by have := hN2.out; omega) (by omega) ha ht)
              have hnx := ins_next (m := m) hlt2
              have q0 := S.out.b.c0
              have q1 := S.out.b.c1
              have q2 := S.out.b.c2
              have q3 := S.out.b.c3
              cases hb : insR m ((2 * t : Nat) : Int) (byAt m.code (2 * t)) (byAt m.code (2 * t + 1)) with
              | true =>
                rw [hb, Bool.true_and] at hnx
                rw [hb] at PI
                have hI' := Lib.hid (hI.out.trans hnx)
                clear hnx hb hI
                generalize hTT : ((2 * t : Nat) : Int) = tt at *
                go_wp2_with fail
                with_reducible refine PI.out.mono ?_
                rintro e1 w2 ⟨rfl, hb2⟩
                go_wp2
                go_roundw
                case rel => exact ⟨t + 1, by omega, rfl, hI', Lib.hid (S.out.up hb2)⟩
                case measure => subst hTT; simp [intOf]; have := hN2.out; omega
              | false =>
                rw [hb, Bool.false_and] at hnx
                rw [hb] at PI
                have eT := Lib.hid (metT_ins (m := m) hall.out (hI.out.trans hnx))
                clear hnx hb hI
                generalize hTT : ((2 * t : Nat) : Int) = tt at *
                go_wp2_with fail
                with_reducible refine PI.out.mono ?_
                rintro e1 w2 ⟨rfl, hb2⟩
                go_wp2
                go_ret
                exact ⟨by rw [e.out, eT.out]; rfl, (S.out.up hb2).bel⟩
            · have d2' : decide (((2 * t : Nat) : Int) < (m.code.length : Int)) = false := by have := hN2.out; simp; omega
              have d3' : ¬ ((2 * t : Nat) : Int) < (m.code.length : Int) := by have := hN2.out; omega
              have hI' := hI.out
              rw [show N - t = 0 by omega, insF] at hI'
              have eT := Lib.hid (metT_ok (m := m) hall.out hI')
              clear hI hI'
              generalize hTT : ((2 * t : Nat) : Int) = tt at *
              go_wp2
              go_ret
              exact ⟨by rw [e.out, eT.out]; rfl, S.out.bel⟩
    · have hst : Hid (m.lits.all (fun x => litR x U.names.length U.classes.length U.methods.length) = (m.lits.drop 0).all (fun x => litR x U.names.length U.classes.length U.methods.length)) := Lib.hid (by rw [List.drop_zero])
      go_upto_region 9 with fail
      clear c0 wm k0 k1 wx bb
      go_wp2
      go_loopw [73] (fun i73 wr => ∃ k : Nat, k ≤ m.lits.length ∧ i73 = .int .i64 k ∧ Hid (m.lits.all (fun x => litR x U.names.length U.classes.length U.methods.length) = (m.lits.drop k).all (fun x => litR x U.names.length U.classes.length U.methods.length)) ∧ Hid (MSt w wr w.heap.size (w.heap.size + 1) _ _ m U la (some ⟨g, off, none⟩) na ka ma oa lc cc nc kc mc oc)) (fun i73 _ => m.lits.length - (intOf i73).toNat)
      case atStart => exact ⟨0, by omega, rfl, hst, S0⟩
      case round =>
        clear hst S0 a0 a1 a2 a3
        obtain ⟨j, hj, rfl, hA, S⟩ := hrel
        by_cases hlt : j < m.lits.length
        · have d1 : decide ((j : Int) < (m.lits.length : Int)) = true := by simp; omega
          have j0 : (0 : Int) ≤ (j : Int) := by omega
          have j1 : (j : Int) < (m.lits.length : Int) := by omega
          obtain ⟨⟨lk, lx⟩, hx⟩ : ∃ x, m.lits[j]? = some x := ⟨m.lits[j]'hlt, by simp⟩
          obtain ⟨_, _, g', off', rfl, l0, l1⟩ := S.out.b.py.1.at hx
          have hnx := all_next (f := fun x => litR x U.names.length U.classes.length U.methods.length) hx
          have hS1 := S.out.up ((Below.refl _ _).alloc (Nat.le_refl _) (.cells #[.int .i64 lk, .int .i64 lx] 57))
          have PL := Lib.hid (rliteral_c hS1.u.un lk lx)
          replace hS1 := Lib.hid hS1
          have u0 := hS1.out.u.c0
          have u1 := hS1.out.u.c1
          have u2' := hS1.out.u.c2
          have u3 := hS1.out.u.c3
          have u4' := hS1.out.u.c4
          clear hx S
          cases hb : litR (lk, lx) U.names.length U.classes.length U.methods.length with
          | true =>
            rw [hb, Bool.true_and] at hnx
            rw [hb] at PL
            have hA' := Lib.hid (hA.out.trans hnx)
            clear hnx hb hA
            go_wp2_with fail
            with_reducible refine PL.out.mono ?_
            rintro e1 w2 ⟨rfl, hb2⟩
            go_wp2
            go_roundw
            case rel => exact ⟨j + 1, by omega, by go_num, hA', Lib.hid (hS1.out.up hb2)⟩
            case measure => simp [intOf]; omega
          | false =>
            rw [hb, Bool.false_and] at hnx
            rw [hb] at PL
            have eT := Lib.hid (metT_lit (m := m) (hA.out.trans hnx))
            clear hnx hb hA
            go_wp2_with fail
            with_reducible refine PL.out.mono ?_
            rintro e1 w2 ⟨rfl, hb2⟩
            go_wp2
            go_ret
            exact ⟨by rw [e.out, eT.out]; rfl, (hS1.out.up hb2).bel⟩
        · have d1 : decide ((j : Int) < (m.lits.length : Int)) = false := by simp; omega
          have hall := hA.out
          rw [show j = m.lits.length by omega, List.drop_length] at hall
          replace hall := Lib.hid (show m.lits.all (fun x => litR x U.names.length U.classes.length U.methods.length) = true from hall)
          clear hA
          obtain ⟨N, hN⟩ : ∃ N, N = m.code.length / 2 := ⟨_, rfl⟩
          have hN2 : m.code.length = 2 * N := by have := hevn.out; omega
          have hst2 : Hid (insF m (m.code.length / 2) 0 = insF m (N - 0) (2 * 0)) := Lib.hid (by rw [hN]; rfl)
          replace hN2 := Lib.hid hN2
          clear hN
          go_wp2
          go_loopw [9] (fun i9 wr => ∃ t : Nat, t ≤ N ∧ i9 = .int .i64 ((2 * t : Nat) : Int) ∧ Hid (insF m (m.code.length / 2) 0 = insF m (N - t) (2 * t)) ∧ Hid (MSt w wr w.heap.size (w.heap.size + 1) _ _ m U la (some ⟨g, off, none⟩) na ka ma oa lc cc nc kc mc oc)) (fun i9 _ => 2 * N - (intOf i9).toNat)
          case atStart => exact ⟨0, by omega, rfl, hst2, S⟩
          case round =>
            clear hst2 S
            obtain ⟨t, ht2, rfl, hI, S⟩ := hrel
            by_cases hlt2 : t < N
            · have d2' : decide (((2 * t : Nat) : Int) < (m.code.length : Int)) = true := by have := hN2.out; simp; omega
              have d3' : ((2 * t : Nat) : Int) < (m.code.length : Int) := by have := hN2.out; omega
              have wt : IntKind.i64.wrap (((2 * t : Nat) : Int) + 2) = ((2 * (t + 1) : Nat) : Int) := by have := h128.out; have := hN2.out; rw [IntKind.wrap_i64]; omega
              have PI := Lib.hid (rinst_c S.out.b.me (2 * t) h128.out (by have := hN2.out; omega) (by omega) ha ht)
              have hnx := ins_next (m := m) hlt2
              have q0 := S.out.b.c0
              have q1 := S.out.b.c1
              have q2 := S.out.b.c2
              have q3 := S.out.b.c3
              cases hb : insR m ((2 * t : Nat) : Int) (byAt m.code (2 * t)) (byAt m.code (2 * t + 1)) with
              | true =>
                rw [hb, Bool.true_and] at hnx
                rw [hb] at PI
                have hI' := Lib.hid (hI.out.trans hnx)
                clear hnx hb hI
                generalize hTT : ((2 * t : Nat) : Int) = tt at *
                go_wp2_with fail
                with_reducible refine PI.out.mono ?_
                rintro e1 w2 ⟨rfl, hb2⟩
                go_wp2
                go_roundw
                case rel => exact ⟨t + 1, by omega, rfl, hI', Lib.hid (S.out.up hb2)⟩
                case measure => subst hTT; simp [intOf]; have := hN2.out; omega
              | false =>
                rw [hb, Bool.false_and] at hnx
                rw [hb] at PI
                have eT := Lib.hid (metT_ins (m := m) hall.out (hI.out.trans hnx))
                clear hnx hb hI
                generalize hTT : ((2 * t : Nat) : Int) = tt at *
                go_wp2_with fail
                with_reducible refine PI.out.mono ?_
                rintro e1 w2 ⟨rfl, hb2⟩
                go_wp2
                go_ret
                exact ⟨by rw [e.out, eT.out]; rfl, (S.out.up hb2).bel⟩
            · have d2' : decide (((2 * t : Nat) : Int) < (m.code.length : Int)) = false := by have := hN2.out; simp; omega
              have d3' : ¬ ((2 * t : Nat) : Int) < (m.code.length : Int) := by have := hN2.out; omega
              have hI' := hI.out
              rw [show N - t = 0 by omega, insF] at hI'
              have eT := Lib.hid (metT_ok (m := m) hall.out hI')
              clear hI hI'
              generalize hTT : ((2 * t : Nat) : Int) = tt at *
              go_wp2
              go_ret
              exact ⟨by rw [e.out, eT.out]; rfl, S.out.bel⟩
    · have hst : Hid (m.lits.all (fun x => litR x U.names.length U.classes.length U.methods.length) = (m.lits.drop 0).all (fun x => litR x U.names.length U.classes.length U.methods.length)) := Lib.hid (by rw [List.drop_zero])
      go_upto_region 9 with fail
      clear c0 wm k0 k1 wx bb
      go_wp2
      go_loopw [73] (fun i73 wr => ∃ k : Nat, k ≤ m.lits.length ∧ i73 = .int .i64 k ∧ Hid (m.lits.all (fun x => litR x U.names.length U.classes.length U.methods.length) = (m.lits.drop k).all (fun x => litR x U.names.length U.classes.length U.methods.length)) ∧ Hid (MSt w wr w.heap.size (w.heap.size + 1) _ _ m U la (some ⟨g, off, none⟩) na ka ma oa lc cc nc kc mc oc)) (fun i73 _ => m.lits.length - (intOf i73).toNat)
      case atStart => exact ⟨0, by omega, rfl, hst, S0⟩
      case round =>
        clear hst S0 a0 a1 a2 a3
        obtain ⟨j, hj, rfl, hA, S⟩ := hrel
        by_cases hlt : j < m.lits.length
        · have d1 : decide ((j : Int) < (m.lits.length : Int)) = true := by simp; omega
          have j0 : (0 : Int) ≤ (j : Int) := by omega
          have j1 : (j : Int) < (m.lits.length : Int) := by omega
          obtain ⟨⟨lk, lx⟩, hx⟩ : ∃ x, m.lits[j]? = some x := ⟨m.lits[j]'hlt, by simp⟩
          obtain ⟨_, _, g', off', rfl, l0, l1⟩ := S.out.b.py.1.at hx
          have hnx := all_next (f := fun x => litR x U.names.length U.classes.length U.methods.length) hx
          have hS1 := S.out.up ((Below.refl _ _).alloc (Nat.le_refl _) (.cells #[.int .i64 lk, .int .i64 lx] 57))
          have PL := Lib.hid (rliteral_c hS1.u.un lk lx)
          replace hS1 := Lib.hid hS1
          have u0 := hS1.out.u.c0
          have u1 := hS1.out.u.c1
          have u2' := hS1.out.u.c2
          have u3 := hS1.out.u.c3
          have u4' := hS1.out.u.c4
          clear hx S
          cases hb : litR (lk, lx) U.names.length U.classes.length U.methods.length with
          | true =>
            rw [hb, Bool.true_and] at hnx
            rw [hb] at PL
            have hA' := Lib.hid (hA.out.trans hnx)
            clear hnx hb hA
            go_wp2_with fail
            with_reducible refine PL.out.mono ?_
            rintro e1 w2 ⟨rfl, hb2⟩
            go_wp2
            go_roundw
            case rel => exact ⟨j + 1, by omega, by go_num, hA', Lib.hid (hS1.out.up hb2)⟩
            case measure => simp [intOf]; omega
          | false =>
            rw [hb, Bool.false_and] at hnx
            rw [hb] at PL
            have eT := Lib.hid (metT_lit (m := m) (hA.out.trans hnx))
            clear hnx hb hA
            go_wp2_with fail
            with_reducible refine PL.out.mono ?_
            rintro e1 w2 ⟨rfl, hb2⟩
            go_wp2
            go_ret
            exact ⟨by rw [e.out, eT.out]; rfl, (hS1.out.up hb2).bel⟩
        · have d1 : decide ((j : Int) < (m.lits.length : Int)) = false := by simp; omega
          have hall := hA.out
          rw [show j = m.lits.length by omega, List.drop_length] at hall
          replace hall := Lib.hid (show m.lits.all (fun x => litR x U.names.length U.classes.length U.methods.length) = true from hall)
          clear hA
          obtain ⟨N, hN⟩ : ∃ N, N = m.code.length / 2 := ⟨_, rfl⟩
          have hN2 : m.code.length = 2 * N := by have := hevn.out; omega
          have hst2 : Hid (insF m (m.code.length / 2) 0 = insF m (N - 0) (2 * 0)) := Lib.hid (by rw [hN]; rfl)
          replace hN2 := Lib.hid hN2
          clear hN
          go_wp2
          go_loopw [9] (fun i9 wr => ∃ t : Nat, t ≤ N ∧ i9 = .int .i64 ((2 * t : Nat) : Int) ∧ Hid (insF m (m.code.length / 2) 0 = insF m (N - t) (2 * t)) ∧ Hid (MSt w wr w.heap.size (w.heap.size + 1) _ _ m U la (some ⟨g, off, none⟩) na ka ma oa lc cc nc kc mc oc)) (fun i9 _ => 2 * N - (intOf i9).toNat)
          case atStart => exact ⟨0, by omega, rfl, hst2, S⟩
          case round =>
            clear hst2 S
            obtain ⟨t, ht2, rfl, hI, S⟩ := hrel
            by_cases hlt2 : t < N
            · have d2' : decide (((2 * t : Nat) : Int) < (m.code.length : Int)) = true := by have := hN2.out; simp; omega
              have d3' : ((2 * t : Nat) : Int) < (m.code.length : Int) := by have := hN2.out; omega
              have wt : IntKind.i64.wrap (((2 * t : Nat) : Int) + 2) = ((2 * (t + 1) : Nat) : Int) := by have := h128.out; have := hN2.out; rw [IntKind.wrap_i64]; omega
              have PI := Lib.hid (rinst_c S.out.b.me (2 * t) h128.out (by have := hN2.out; omega) (by omega) ha ht)
              have hnx := ins_next (m := m) hlt2
              have q0 := S.out.b.c0
              have q1 := S.out.b.c1
              have q2 := S.out.b.c2
              have q3 := S.out.b.c3
              cases hb : insR m ((2 * t : Nat) : Int) (byAt m.code (2 * t)) (byAt m.code (2 * t + 1)) with
              | true =>
                rw [hb, Bool.true_and] at hnx
                rw [hb] at PI
                have hI' := Lib.hid (hI.out.trans hnx)
                clear hnx hb hI
                generalize hTT : ((2 * t : Nat) : Int) = tt at *
                go_wp2_with fail
                with_reducible refine PI.out.mono ?_
                rintro e1 w2 ⟨rfl, hb2⟩
                go_wp2
                go_roundw
                case rel => exact ⟨t + 1, by omega, rfl, hI', Lib.hid (S.out.up hb2)⟩
                case measure => subst hTT; simp [intOf]; have := hN2.out; omega
              | false =>
                rw [hb, Bool.false_and] at hnx
                rw [hb] at PI
                have eT := Lib.hid (metT_ins (m := m) hall.out (hI.out.trans hnx))
                clear hnx hb hI
                generalize hTT : ((2 * t : Nat) : Int) = tt at *
                go_wp2_with fail
                with_reducible refine PI.out.mono ?_
                rintro e1 w2 ⟨rfl, hb2⟩
                go_wp2
                go_ret
                exact ⟨by rw [e.out, eT.out]; rfl, (S.out.up hb2).bel⟩
            · have d2' : decide (((2 * t : Nat) : Int) < (m.code.length : Int)) = false := by have := hN2.out; simp; omega
              have d3' : ¬ ((2 * t : Nat) : Int) < (m.code.length : Int) := by have := hN2.out; omega
              have hI' := hI.out
              rw [show N - t = 0 by omega, insF] at hI'
              have eT := Lib.hid (metT_ok (m := m) hall.out hI')
              clear hI hI'
              generalize hTT : ((2 * t : Nat) : Int) = tt at *
              go_wp2
              go_ret
              exact ⟨by rw [e.out, eT.out]; rfl, S.out.bel⟩
  · have f14 : (x == 14) = false := by simp; omega
    have f19 : (x == 19) = false := by simp; omega
    have f16 : (x == 16) = false := by simp; omega
    have n14 : (x != 14) = true := by simp; omega
    have n19 : (x != 19) = true := by simp; omega
    have n16 : (x != 16) = true := by simp; omega
    have e := Lib.hid (e1 (by omega))
    clear hx e1 e2 hk hm H2 G h1 hn hnl
    go_wp2
    go_ret
    exact ⟨by rw [e.out]; rfl, S0.out.bel⟩
end Wd
end Go.Proofs.YtgfdgdbkifkehaaGreat

/- Is a program right? (the document's own) -/
namespace Go.Proofs.YtgfdgdbkifkehaaGreat
open Go.RowKit
set_option linter.unusedVariables false
set_option maxRecDepth 20000
namespace Wd
/-- the first thing that is wrong -/
def firstE : List Int → Int
  | [] => 0
  | e :: L => if e = 0 then firstE L else e
def eBinds (B : List (Int × Int)) : Int := if (ofD B D0).isSome = true then 0 else 14
def nmAt (L : List ByteArray) (i : Int) : ByteArray := L.getD i.toNat ⟨#[]⟩
def agAt (L : List MethA) (i : Int) : Int := match L[i.toNat]? with
  | some x => x.args
  | none => 0
def eArg (U : UnitA) (b : Int × Int) : Int := if argsR (nmAt U.names b.1) = agAt U.methods b.2 then 0 else 15
def eArgs (U : UnitA) : List ClassA → List Int
  | [] => []
  | c :: C => c.binds.map (eArg U) ++ eArgs U C
def longB (U : UnitA) : Bool := decide (48 < U.names.length) || (decide (U.methods.length < 1) || (decide (32 < U.methods.length) || (decide (U.objects.length < 1) || decide (40 < U.objects.length))))
def mainE (U : UnitA) : Int := if 0 ≤ U.main ∧ U.main < (U.methods.length : Int) ∧ agAt U.methods U.main = 0 then 0 else 15
def restO (U : UnitA) (k : Nat) : List Int := (U.objects.drop k).map (fun x => if objB x U.classes U.objects.length = true then (0 : Int) else 16) ++ [mainE U]
def restA (U : UnitA) (k : Nat) : List Int := eArgs U (U.classes.drop k) ++ restO U 0
def restB (U : UnitA) (B : List (Int × Int)) (k j : Nat) : List Int := (B.drop j).map (eArg U) ++ restA U k
def restM (U : UnitA) (k : Nat) : List Int := (U.methods.drop k).map (fun m => metR m U.names.length U.classes.length U.methods.length) ++ restA U 0
def restC (U : UnitA) (k : Nat) : List Int := (U.classes.drop k).map (fun c => eBinds c.binds) ++ restM U 0
/-- what is wrong with a program; 0: nothing -/
def unitR (U : UnitA) : Int := firstE ((if longB U = true then (3 : Int) else 0) :: (if namesB U.names = true then (0 : Int) else 13) :: shapeR U.classes U.names.length U.methods.length :: restC U 0)
/-- so far nothing is wrong; X: what is still looked at -/
structure StU (U : UnitA) (X : List Int) : Prop where
  mk ::
  eq : unitR U = firstE X
theorem StU.ok {U : UnitA} {X : List Int} {e : Int} (h : StU U (e :: X)) (he : e = 0) : StU U X := ⟨by rw [h.eq, firstE, if_pos he]⟩
theorem StU.bad {U : UnitA} {X : List Int} {e : Int} (h : StU U (e :: X)) (he : ¬ e = 0) : unitR U = e := by rw [h.eq, firstE, if_neg he]
theorem StU.start (U : UnitA) : StU U ((if longB U = true then (3 : Int) else 0) :: (if namesB U.names = true then (0 : Int) else 13) :: shapeR U.classes U.names.length U.methods.length :: restC U 0) := ⟨rfl⟩
theorem restC_next {U : UnitA} {k : Nat} {c : ClassA} (h : U.classes[k]? = some c) : restC U k = eBinds c.binds :: restC U (k + 1) := by unfold restC; rw [drop_next h]; rfl
theorem restM_next {U : UnitA} {k : Nat} {m : MethA} (h : U.methods[k]? = some m) : restM U k = metR m U.names.length U.classes.length U.methods.length :: restM U (k + 1) := by unfold restM; rw [drop_next h]; rfl
theorem restO_next {U : UnitA} {k : Nat} {x : ObjA} (h : U.objects[k]? = some x) : restO U k = (if objB x U.classes U.objects.length = true then (0 : Int) else 16) :: restO U (k + 1) := by unfold restO; rw [drop_next h]; rfl
theorem restA_next {U : UnitA} {k : Nat} {c : ClassA} (h : U.classes[k]? = some c) : restA U k = restB U c.binds (k + 1) 0 := by unfold restA restB restA; rw [drop_next h]; simp [eArgs]
theorem restB_next {U : UnitA} {B : List (Int × Int)} {k j : Nat} {b : Int × Int} (h : B[j]? = some b) : restB U B k j = eArg U b :: restB U B k (j + 1) := by unfold restB; rw [drop_next h]; rfl
theorem drop_all {T : Type} {L : List T} {k : Nat} (h : k = L.length) : L.drop k = [] := by subst h; exact List.drop_length
theorem restC_last {U : UnitA} {k : Nat} (h : k = U.classes.length) : restC U k = restM U 0 := by unfold restC; rw [drop_all h]; rfl
theorem restM_last {U : UnitA} {k : Nat} (h : k = U.methods.length) : restM U k = restA U 0 := by unfold restM; rw [drop_all h]; rfl
theorem restA_last {U : UnitA} {k : Nat} (h : k = U.classes.length) : restA U k = restO U 0 := by unfold restA; rw [drop_all h]; rfl
theorem restB_last {U : UnitA} {B : List (Int × Int)} {k j : Nat} (h : j = B.length) : restB U B k j = restA U k := by unfold restB; rw [drop_all h]; rfl
theorem restO_last {U : UnitA} {k : Nat} (h : k = U.objects.length) : restO U k = [mainE U] := by unfold restO; rw [drop_all h]; rfl
/-- classes that are right: each bind is -/
theorem from_binds {L : List ClassA} {names methods : Int} : ∀ (C : List ClassA) (i : Nat), shapeFrom L names methods i C = 0 → ∀ c ∈ C, bindsOk c.binds names methods = true
  | [], _, _, c, h => by cases h
  | d :: C, i, e, c, h => by
    rw [shapeFrom] at e
    split at e
    · cases e
    · split at e
      · cases e
      · split at e
        · cases e
        · split at e
          · cases e
          · rename_i hb
            rcases List.mem_cons.1 h with rfl | h
            · simpa using hb
            · exact from_binds C (i + 1) e c h
theorem shape_binds {L : List ClassA} {names methods : Int} (e : shapeR L names methods = 0) {k : Nat} {c : ClassA} (hc : L[k]? = some c) {j : Nat} {b : Int × Int} (hb : c.binds[j]? = some b) : 0 ≤ b.1 ∧ b.1 < names ∧ 0 ≤ b.2 ∧ b.2 < methods := by
  unfold shapeR at e
  split at e
  · cases e
  · split at e
    · cases e
    · have h1 := from_binds L 0 e c (List.mem_of_getElem? hc)
      unfold bindsOk at h1
      simp only [Bool.and_eq_true, List.all_eq_true] at h1
      have h2 := h1.1.1 b (List.mem_of_getElem? hb)
      unfold bindOk at h2
      simp only [Bool.and_eq_true, decide_eq_true_iff] at h2
      omega
theorem rofY {w : World} {v : Value} {B : List (Int × Int)} (h : PrV w v B) (e : eBinds B = 0) :
    Calls Tryz.prog 54 #[v] w fun e w' => ∃ b, e = .returned (.tuple #[.pointer (some ⟨b, 0, none⟩), .bool true]) ∧ Below w.heap.size w w' := by
  refine (rof_c h).mono ?_
  rintro e1 w1 ⟨⟨D, b, _, he, _, _⟩ | ⟨h0, he⟩, hb⟩
  · exact ⟨b, he, hb⟩
  · unfold eBinds at e; rw [h0] at e; cases e
theorem rofN {w : World} {v : Value} {B : List (Int × Int)} (h : PrV w v B) (e : ¬ eBinds B = 0) :
    Calls Tryz.prog 54 #[v] w fun e w' => e = .returned (.tuple #[.pointer none, .bool false]) ∧ Below w.heap.size w w' := by
  refine (rof_c h).mono ?_
  rintro e1 w1 ⟨⟨D, b, h0, he, _, _⟩ | ⟨h0, he⟩, hb⟩
  · unfold eBinds at e; rw [h0] at e; exact absurd rfl e
  · exact ⟨he, hb⟩
theorem eBinds_14 {B : List (Int × Int)} (e : ¬ eBinds B = 0) : eBinds B = 14 := by
  unfold eBinds at e ⊢
  split
  · rename_i h; rw [if_pos h] at e; exact absurd rfl e
  · rfl
/-- a program lies boxed -/
structure V1 (w wr : World) (U : UnitA) (na : Option Addr) (nc : Nat) (ca : Option Addr) (cc : Nat) (ma : Option Addr) (mc : Nat) (oa : Option Addr) (oc : Nat) (l1 l2 l3 l4 : Nat) : Prop where
  mk ::
  cells : wr.cell? ⟨w.heap.size, 0, none⟩ = some (.slice na l1 nc) ∧ wr.cell? ⟨w.heap.size, 1, none⟩ = some (.slice ca l2 cc) ∧ wr.cell? ⟨w.heap.size, 2, none⟩ = some (.slice ma l3 mc) ∧ wr.cell? ⟨w.heap.size, 3, none⟩ = some (.slice oa l4 oc) ∧ wr.cell? ⟨w.heap.size, 4, none⟩ = some (.int .i64 U.main)
  views : NmV wr (.slice na l1 nc) U.names ∧ ClV wr (.slice ca l2 cc) U.classes ∧ MtV wr (.slice ma l3 mc) U.methods ∧ ObV wr (.slice oa l4 oc) U.objects
  lens : l1 = U.names.length ∧ l2 = U.classes.length ∧ l3 = U.methods.length ∧ l4 = U.objects.length
  les : l1 ≤ maxLen ∧ l2 ≤ maxLen ∧ l3 ≤ maxLen ∧ l4 ≤ maxLen
  caps : l1 ≤ nc ∧ l2 ≤ cc ∧ l3 ≤ mc ∧ l4 ≤ oc
  bel : Below w.heap.size w wr
section
variable {w wr w2 : World} {U : UnitA} {na ca ma oa : Option Addr} {nc cc mc oc l1 l2 l3 l4 : Nat}
theorem V1.up (h : V1 w wr U na nc ca cc ma mc oa oc l1 l2 l3 l4) (b : Below wr.heap.size wr w2) : V1 w w2 U na nc ca cc ma mc oa oc l1 l2 l3 l4 := by
  obtain ⟨a0, a1, a2, a3, a4⟩ := h.cells
  obtain ⟨v0, v1, v2, v3⟩ := h.views
  exact ⟨⟨cell_up b a0, cell_up b a1, cell_up b a2, cell_up b a3, cell_up b a4⟩, ⟨v0.up b, v1.up b, v2.up b, v3.up b⟩, h.lens, h.les, h.caps, h.bel.trans (b.mono h.bel.size)⟩
theorem V1.drew (h : V1 w wr U na nc ca cc ma mc oa oc l1 l2 l3 l4) : V1 w wr.drew U na nc ca cc ma mc oa oc l1 l2 l3 l4 := h.up ((Below.refl _ _).drew)
theorem V1.unk (h : V1 w wr U na nc ca cc ma mc oa oc l1 l2 l3 l4) : UnK wr (.agg #[.slice na l1 nc, .slice ca l2 cc, .slice ma l3 mc, .slice oa l4 oc, .int .i64 U.main]) U := by
  obtain ⟨v0, v1, v2, v3⟩ := h.views
  obtain ⟨e1, e2, e3, e4⟩ := h.lens
  subst e1; subst e2; subst e3; subst e4
  exact ⟨⟨na, nc, ca, cc, ma, mc, oa, oc, rfl, ⟨v0, v1, v2, v3⟩⟩⟩
end
set_option maxHeartbeats 64000000 in
theorem runit_c {w : World} {u : Value} {U : UnitA} (hu : UnK w u U) :
    Calls Tryz.prog 24 #[u] w fun e w' => e = .returned (.int .i64 (unitR U)) ∧ Below w.heap.size w w' := by
  obtain ⟨na, nc, ca, cc, ma, mc, oa, oc, rfl, ha'⟩ := hu.ex
  obtain ⟨_, _, e1, k1, m1, -⟩ := ha'.n.ex
  cases e1
  obtain ⟨_, _, e2, k2, m2⟩ := ha'.c.form
  cases e2
  obtain ⟨_, _, e3, k3, m3, -⟩ := ha'.m.ex
  cases e3
  obtain ⟨_, _, e4, k4, m4⟩ := ha'.o.form
  cases e4
  obtain ⟨v1, v2, v3, v4⟩ := ha'
  clear hu
  obtain ⟨l1, g1⟩ : ∃ n, n = U.names.length := ⟨_, rfl⟩
  obtain ⟨l2, g2⟩ : ∃ n, n = U.classes.length := ⟨_, rfl⟩
  obtain ⟨l3, g3⟩ : ∃ n, n = U.methods.length := ⟨_, rfl⟩
  obtain ⟨l4, g4⟩ : ∃ n, n = U.objects.length := ⟨_, rfl⟩
  rw [← g1] at k1 v1 ⊢
  replace m1 := Nat.le_trans k1 m1
  rw [← g2] at k2 v2 ⊢
  replace m2 := Nat.le_trans k2 m2
  rw [← g3] at k3 v3 ⊢
  replace m3 := Nat.le_trans k3 m3
  rw [← g4] at k4 v4 ⊢
  replace m4 := Nat.le_trans k4 m4
  have hw1 := (Below.refl w.heap.size w).alloc (Nat.le_refl _) (.cells #[.slice na l1 nc, .slice ca l2 cc, .slice ma l3 mc, .slice oa l4 oc, .int .i64 U.main] 27)
  have hS : Hid (V1 w (w.alloc (.cells #[.slice na l1 nc, .slice ca l2 cc, .slice ma l3 mc, .slice oa l4 oc, .int .i64 U.main] 27)) U na nc ca cc ma mc oa oc l1 l2 l3 l4) := Lib.hid ⟨⟨by simp, by simp, by simp, by simp, by simp⟩, ⟨v1.up hw1, v2.up hw1, v3.up hw1, v4.up hw1⟩, ⟨g1, g2, g3, g4⟩, ⟨m1, m2, m3, m4⟩, ⟨k1, k2, k3, k4⟩, hw1⟩
  have hT := StU.start U
  have hlong : longB U = (decide (48 < l1) || (decide (l3 < 1) || (decide (32 < l3) || (decide (l4 < 1) || decide (40 < l4))))) := by unfold longB; rw [← g1, ← g3, ← g4]
  have hmx : maxLen ≤ 9223372036854775807 := by decide
  have j1 : (l1 : Int) ≤ 9223372036854775807 := by omega
  have j2 : (l2 : Int) ≤ 9223372036854775807 := by omega
  have j3 : (l3 : Int) ≤ 9223372036854775807 := by omega
  have j4 : (l4 : Int) ≤ 9223372036854775807 := by omega
  have PN := Lib.hid (fun (w' : World) (h : NmV w' (.slice na l1 nc) U.names) => rnames_c h)
  have PS := Lib.hid (fun (w' : World) (h : ClV w' (.slice ca l2 cc) U.classes) => shape_c h l1 l3 (in64 _ ⟨by omega, by omega⟩) (in64 _ ⟨by omega, by omega⟩))
  clear hw1 hmx k1 k2 k3 k4 m1 m2 m3 m4 v1 v2 v3 v4
  replace hT := Lib.hid hT
  have gg := Lib.hid (And.intro g1 (And.intro g2 (And.intro g3 g4)))
  clear g1 g2 g3 g4
  go_enter Tryz.func24, Tryz.ntmps24
  go_upto_region 1 with fail
  generalize w.alloc (.cells #[.slice na l1 nc, .slice ca l2 cc, .slice ma l3 mc, .slice oa l4 oc, .int .i64 U.main] 27) = W at *
  obtain ⟨a0, a1, a2, a3, a4⟩ := hS.out.cells
  by_cases t0 : 48 < l1
  · as_aux_lemma =>
    have e : Hid (unitR U = 3) := Lib.hid (by
      have hb : longB U = true := by rw [hlong]; simp [t0]
      have h := hT.out
      rw [if_pos hb] at h
      exact h.bad (by omega))
    have d0 : decide ((l1 : Int) > 48) = true := by simp; omega
    clear t0 hT hlong
    go_wp2
    go_ret
    exact ⟨congrArg (fun b => Ending.returned (Value.int .i64 b)) e.out.symm, hS.out.bel⟩
  have d0 : decide ((l1 : Int) > 48) = false := by simp; omega
  by_cases t1 : l3 < 1
  · as_aux_lemma =>
    have e : Hid (unitR U = 3) := Lib.hid (by
      have hb : longB U = true := by rw [hlong]; simp [t1]
      have h := hT.out
      rw [if_pos hb] at h
      exact h.bad (by omega))
    have d1 : decide ((l3 : Int) < 1) = true := by simp; omega
    clear t1 hT hlong
    go_wp2
    go_ret
    exact ⟨congrArg (fun b => Ending.returned (Value.int .i64 b)) e.out.symm, hS.out.bel⟩
  have d1 : decide ((l3 : Int) < 1) = false := by simp; omega
  by_cases t2 : 32 < l3
  · as_aux_lemma =>
    have e : Hid (unitR U = 3) := Lib.hid (by
      have hb : longB U = true := by rw [hlong]; simp [t2]
      have h := hT.out
      rw [if_pos hb] at h
      exact h.bad (by omega))
    have d2 : decide ((l3 : Int) > 32) = true := by simp; omega
    clear t2 hT hlong
    go_wp2
    go_ret
    exact ⟨congrArg (fun b => Ending.returned (Value.int .i64 b)) e.out.symm, hS.out.bel⟩
  have d2 : decide ((l3 : Int) > 32) = false := by simp; omega
  by_cases t3 : l4 < 1
  · as_aux_lemma =>
    have e : Hid (unitR U = 3) := Lib.hid (by
      have hb : longB U = true := by rw [hlong]; simp [t3]
      have h := hT.out
      rw [if_pos hb] at h
      exact h.bad (by omega))
    have d3 : decide ((l4 : Int) < 1) = true := by simp; omega
    clear t3 hT hlong
    go_wp2
    go_ret
    exact ⟨congrArg (fun b => Ending.returned (Value.int .i64 b)) e.out.symm, hS.out.bel⟩
  have d3 : decide ((l4 : Int) < 1) = false := by simp; omega
  by_cases t4 : 40 < l4
  · as_aux_lemma =>
    have e : Hid (unitR U = 3) := Lib.hid (by
      have hb : longB U = true := by rw [hlong]; simp [t4]
      have h := hT.out
      rw [if_pos hb] at h
      exact h.bad (by omega))
    have d4 : decide ((l4 : Int) > 40) = true := by simp; omega
    clear t4 hT hlong
    go_wp2
    go_ret
    exact ⟨congrArg (fun b => Ending.returned (Value.int .i64 b)) e.out.symm, hS.out.bel⟩
  have d4 : decide ((l4 : Int) > 40) = false := by simp; omega
  have T1 : Hid (StU U ((if namesB U.names = true then (0 : Int) else 13) :: shapeR U.classes U.names.length U.methods.length :: restC U 0)) := Lib.hid (by
    have hb : longB U = false := by rw [hlong]; simp; omega
    have h := hT.out
    rw [hb] at h
    exact h.ok rfl)
  clear hT hlong t0 t1 t2 t3 t4
  go_wp2_with fail
  refine (PN.out _ hS.out.views.1).mono ?_
  rintro e w2 ⟨rfl, rfl⟩
  cases hnm : namesB U.names with
  | false =>
    have e : Hid (unitR U = 13) := Lib.hid (by have h := T1.out; rw [hnm] at h; exact h.bad (by decide))
    clear T1 hnm
    go_wp2
    go_ret
    exact ⟨congrArg (fun b => Ending.returned (Value.int .i64 b)) e.out.symm, hS.out.bel⟩
  | true =>
  have T2 : Hid (StU U (shapeR U.classes U.names.length U.methods.length :: restC U 0)) := Lib.hid (by have h := T1.out; rw [hnm] at h; exact h.ok rfl)
  clear T1 hnm
  go_wp2_with fail
  refine (PS.out _ hS.out.views.2.1).mono ?_
  rintro e w2 ⟨rfl, hb2⟩
  replace hS := Lib.hid (hS.out.up hb2)
  clear hb2 a0 a1 a2 a3 a4
  obtain ⟨a0, a1, a2, a3, a4⟩ := hS.out.cells
  obtain ⟨s, hs⟩ : ∃ s, shapeR U.classes l1 l3 = s := ⟨_, rfl⟩
  rw [hs]
  replace hs : Hid (shapeR U.classes U.names.length U.methods.length = s) := Lib.hid (by obtain ⟨g1, g2, g3, g4⟩ := gg.out; rw [← g1, ← g3]; exact hs)
  by_cases hz : ¬ s = 0
  · as_aux_lemma =>
    have e : Hid (unitR U = s) := Lib.hid (by have h := T2.out; rw [hs.out] at h; exact h.bad hz)
    have hz' : (s != 0) = true := by simpa using hz
    clear T2 hz
    go_wp2
    go_ret
    exact ⟨congrArg (fun b => Ending.returned (Value.int .i64 b)) e.out.symm, hS.out.bel⟩
  replace hz : s = 0 := Decidable.not_not.1 hz
  subst hz
  have T3 : Hid (StU U (restC U 0)) := Lib.hid (by have h := T2.out; rw [hs.out] at h; exact h.ok rfl)
  clear T2
  go_wp2
  clear a0 a1 a2 a3 a4
  go_loopw [64] (fun i wr => ∃ (k : Nat), k ≤ l2 ∧ i = .int .i64 k ∧ Hid (StU U (restC U k)) ∧ Hid (V1 w wr U na nc ca cc ma mc oa oc l1 l2 l3 l4)) (fun i _ => l2 - (intOf i).toNat)
  case atStart => exact ⟨0, by omega, rfl, T3, hS⟩
  case round =>
    clear hS T3
    obtain ⟨k, hk, rfl, hT, hS⟩ := hrel
    obtain ⟨a0, a1, a2, a3, a4⟩ := hS.out.cells
    by_cases hlt : k < l2
    · as_aux_lemma =>
      have hlt' : decide ((k : Int) < (l2 : Int)) = true := by simp; omega
      have p0 : (0 : Int) ≤ (k : Int) := by omega
      have p1 : (k : Int) < (l2 : Int) := by omega
      obtain ⟨x, hx⟩ : ∃ x, U.classes[k]? = some x := ⟨U.classes[k]'(by obtain ⟨h1, h2, h3, h4⟩ := gg.out; omega), by simp⟩
      obtain ⟨q1, q2, q3, q4⟩ := hS.out.caps
      obtain ⟨_, _, g, off, bv, rfl, d0, d1, d2, d3, pb⟩ := ClV.at hS.out.views.2.1 hx
      obtain ⟨ba, bc, rfl, _, _⟩ := pb.form
      have T := hT.out
      rw [restC_next hx] at T
      have hS2 := Lib.hid (hS.out.up ((Below.refl _ _).alloc (Nat.le_refl _) (.cells #[.string x.nm, .int .i64 x.super, .int .i64 x.fields, .slice ba x.binds.length bc] 45)))
      have pb2 := Lib.hid (pb.up ((Below.refl _ _).alloc (Nat.le_refl _) (.cells #[.string x.nm, .int .i64 x.super, .int .i64 x.fields, .slice ba x.binds.length bc] 45)))
      clear hT pb hx
      by_cases hz : ¬ eBinds x.binds = 0
      · as_aux_lemma =>
        have e : Hid (unitR U = 14) := Lib.hid (by rw [T.bad hz]; exact eBinds_14 hz)
        have hzh := Lib.hid hz
        clear T hz
        go_wp2_with fail
        refine (rofN pb2.out hzh.out).mono ?_
        rintro e1 w3 ⟨rfl, hb3⟩
        replace hS := Lib.hid (hS2.out.up hb3)
        clear hS2 hb3 pb2
        go_wp2
        go_ret
        exact ⟨congrArg (fun b => Ending.returned (Value.int .i64 b)) e.out.symm, hS.out.bel⟩
      replace hz : eBinds x.binds = 0 := Decidable.not_not.1 hz
      have hzh := Lib.hid hz
      have hT' : Hid (StU U (restC U (k + 1))) := Lib.hid (T.ok hz)
      clear T hz
      go_wp2_with fail
      refine (rofY pb2.out hzh.out).mono ?_
      rintro e1 w3 ⟨bq, rfl, hb3⟩
      replace hS := Lib.hid (hS2.out.up hb3)
      clear hS2 hb3 pb2
      go_wp2
      go_roundw
      case rel => exact ⟨k + 1, by omega, by go_num, hT', hS⟩
      case measure => simp [intOf]; omega
    · as_aux_lemma =>
      have hlt' : decide ((k : Int) < (l2 : Int)) = false := by simp; omega
      have hT' := hT.out
      rw [restC_last (by obtain ⟨h1, h2, h3, h4⟩ := gg.out; omega)] at hT'
      clear hT
      have hT := Lib.hid hT'
      clear hT'
      go_wp2
      clear a0 a1 a2 a3 a4
      clear hlt hlt' hk
      go_loopw [80] (fun i wr => ∃ (k : Nat), k ≤ l3 ∧ i = .int .i64 k ∧ Hid (StU U (restM U k)) ∧ Hid (V1 w wr U na nc ca cc ma mc oa oc l1 l2 l3 l4)) (fun i _ => l3 - (intOf i).toNat)
      case atStart => exact ⟨0, by omega, rfl, hT, hS⟩
      case round =>
        clear hS hT
        obtain ⟨k, hk, rfl, hT, hS⟩ := hrel
        obtain ⟨a0, a1, a2, a3, a4⟩ := hS.out.cells
        by_cases hlt : k < l3
        · as_aux_lemma =>
          have hlt' : decide ((k : Int) < (l3 : Int)) = true := by simp; omega
          have p0 : (0 : Int) ≤ (k : Int) := by omega
          have p1 : (k : Int) < (l3 : Int) := by omega
          obtain ⟨x, hx⟩ : ∃ x, U.methods[k]? = some x := ⟨U.methods[k]'(by obtain ⟨h1, h2, h3, h4⟩ := gg.out; omega), by simp⟩
          obtain ⟨q1, q2, q3, q4⟩ := hS.out.caps
          obtain ⟨g, off, la, lc, ka, kc, rfl, d0, d1, d2, d3, pm⟩ := MtV.at hS.out.views.2.2.1 hx
          have T := hT.out
          rw [restM_next hx] at T
          have hS2 := Lib.hid (hS.out.up ((Below.refl _ _).alloc (Nat.le_refl _) (.cells #[.int .i64 x.args, .int .i64 x.temps, .slice la x.lits.length lc, .slice ka x.code.length kc] 50)))
          have pm2 := Lib.hid (pm.up ((Below.refl _ _).alloc (Nat.le_refl _) (.cells #[.int .i64 x.args, .int .i64 x.temps, .slice la x.lits.length lc, .slice ka x.code.length kc] 50)))
          clear hT pm hx
          obtain ⟨f0, f1, f2, f3, f4⟩ := hS2.out.cells
          obtain ⟨r, hr⟩ : ∃ r, metR x U.names.length U.classes.length U.methods.length = r := ⟨_, rfl⟩
          rw [hr] at T
          by_cases hz : ¬ r = 0
          · as_aux_lemma =>
            have e : Hid (unitR U = r) := Lib.hid (T.bad hz)
            have hz' : (r != 0) = true := by simpa using hz
            replace hr := Lib.hid hr
            clear T hz
            go_wp2_with fail
            refine (rmeth_c pm2.out hS2.out.unk).mono ?_
            rintro e1 w3 ⟨he1, hb3⟩
            rw [hr.out] at he1
            subst he1
            replace hS := Lib.hid (hS2.out.up hb3)
            clear hS2 hb3 pm2 hr f0 f1 f2 f3 f4
            go_wp2
            go_ret
            exact ⟨congrArg (fun b => Ending.returned (Value.int .i64 b)) e.out.symm, hS.out.bel⟩
          replace hz : r = 0 := Decidable.not_not.1 hz
          subst hz
          have hT' : Hid (StU U (restM U (k + 1))) := Lib.hid (T.ok rfl)
          replace hr := Lib.hid hr
          clear T
          go_wp2_with fail
          refine (rmeth_c pm2.out hS2.out.unk).mono ?_
          rintro e1 w3 ⟨he1, hb3⟩
          rw [hr.out] at he1
          subst he1
          replace hS := Lib.hid (hS2.out.up hb3)
          clear hS2 hb3 pm2 hr f0 f1 f2 f3 f4
          go_wp2
          go_roundw
          case rel => exact ⟨k + 1, by omega, by go_num, hT', hS⟩
          case measure => simp [intOf]; omega
        · as_aux_lemma =>
          have hlt' : decide ((k : Int) < (l3 : Int)) = false := by simp; omega
          have hT' := hT.out
          rw [restM_last (by obtain ⟨h1, h2, h3, h4⟩ := gg.out; omega)] at hT'
          clear hT
          have hT := Lib.hid hT'
          clear hT'
          go_wp2
          clear a0 a1 a2 a3 a4
          clear hlt hlt' hk
          go_loopw [94] (fun i wr => ∃ (k : Nat), k ≤ l2 ∧ i = .int .i64 k ∧ Hid (StU U (restA U k)) ∧ Hid (V1 w wr U na nc ca cc ma mc oa oc l1 l2 l3 l4)) (fun i _ => l2 - (intOf i).toNat)
          case atStart => exact ⟨0, by omega, rfl, hT, hS⟩
          case round =>
            clear hS hT
            obtain ⟨k, hk, rfl, hT, hS⟩ := hrel
            obtain ⟨a0, a1, a2, a3, a4⟩ := hS.out.cells
            by_cases hlt : k < l2
            · as_aux_lemma =>
              have hlt' : decide ((k : Int) < (l2 : Int)) = true := by simp; omega
              have p0 : (0 : Int) ≤ (k : Int) := by omega
              have p1 : (k : Int) < (l2 : Int) := by omega
              obtain ⟨x, hx⟩ : ∃ x, U.classes[k]? = some x := ⟨U.classes[k]'(by obtain ⟨h1, h2, h3, h4⟩ := gg.out; omega), by simp⟩
              obtain ⟨q1, q2, q3, q4⟩ := hS.out.caps
              obtain ⟨_, _, g, off, bv, rfl, d0, d1, d2, d3, pb⟩ := ClV.at hS.out.views.2.1 hx
              obtain ⟨ba, bc, rfl, qb1, qb2⟩ := pb.form
              obtain ⟨n, hn⟩ : ∃ n, n = x.binds.length := ⟨_, rfl⟩
              rw [← hn] at d3 pb qb1
              have T := hT.out
              rw [restA_next hx] at T
              have hS2 := Lib.hid (hS.out.up ((Below.refl _ _).alloc (Nat.le_refl _) (.cells #[.string x.nm, .int .i64 x.super, .int .i64 x.fields, .slice ba n bc] 45)))
              have pb2 := Lib.hid (pb.up ((Below.refl _ _).alloc (Nat.le_refl _) (.cells #[.string x.nm, .int .i64 x.super, .int .i64 x.fields, .slice ba n bc] 45)))
              have hxh := Lib.hid hx
              have hnh := Lib.hid hn
              have T2 := Lib.hid T
              have n9 : (n : Int) ≤ 9223372036854775807 := by have := Nat.le_trans qb1 qb2; unfold maxLen at this; omega
              clear hT pb hx hn T hS
              go_wp2
              generalize wr.alloc (.cells #[.string x.nm, .int .i64 x.super, .int .i64 x.fields, .slice ba n bc] 45) = W2 at *
              clear a0 a1 a2 a3 a4 d0 d1 d2 d3 qb1 qb2 q1 q2 q3 q4 p0 p1
              go_loopw [101] (fun i wi => ∃ (j : Nat), j ≤ n ∧ i = .int .i64 j ∧ Hid (StU U (restB U x.binds (k + 1) j)) ∧ Hid (V1 w wi U na nc (some ⟨g, off, none⟩) cc ma mc oa oc l1 l2 l3 l4) ∧ Hid (PrV wi (.slice ba n bc) x.binds)) (fun i _ => n - (intOf i).toNat)
              case atStart => exact ⟨0, by omega, rfl, T2, hS2, pb2⟩
              case round =>
                clear hS2 T2 pb2
                obtain ⟨j, hj, rfl, hT, hS, hP⟩ := hrel
                obtain ⟨a0, a1, a2, a3, a4⟩ := hS.out.cells
                by_cases hjt : j < n
                · as_aux_lemma =>
                  have hjt' : decide ((j : Int) < (n : Int)) = true := by simp; omega
                  have p0 : (0 : Int) ≤ (j : Int) := by omega
                  have p1 : (j : Int) < (n : Int) := by omega
                  obtain ⟨b, hb⟩ : ∃ b, x.binds[j]? = some b := ⟨x.binds[j]'(by have := hnh.out; omega), by simp⟩
                  obtain ⟨y1, y2, y3, y4⟩ := shape_binds hs.out hxh.out hb
                  obtain ⟨i1, i2, bg, bo, rfl, e0, e1⟩ := hP.out.at hb
                  have T := hT.out
                  rw [restB_next hb] at T
                  obtain ⟨z, m⟩ := b
                  obtain ⟨z, rfl⟩ : ∃ q : Nat, z = q := ⟨z.toNat, by omega⟩
                  obtain ⟨m, rfl⟩ : ∃ q : Nat, m = q := ⟨m.toNat, by omega⟩
                  simp only at y1 y2 y3 y4 e0 e1
                  obtain ⟨h1, h2, h3, h4⟩ := gg.out
                  rw [← h1] at y2
                  rw [← h3] at y4
                  obtain ⟨nm, hnm⟩ : ∃ q, U.names[z]? = some q := ⟨U.names[z]'(by omega), by simp⟩
                  obtain ⟨me, hme⟩ : ∃ q, U.methods[m]? = some q := ⟨U.methods[m]'(by omega), by simp⟩
                  obtain ⟨ng, noff, rfl, g0⟩ := NmV.at hS.out.views.1 hnm
                  obtain ⟨mg, moff, _, _, _, _, rfl, m0, _, _, _, _⟩ := MtV.at hS.out.views.2.2.1 hme
                  have eA : eArg U ((z : Int), (m : Int)) = if argsR nm = me.args then 0 else 15 := by
                    unfold eArg nmAt agAt
                    simp only [Int.toNat_natCast, List.getD_eq_getElem?_getD, hnm, hme, Option.getD_some]
                  rw [eA] at T
                  have bx := (Below.refl wr.heap.size wr).alloc (Nat.le_refl _) (.cells #[.int .i64 z, .int .i64 m] 53)
                  have hSb := hS.out.up bx
                  have hPb := hP.out.up bx
                  have w0 : (wr.alloc (.cells #[.int .i64 z, .int .i64 m] 53)).cell? ⟨wr.heap.size, 0, none⟩ = some (.int .i64 z) := World.cell?_alloc_new _ _ _ 0
                  have w1 : (wr.alloc (.cells #[.int .i64 z, .int .i64 m] 53)).cell? ⟨wr.heap.size, 1, none⟩ = some (.int .i64 m) := World.cell?_alloc_new _ _ _ 1
                  replace g0 := cell_up bx g0
                  replace m0 := cell_up bx m0
                  replace hT := Lib.hid T
                  have PA := Lib.hid (argsR_c nm)
                  clear eA T hnm hme hb y1 y3 i1 i2 h1 h2 h3 h4 bx hS hP
                  obtain ⟨c1, c2, c3, c4⟩ := hSb.caps
                  go_upto_region 28 with fail
                  clear a0 a1 a2 a3 a4 e0 e1
                  obtain ⟨a0, a1, a2, a3, a4⟩ := hSb.cells
                  replace hSb := Lib.hid hSb.drew
                  replace hPb := Lib.hid (hPb.up ((Below.refl _ _).drew))
                  generalize wr.alloc (.cells #[.int .i64 z, .int .i64 m] 53) = W3 at *
                  generalize argsR nm = ar at *
                  by_cases he : ¬ ar = me.args
                  · as_aux_lemma =>
                    have e : Hid (unitR U = 15) := Lib.hid (by have h := hT.out; rw [if_neg he] at h; exact h.bad (by decide))
                    have he' : (ar != me.args) = true := by simpa using he
                    clear hT he
                    refine wp_region_still_lit (by kernel_rfl) (by kernel_rfl) ?_
                    iterate 6 still_step
                    still_call (PA.out _)
                    iterate 8 still_step
                    refine wpStill_nil ?_
                    change Exit.then _ _ Exit.normal _ W3.drew
                    go_wp2
                    go_ret
                    exact ⟨congrArg (fun b => Ending.returned (Value.int .i64 b)) e.out.symm, hSb.out.bel⟩
                  · as_aux_lemma =>
                    replace he : ar = me.args := Decidable.not_not.1 he
                    have he' : (ar != me.args) = false := by simpa using he
                    have hT' := Lib.hid ((by have h := hT.out; rw [if_pos he] at h; exact h : StU U (0 :: restB U x.binds (k + 1) (j + 1))).ok rfl)
                    clear hT he
                    refine wp_region_still_lit (by kernel_rfl) (by kernel_rfl) ?_
                    iterate 6 still_step
                    still_call (PA.out _)
                    iterate 8 still_step
                    refine wpStill_nil ?_
                    change Exit.then _ _ Exit.normal _ W3.drew
                    clear a0 a1 a2 a3 a4 w0 w1 g0 m0
                    go_wp2
                    go_roundw
                    case rel => exact ⟨j + 1, by omega, by go_num, hT', hSb, hPb⟩
                    case measure => simp [intOf]; omega
                · as_aux_lemma =>
                  have hjt' : decide ((j : Int) < (n : Int)) = false := by simp; omega
                  have T := hT.out
                  rw [restB_last (by have := hnh.out; omega)] at T
                  have hT' := Lib.hid T
                  clear hT T hP
                  go_wp2
                  go_roundw
                  case rel => exact ⟨k + 1, by omega, by go_num, hT', hS⟩
                  case measure => simp [intOf]; omega
            · as_aux_lemma =>
              have hlt' : decide ((k : Int) < (l2 : Int)) = false := by simp; omega
              have hT' := hT.out
              rw [restA_last (by obtain ⟨h1, h2, h3, h4⟩ := gg.out; omega)] at hT'
              clear hT
              have hT := Lib.hid hT'
              clear hT'
              go_wp2
              clear a0 a1 a2 a3 a4
              clear hlt hlt' hk
              go_loopw [125] (fun i wr => ∃ (k : Nat), k ≤ l4 ∧ i = .int .i64 k ∧ Hid (StU U (restO U k)) ∧ Hid (V1 w wr U na nc ca cc ma mc oa oc l1 l2 l3 l4)) (fun i _ => l4 - (intOf i).toNat)
              case atStart => exact ⟨0, by omega, rfl, hT, hS⟩
              case round =>
                clear hS hT
                obtain ⟨k, hk, rfl, hT, hS⟩ := hrel
                obtain ⟨a0, a1, a2, a3, a4⟩ := hS.out.cells
                by_cases hlt : k < l4
                · as_aux_lemma =>
                  have hlt' : decide ((k : Int) < (l4 : Int)) = true := by simp; omega
                  have p0 : (0 : Int) ≤ (k : Int) := by omega
                  have p1 : (k : Int) < (l4 : Int) := by omega
                  obtain ⟨x, hx⟩ : ∃ x, U.objects[k]? = some x := ⟨U.objects[k]'(by obtain ⟨h1, h2, h3, h4⟩ := gg.out; omega), by simp⟩
                  obtain ⟨q1, q2, q3, q4⟩ := hS.out.caps
                  obtain ⟨_, g, off, fv, rfl, d0, d1, pf⟩ := ObV.at hS.out.views.2.2.2 hx
                  obtain ⟨fa, fc, rfl, _, _⟩ := pf.form
                  have T := hT.out
                  rw [restO_next hx] at T
                  have i64 : In64 x.cls := (ObV.at hS.out.views.2.2.2 hx).1
                  have bx := (Below.refl wr.heap.size wr).alloc (Nat.le_refl _) (.cells #[.int .i64 x.cls, .slice fa x.flds.length fc] 55)
                  have hS2 := Lib.hid (hS.out.up bx)
                  have ok2 : Hid (ObK (wr.alloc (.cells #[.int .i64 x.cls, .slice fa x.flds.length fc] 55)) (.agg #[.int .i64 x.cls, .slice fa x.flds.length fc]) x) := Lib.hid ⟨i64, fa, fc, rfl, pf.up bx⟩
                  clear hT pf hx bx
                  obtain ⟨f0, f1, f2, f3, f4⟩ := hS2.out.cells
                  obtain ⟨r, hr⟩ : ∃ r, objB x U.classes U.objects.length = r := ⟨_, rfl⟩
                  rw [hr] at T
                  replace hr := Lib.hid hr
                  cases r with
                  | false =>
                    as_aux_lemma =>
                    have e : Hid (unitR U = 16) := Lib.hid (T.bad (by decide))
                    clear T
                    go_wp2_with fail
                    refine (robject_c ok2.out hS2.out.unk).mono ?_
                    rintro e1 w3 ⟨he1, hb3⟩
                    rw [hr.out] at he1
                    subst he1
                    replace hS := Lib.hid (hS2.out.up hb3)
                    clear hS2 hb3 ok2 hr f0 f1 f2 f3 f4
                    go_wp2
                    go_ret
                    exact ⟨congrArg (fun b => Ending.returned (Value.int .i64 b)) e.out.symm, hS.out.bel⟩
                  | true =>
                    as_aux_lemma =>
                    have hT' : Hid (StU U (restO U (k + 1))) := Lib.hid (T.ok rfl)
                    clear T
                    go_wp2_with fail
                    refine (robject_c ok2.out hS2.out.unk).mono ?_
                    rintro e1 w3 ⟨he1, hb3⟩
                    rw [hr.out] at he1
                    subst he1
                    replace hS := Lib.hid (hS2.out.up hb3)
                    clear hS2 hb3 ok2 hr f0 f1 f2 f3 f4
                    go_wp2
                    go_roundw
                    case rel => exact ⟨k + 1, by omega, by go_num, hT', hS⟩
                    case measure => simp [intOf]; omega
                · as_aux_lemma =>
                  have hlt' : decide ((k : Int) < (l4 : Int)) = false := by simp; omega
                  have hT' := hT.out
                  rw [restO_last (by obtain ⟨h1, h2, h3, h4⟩ := gg.out; omega)] at hT'
                  clear hT
                  have hT := Lib.hid hT'
                  clear hT'
                  go_upto_region 38 with fail
                  clear hlt hlt' hk
                  have T := hT.out
                  by_cases m0 : U.main < 0
                  · as_aux_lemma =>
                    have t0 : decide (U.main < 0) = true := by simpa using m0
                    have e : Hid (unitR U = 15) := Lib.hid (by
                      have em : mainE U = 15 := if_neg (fun h => by omega)
                      rw [em] at T; exact T.bad (by decide))
                    clear T hT m0
                    go_wp2
                    go_ret
                    exact ⟨congrArg (fun b => Ending.returned (Value.int .i64 b)) e.out.symm, hS.out.bel⟩
                  have t0 : decide (U.main < 0) = false := by simp; omega
                  by_cases m1 : (l3 : Int) ≤ U.main
                  · as_aux_lemma =>
                    have t1 : decide (U.main ≥ (l3 : Int)) = true := by simpa using m1
                    have e : Hid (unitR U = 15) := Lib.hid (by
                      have em : mainE U = 15 := if_neg (fun h => by obtain ⟨h1, h2, h3, h4⟩ := gg.out; omega)
                      rw [em] at T; exact T.bad (by decide))
                    clear T hT m0 m1
                    go_wp2
                    go_ret
                    exact ⟨congrArg (fun b => Ending.returned (Value.int .i64 b)) e.out.symm, hS.out.bel⟩
                  have t1 : decide (U.main ≥ (l3 : Int)) = false := by simp; omega
                  obtain ⟨mn, hmn⟩ : ∃ q : Nat, U.main = q := ⟨U.main.toNat, by omega⟩
                  obtain ⟨x, hx⟩ : ∃ q, U.methods[mn]? = some q := ⟨U.methods[mn]'(by obtain ⟨h1, h2, h3, h4⟩ := gg.out; omega), by simp⟩
                  obtain ⟨g, off, _, _, _, _, rfl, d0, _, _, _, _⟩ := MtV.at hS.out.views.2.2.1 hx
                  obtain ⟨q1, q2, q3, q4⟩ := hS.out.caps
                  rw [hmn] at a4 t0 t1
                  have p0 : (0 : Int) ≤ (mn : Int) := by omega
                  have p1 : (mn : Int) < (l3 : Int) := by omega
                  have eA : agAt U.methods U.main = x.args := by unfold agAt; rw [hmn, Int.toNat_natCast, hx]
                  by_cases he : ¬ x.args = 0
                  · as_aux_lemma =>
                    have t2 : (x.args != 0) = true := by simpa using he
                    have e : Hid (unitR U = 15) := Lib.hid (by
                      have em : mainE U = 15 := if_neg (fun h => he (by rw [← eA]; exact h.2.2))
                      rw [em] at T; exact T.bad (by decide))
                    clear T hT m0 m1 eA he hx hmn
                    go_wp2
                    go_ret
                    exact ⟨congrArg (fun b => Ending.returned (Value.int .i64 b)) e.out.symm, hS.out.bel⟩
                  replace he : x.args = 0 := Decidable.not_not.1 he
                  have t2 : (x.args != 0) = false := by simpa using he
                  have e : Hid (unitR U = 0) := Lib.hid (by
                    have em : mainE U = 0 := if_pos ⟨by omega, by obtain ⟨h1, h2, h3, h4⟩ := gg.out; omega, by rw [eA]; exact he⟩
                    rw [em] at T
                    exact (T.ok rfl).eq)
                  clear T hT m0 m1 eA hx hmn
                  go_wp2
                  go_ret
                  exact ⟨congrArg (fun b => Ending.returned (Value.int .i64 b)) e.out.symm, hS.out.bel⟩
end Wd
end Go.Proofs.YtgfdgdbkifkehaaGreat
