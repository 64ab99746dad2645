/- Texts joined: ELaw, ESame. -/
import Derived.Test.YtdaojohdmidemaaGreatJ5
import Derived.OpenShut
/- What the laws ask of a memory, whoever keeps it. -/
namespace Go.Proofs.YtdaojohdmidemaaGreat
open Go.RowKit Go.Maps
set_option linter.unusedVariables false
namespace Wd
abbrev HAt := World → Nat → (Nat → Nat) → Hst → (Nat → Prop) → Prop
/-- what a call leaves: the memory H', in the blocks F' -/
abbrev Left (HA : HAt) (w w' : World) (p : Nat) (n : Nat → Nat) (H' : Hst) (F F' : Nat → Prop) : Prop := HA w' p n H' F' ∧ Ch F w w' ∧ Newer F F' w.heap.size
abbrev i64 (x : Int) : Prop := -9223372036854775808 ≤ x ∧ x ≤ 9223372036854775807
def cfgV (n : Nat → Nat) (p : Int) : Value := .agg #[.int .i64 (n 0 : Nat), .int .i64 (n 1 : Nat), .int .i64 (n 2 : Nat), .int .i64 (n 3 : Nat), .int .i64 (n 4 : Nat), .int .i64 p]
/-- what the laws ask of the package's memory: 'HA w p n H F': at block p a memory of n cells, it is H; it lies in the blocks F -/
structure HeapK (HA : HAt) : Prop where
  lt : ∀ {w p n H F}, HA w p n H F → ∀ k, F k → k < w.heap.size
  keep : ∀ {w w' p n H F}, HA w p n H F → w.heap.size ≤ w'.heap.size → (∀ k, F k → w'.heap[k]? = w.heap[k]?) → HA w' p n H F
  inv : ∀ {w p n H F}, HA w p n H F → HInv n H
  alloc : ∀ {w p n H F} (cl f : Int), HA w p n H F → i64 cl → i64 f → Calls Tryz.prog 11 #[.pointer (some ⟨p, 0, none⟩), .int .i64 cl, .int .i64 f] w fun e w' => ∃ F', e = .returned (.int .i64 (alcI H cl f)) ∧ Left HA w w' p n (alcH H cl f) F F'
  get : ∀ {w p n H F} (i j : Int), HA w p n H F → i64 i → i64 j → Calls Tryz.prog 16 #[.pointer (some ⟨p, 0, none⟩), .int .i64 i, .int .i64 j] w fun e w' => ∃ F', e = .returned (.tuple #[.int .u32 (getV H i j), .bool (getB H i j)]) ∧ Left HA w w' p n H F F'
  put : ∀ {w p n H F} (i j x : Int), HA w p n H F → i64 i → i64 j → 0 ≤ x → x ≤ 4294967295 → Calls Tryz.prog 14 #[.pointer (some ⟨p, 0, none⟩), .int .i64 i, .int .i64 j, .int .u32 x] w fun e w' => ∃ F', e = .returned (.bool (putB H i j x)) ∧ Left HA w w' p n (putH H i j x) F F'
  cls : ∀ {w p n H F} (i : Int), HA w p n H F → i64 i → Calls Tryz.prog 30 #[.pointer (some ⟨p, 0, none⟩), .int .i64 i] w fun e w' => ∃ F', e = .returned (.int .i64 (clsI H i)) ∧ Left HA w w' p n H F F'
  fld : ∀ {w p n H F} (i : Int), HA w p n H F → i64 i → Calls Tryz.prog 31 #[.pointer (some ⟨p, 0, none⟩), .int .i64 i] w fun e w' => ∃ F', e = .returned (.int .i64 (fldI H i)) ∧ Left HA w w' p n H F F'
  col : ∀ {w p n H F} (i : Int), HA w p n H F → i64 i → Calls Tryz.prog 36 #[.pointer (some ⟨p, 0, none⟩), .int .i64 i] w fun e w' => ∃ F', e = .returned (.int .i64 (colI H i)) ∧ Left HA w w' p n H F F'
  swap : ∀ {w p n H F} (i j : Int), HA w p n H F → i64 i → i64 j → Calls Tryz.prog 17 #[.pointer (some ⟨p, 0, none⟩), .int .i64 i, .int .i64 j] w fun e w' => ∃ F', e = .returned (.bool (swapB H.T i j)) ∧ Left HA w w' p n (swapH H i j) F F'
  hold : ∀ {w p n H F u l}, HA w p n H F → SW w u l → (∀ x ∈ l, 0 ≤ x ∧ x ≤ 4294967295) → l.length ≤ 1000 → (∀ g, u.ownBlock = some g → ¬ F g) → Calls Tryz.prog 19 #[.pointer (some ⟨p, 0, none⟩), u] w fun e w' => ∃ F', e = .returned (.tuple #[]) ∧ Left HA w w' p n (holdH H l) F F'
  scan : ∀ {w p n H F} (x : Int), HA w p n H F → i64 x → Calls Tryz.prog 21 #[.pointer (some ⟨p, 0, none⟩), .int .i64 x] w fun e w' => ∃ F', e = .returned (.int .i64 (scanR H x).1) ∧ Left HA w w' p n (scanR H x).2 F F'
  done : ∀ {w p n H F}, HA w p n H F → Calls Tryz.prog 34 #[.pointer (some ⟨p, 0, none⟩)] w fun e w' => ∃ F', e = .returned (.bool (doneB H)) ∧ Left HA w w' p n H F F'
  flip : ∀ {w p n H F}, HA w p n H F → Calls Tryz.prog 23 #[.pointer (some ⟨p, 0, none⟩)] w fun e w' => ∃ F', e = .returned (.int .i64 (flpI H)) ∧ Left HA w w' p n (flpH H) F F'
  ids : ∀ {w p n H F}, HA w p n H F → Calls Tryz.prog 33 #[.pointer (some ⟨p, 0, none⟩)] w fun e w' => ∃ u F', e = .returned u ∧ SL w' 3 u (idsT H.T) ∧ (∀ g, u.ownBlock = some g → w.heap.size ≤ g ∧ ¬ F' g) ∧ Left HA w w' p n H F F'
  cost : ∀ {w p n H F}, HA w p n H F → Calls Tryz.prog 35 #[.pointer (some ⟨p, 0, none⟩)] w fun e w' => ∃ a F', e = .returned (.pointer (some a)) ∧ Left HA w w' p n H F F'
  new : ∀ {w} (n : Nat → Nat) (p : Int), (∀ s, s < 5 → n s ≤ 512) → 1 ≤ n 0 + (n 1 + (n 2 + (n 3 + n 4))) → n 0 + (n 1 + (n 2 + (n 3 + n 4))) ≤ 1020 → 1 ≤ p → p ≤ 16 → Calls Tryz.prog 9 #[cfgV n p] w fun e w' => ∃ q F, e = .returned (.pointer (some ⟨q, 0, none⟩)) ∧ HA w' q n (newH n) F ∧ (∀ k, F k → w.heap.size ≤ k) ∧ Below w.heap.size w w'
  none' : ∀ {w} (p : Int), i64 p → Calls Tryz.prog 9 #[cfgV (fun _ => 0) p] w fun e w' => e = .returned (.pointer .none) ∧ Below w.heap.size w w'
/-- two memories, the package's and the document's own, of the call's own; the blocks E are held apart, as they were in wE -/
structure PP (HA : HAt) (w0 wr : World) (p b : Nat) (n : Nat → Nat) (H G : Hst) (F D : Nat → Prop) (wE : World) (E : Nat → Prop) : Prop where
  ha : HA wr p n H F
  ra : RA9 wr b n G D
  ap : ∀ k, F k → ¬ D k
  bel : Below w0.heap.size w0 wr
  fF : ∀ k, F k → w0.heap.size ≤ k
  fD : ∀ k, D k → w0.heap.size ≤ k
  ex : ∀ k, E k → k < wr.heap.size ∧ ¬ F k ∧ ¬ D k ∧ wr.heap[k]? = wE.heap[k]?
section
variable {HA : HAt} {w0 wr w1 : World} {p b : Nat} {n : Nat → Nat} {H H' G G' : Hst} {F F' D D' : Nat → Prop} {wE : World} {E : Nat → Prop}
theorem PP.keep (K : HeapK HA) (h : PP HA w0 wr p b n H G F D wE E) (g : Below wr.heap.size wr w1) : PP HA w0 w1 p b n H G F D wE E :=
  ⟨K.keep h.ha g.size (fun k hk => g.block k (K.lt h.ha k hk)), h.ra.keep g, h.ap, h.bel.trans (g.mono h.bel.size), h.fF, h.fD, fun k hk => by
    obtain ⟨h1, h2, h3, h4⟩ := h.ex k hk
    exact ⟨Nat.lt_of_lt_of_le h1 g.size, h2, h3, (g.block k h1).trans h4⟩⟩
theorem PP.stepP (K : HeapK HA) (h : PP HA w0 wr p b n H G F D wE E) (l : Left HA wr w1 p n H' F F') : PP HA w0 w1 p b n H' G F' D wE E := by
  obtain ⟨l1, l2, l3⟩ := l
  have hD := h.ra.lt
  refine ⟨l1, h.ra.same l2.size (fun k hk => l2.block k (hD k hk) (fun hF => h.ap k hF hk)), fun k hF hDk => ?_, below_ch h.bel l2 h.fF, fun k hk => ?_, h.fD, fun k hk => ?_⟩
  · rcases l3 k hF with h1 | h1
    · exact h.ap k h1 hDk
    · have := hD k hDk; omega
  · rcases l3 k hk with h1 | h1
    · exact h.fF k h1
    · exact Nat.le_trans h.bel.size h1
  · obtain ⟨h1, h2, h3, h4⟩ := h.ex k hk
    refine ⟨Nat.lt_of_lt_of_le h1 l2.size, fun hF => ?_, h3, (l2.block k h1 h2).trans h4⟩
    rcases l3 k hF with h5 | h5
    · exact h2 h5
    · omega
theorem PP.stepR (K : HeapK HA) (h : PP HA w0 wr p b n H G F D wE E) (l1 : RA9 w1 b n G' D') (l2 : Ch D wr w1) (l3 : Newer D D' wr.heap.size) : PP HA w0 w1 p b n H G' F D' wE E := by
  have hF := K.lt h.ha
  refine ⟨K.keep h.ha l2.size (fun k hk => l2.block k (hF k hk) (fun hD => h.ap k hk hD)), l1, fun k hFk hD => ?_, below_ch h.bel l2 h.fD, h.fF, fun k hk => ?_, fun k hk => ?_⟩
  · rcases l3 k hD with h1 | h1
    · exact h.ap k hFk h1
    · have := hF k hFk; omega
  · rcases l3 k hk with h1 | h1
    · exact h.fD k h1
    · exact Nat.le_trans h.bel.size h1
  · obtain ⟨h1, h2, h3, h4⟩ := h.ex k hk
    refine ⟨Nat.lt_of_lt_of_le h1 l2.size, h2, fun hD => ?_, (l2.block k h1 h3).trans h4⟩
    rcases l3 k hD with h5 | h5
    · exact h3 h5
    · omega
/-- the blocks E are others from now on -/
theorem PP.apart (h : PP HA w0 wr p b n H G F D wE E) {E' : Nat → Prop} (hE : ∀ k, E' k → k < wr.heap.size ∧ ¬ F k ∧ ¬ D k) : PP HA w0 wr p b n H G F D wr E' :=
  ⟨h.ha, h.ra, h.ap, h.bel, h.fF, h.fD, fun k hk => ⟨(hE k hk).1, (hE k hk).2.1, (hE k hk).2.2, rfl⟩⟩
theorem PP.also (h : PP HA w0 wr p b n H G F D wE E) {E' : Nat → Prop} (hE : ∀ k, E' k → E k) : PP HA w0 wr p b n H G F D wE E' :=
  ⟨h.ha, h.ra, h.ap, h.bel, h.fF, h.fD, fun k hk => h.ex k (hE k hk)⟩
end
theorem drewN_bel (w : World) (q : Nat) : Below w.heap.size w (w.drewN q) := ⟨rfl, rfl, rfl, Nat.le_refl _, fun _ _ => rfl⟩
section
variable {w : World} {b : Nat} {n : Nat → Nat} {H : Hst} {F : Nat → Prop}
theorem rids9 (h : RA9 w b n H F) :
    Calls Tryz.prog 74 #[.pointer (some ⟨b, 0, none⟩)] w fun e w' => ∃ u, e = .returned u ∧ SL w' 3 u (idsT H.T) ∧ Below w.heap.size w w' ∧ (∀ g, u.ownBlock = some g → w.heap.size ≤ g) := by
  obtain ⟨ms, FM, mb, c, M, R, rfl, h⟩ := h
  exact rids_c h.tbl
theorem rget9 (h : RA9 w b n H F) (i j : Int) : Calls Tryz.prog 77 #[.pointer (some ⟨b, 0, none⟩), .int .i64 i, .int .i64 j] w fun e w' => e = .returned (.tuple #[.int .u32 (getV H i j), .bool (getB H i j)]) ∧ Below w.heap.size w w' := by
  obtain ⟨ms, FM, mb, c, M, R, rfl, h⟩ := h
  exact rget_c h i j
theorem rclass9 (h : RA9 w b n H F) (i : Int) : Calls Tryz.prog 75 #[.pointer (some ⟨b, 0, none⟩), .int .i64 i] w fun e w' => e = .returned (.int .i64 (clsI H i)) ∧ Below w.heap.size w w' := by
  obtain ⟨ms, FM, mb, c, M, R, rfl, h⟩ := h
  exact rclass_c h i
theorem rfields9 (h : RA9 w b n H F) (i : Int) : Calls Tryz.prog 76 #[.pointer (some ⟨b, 0, none⟩), .int .i64 i] w fun e w' => e = .returned (.int .i64 (fldI H i)) ∧ Below w.heap.size w w' := by
  obtain ⟨ms, FM, mb, c, M, R, rfl, h⟩ := h
  exact rfields_c h i
theorem rcolor9 (h : RA9 w b n H F) (i : Int) : Calls Tryz.prog 59 #[.pointer (some ⟨b, 0, none⟩), .int .i64 i] w fun e w' => e = .returned (.int .i64 (colI H i)) ∧ Below w.heap.size w w' := by
  obtain ⟨ms, FM, mb, c, M, R, rfl, h⟩ := h
  exact rcolorh_c h i
theorem RA9.ptr (h : RA9 w b n H F) : b < w.heap.size := by
  obtain ⟨ms, FM, mb, c, M, R, rfl, h⟩ := h
  exact h.tbl.lt
end
/-- one that is there, mostly -/
def idL (L : List Int) (x : Int) : Int := if L.length = 0 ∨ x.tmod 7 = 0 then x.tmod 50 else (L[(within x 0 ((L.length : Int) - 1)).toNat]?).getD 0
def idH (H : Hst) (x : Int) : Int := idL (idsT H.T) x
def valH (H : Hst) (x : Int) : Int := if x.tmod 3 = 0 then intW (x.tmod 1000) else if x.tmod 3 = 1 then 2 else oopW (idH H x)
theorem valH_bd (H : Hst) (x : Int) : 0 ≤ valH H x ∧ valH H x ≤ 4294967295 := by
  unfold valH
  split
  · exact intW_bd _
  · split
    · omega
    · exact oopW_bd _
theorem idsT_len9 (T : Tst) : (idsT T).length ≤ 1024 := idsK_len T 1024
theorem idH_bd (H : Hst) (x : Int) : i64 (idH H x) := by
  unfold idH idL i64
  split
  · have h1 := Int.tmod_lt_of_pos x (show (0 : Int) < 50 by omega)
    have h2 : -50 < x.tmod 50 := by have := Int.tmod_lt_of_pos (-x) (show (0 : Int) < 50 by omega); rw [Int.neg_tmod] at this; omega
    omega
  · cases hx : (idsT H.T)[(within x 0 (((idsT H.T).length : Int) - 1)).toNat]? with
    | none => simp
    | some y =>
      obtain ⟨k, rfl, hk, _⟩ := idsT_mem (List.mem_of_getElem? hx)
      simp only [Option.getD_some]
      omega
theorem ret_i {a b : Int} (h : a = b) : Ending.returned (Value.int .i64 a) = .returned (.int .i64 b) := by rw [h]
set_option maxHeartbeats 4000000 in
set_option maxRecDepth 20000 in
theorem id_c {w : World} {b : Nat} {n : Nat → Nat} {H : Hst} {F : Nat → Prop} (h : RA9 w b n H F) (x : Int) (x0 : -9223372036854775808 ≤ x) (x1 : x ≤ 9223372036854775807) :
    Calls Tryz.prog 28 #[.pointer (some ⟨b, 0, none⟩), .int .i64 x] w fun e w' => e = .returned (.int .i64 (idH H x)) ∧ Below w.heap.size w w' := by
  have hl := idsT_len9 H.T
  have P := Lib.hid (rids9 h)
  have hbs := h.ptr
  unfold idH
  generalize idsT H.T = L at *
  clear h
  go_enter Tryz.func28, Tryz.ntmps28
  go_wp2_with fail
  refine P.out.mono ?_
  clear P
  rintro e w1 ⟨u, he, hu, hb, _⟩
  subst he
  replace hb := Lib.hid hb
  rcases hu.cases with ⟨rfl, rfl⟩ | ⟨g, cap, rfl, g1, g2, g3, g4⟩
  · have e : idL [] x = x.tmod 50 := by unfold idL; simp
    replace e := Lib.hid e
    clear hu
    go_wp2
    go_ret
    exact ⟨ret_i e.out.symm, hb.out⟩
  · replace g4 := Lib.hid g4
    clear hu g1 g2
    by_cases hz : L.length = 0
    · have e : idL L x = x.tmod 50 := by unfold idL; rw [if_pos (Or.inl hz)]
      have dz : ((L.length : Int) == 0) = true := by simp [hz]
      replace e := Lib.hid e
      go_wp2
      go_ret
      exact ⟨ret_i e.out.symm, hb.out⟩
    · have dz : ((L.length : Int) == 0) = false := by simpa using hz
      by_cases h7 : x.tmod 7 = 0
      · have e : idL L x = x.tmod 50 := by unfold idL; rw [if_pos (Or.inr h7)]
        replace e := Lib.hid e
        go_wp2
        go_ret
        exact ⟨ret_i e.out.symm, hb.out⟩
      · have h7' : (x.tmod 7 == 0) = false := by simpa using h7
        have e : idL L x = (L[(within x 0 ((L.length : Int) - 1)).toNat]?).getD 0 := by unfold idL; rw [if_neg (by rintro (h | h); exact hz h; exact h7 h)]
        obtain ⟨k, hk⟩ : ∃ k : Nat, within x 0 ((L.length : Int) - 1) = k := ⟨(within x 0 ((L.length : Int) - 1)).toNat, by have := within_bd x 0 ((L.length : Int) - 1) (by omega); omega⟩
        have hkl : k < L.length := by have := within_bd x 0 ((L.length : Int) - 1) (by omega); omega
        have hx : L[k]? = some L[k] := by simp [hkl]
        have hc := row_cell g4.out hx
        rw [hk, show ((k : Int)).toNat = k by simp, hx, Option.getD_some] at e
        replace e := Lib.hid e
        have hw : IntKind.i64.wrap ((L.length : Int) - 1) = (L.length : Int) - 1 := by rw [IntKind.wrap_i64]; omega
        have PW := Lib.hid (within_c x 0 ((L.length : Int) - 1) x0 x1 (by omega) (by omega) (by omega))
        rw [hk] at PW
        generalize L[k] = y at *
        clear hk hx hz h7
        go_wp2_with (first | (go_at_call 8; ((with_reducible refine (PW.out _).mono ?_); rintro e w2 ⟨rfl, hw2⟩; subst w2)))
        go_ret
        exact ⟨ret_i e.out.symm, hb.out⟩
set_option maxHeartbeats 4000000 in
set_option maxRecDepth 20000 in
theorem value_c {w : World} {b : Nat} {n : Nat → Nat} {H : Hst} {F : Nat → Prop} (h : RA9 w b n H F) (x : Int) (x0 : -9223372036854775808 ≤ x) (x1 : x ≤ 9223372036854775807) :
    Calls Tryz.prog 29 #[.pointer (some ⟨b, 0, none⟩), .int .i64 x] w fun e w' => e = .returned (.int .u32 (valH H x)) ∧ Below w.heap.size w w' := by
  have P := Lib.hid (id_c h x x0 x1)
  unfold valH
  by_cases h0 : x.tmod 3 = 0
  · rw [if_pos h0]
    have d0 : (x.tmod 3 == 0) = true := by simp [h0]
    clear P
    go_enter Tryz.func29, Tryz.ntmps29
    go_wp2_with (first | (go_at_call 78; ((with_reducible refine (rint_c _ _).mono ?_); rintro e w2 ⟨rfl, hw2⟩; subst w2)))
    go_ret
    exact ⟨rfl, Below.refl _ _⟩
  · rw [if_neg h0]
    have d0 : (x.tmod 3 == 0) = false := by simpa using h0
    by_cases h1 : x.tmod 3 = 1
    · rw [if_pos h1]
      have d1 : (x.tmod 3 == 1) = true := by simp [h1]
      clear P h0
      go_enter Tryz.func29, Tryz.ntmps29
      go_wp2
      go_ret
      exact ⟨rfl, Below.refl _ _⟩
    · rw [if_neg h1]
      have d1 : (x.tmod 3 == 1) = false := by simpa using h1
      clear h0 h1
      go_enter Tryz.func29, Tryz.ntmps29
      go_wp2_with (first | (go_at_call 28; ((with_reducible refine (P.out).mono ?_); rintro e w2 ⟨he, hb⟩; subst he; replace hb := Lib.hid hb)) | (go_at_call 61; ((with_reducible refine (roop_c _ _).mono ?_); rintro e w3 ⟨rfl, hw3⟩; subst w3)))
      go_ret
      exact ⟨rfl, hb.out⟩
end Wd
end Go.Proofs.YtdaojohdmidemaaGreat

/- What the laws ask of a memory, whoever keeps it: same. -/
namespace Go.Proofs.YtdaojohdmidemaaGreat
open Go.RowKit Go.Maps
set_option linter.unusedVariables false
namespace Wd
section
variable {HA : HAt} {w0 wr w1 : World} {p b : Nat} {n : Nat → Nat} {H H' G G' : Hst} {F F' D D' : Nat → Prop} {wE wB : World} {E E2 : Nat → Prop}
theorem PP.base (h : PP HA w0 wr p b n H G F D wB E2) (hE : ∀ k, E k → E2 k ∧ wB.heap[k]? = wE.heap[k]?) : PP HA w0 wr p b n H G F D wE E :=
  ⟨h.ha, h.ra, h.ap, h.bel, h.fF, h.fD, fun k hk => by
    obtain ⟨h1, h2, h3, h4⟩ := h.ex k (hE k hk).1
    exact ⟨h1, h2, h3, h4.trans (hE k hk).2⟩⟩
theorem fldI_bd {n : Nat → Nat} {H : Hst} (h : HInv n H) (i : Int) : -1 ≤ fldI H i ∧ fldI H i ≤ 62 := by
  have h6 := h.len62 i
  unfold fsI at h6
  unfold fldI
  split
  · rename_i hh
    rw [if_pos hh] at h6
    omega
  · omega
theorem clsI_no {H : Hst} {i : Int} (h : hasT H.T i = false) : clsI H i = -1 := by unfold clsI; rw [h]; rfl
theorem fldI_no {H : Hst} {i : Int} (h : hasT H.T i = false) : fldI H i = -1 := by unfold fldI; rw [h]; rfl
theorem colI_no {H : Hst} {i : Int} (h : hasT H.T i = false) : colI H i = -1 := by unfold colI; rw [h]; rfl
theorem has3 {n : Nat → Nat} {H : Hst} (h : HInv n H) : hasT H.T 3 = false := by
  cases hh : hasT H.T 3 with
  | false => rfl
  | true =>
    obtain ⟨k, p, e, h4, _⟩ := h.has hh
    omega
set_option maxHeartbeats 16000000 in
set_option maxRecDepth 20000 in
theorem same_c {HA : HAt} (K : HeapK HA) {w : World} (h : PP HA w0 w p b n H H F D wE E) :
    Calls Tryz.prog 26 #[.pointer (some ⟨p, 0, none⟩), .pointer (some ⟨b, 0, none⟩)] w fun e w' => ∃ F', e = .returned (.bool true) ∧ PP HA w0 w' p b n H H F' D wE E := by
  have hinv := Lib.hid h.ra.inv
  have hln := idsT_len9 H.T
  have hb0 := h.ra.ptr
  have P0 := Lib.hid (rids9 h.ra)
  replace h := Lib.hid h
  go_enter Tryz.func26, Tryz.ntmps26
  go_wp2_with fail
  refine P0.out.mono ?_
  clear P0
  rintro e w1 ⟨u, rfl, hu, hb, hfu⟩
  have hlt := K.lt h.out.ha
  have hlD := h.out.ra.lt
  have hE2 : ∀ k, (E k ∨ u.ownBlock = some k) → k < w1.heap.size ∧ ¬ F k ∧ ¬ D k := by
    rintro k (hk | hk)
    · obtain ⟨h1, h2, h3, h4⟩ := h.out.ex k hk
      exact ⟨Nat.lt_of_lt_of_le h1 hb.size, h2, h3⟩
    · have h1 := hfu k hk
      exact ⟨(hu.lt k hk).2, fun hF => by have := hlt k hF; omega, fun hD => by have := hlD k hD; omega⟩
  have hs : Hid (PP HA w0 w1 p b n H H F D w1 (fun k => E k ∨ u.ownBlock = some k)) := Lib.hid ((h.out.keep K hb).apart hE2)
  have hbk : Hid (∀ k, E k → (E k ∨ u.ownBlock = some k) ∧ w1.heap[k]? = wE.heap[k]?) := Lib.hid (fun k hk => ⟨Or.inl hk, ((h.out.keep K hb).ex k hk).2.2.2⟩)
  have hrow : Hid (∀ wX F' D', PP HA w0 wX p b n H H F' D' w1 (fun k => E k ∨ u.ownBlock = some k) → SL wX 3 u (idsT H.T)) := Lib.hid (fun wX F' D' hX => by
    obtain ⟨h1, h2⟩ := hu
    refine ⟨h1, ?_⟩
    rcases h2 with hh | ⟨g, cap, cur, e1, e2, e3, e4⟩
    · exact Or.inl hh
    · exact Or.inr ⟨g, cap, cur, e1, e2, ((hX.ex g (Or.inr (by rw [e1]; rfl))).2.2.2).trans e3, e4⟩)
  obtain ⟨ua, uc, rfl⟩ := hu.form
  clear hb hfu hlt hlD hE2 h hu
  go_wp2_with fail
  refine (K.ids hs.out.ha).mono ?_
  rintro e w2 ⟨v, F2, rfl, hv, hfv, hL⟩
  have hs2 := Lib.hid (hs.out.stepP K hL)
  have S1 := Lib.hid (same_ints (idsT H.T) (idsT H.T) v _ w2 hv (hrow.out _ _ _ hs2.out) (by omega) (by omega))
  clear hv hfv hL hs
  go_wp2_with fail
  refine S1.out.mono ?_
  rintro e w3 ⟨he, q, hw3⟩
  replace he : e = .returned (.bool true) := by rw [he]; simp
  subst he hw3
  have hs3 := Lib.hid (hs2.out.keep K (drewN_bel w2 q))
  clear hs2 S1
  go_wp2_with fail
  refine (K.done hs3.out.ha).mono ?_
  rintro e w4 ⟨F4, rfl, hL⟩
  have hs4 := Lib.hid (hs3.out.stepP K hL)
  clear hs3 hL
  have PD := Lib.hid (rdone_c hs4.out.ra)
  generalize doneB H = dB at *
  have db : (dB != dB) = false := by simp
  have db2 : (dB == dB) = true := by simp
  go_wp2_with fail
  refine PD.out.mono ?_
  rintro e w5 ⟨rfl, hw5⟩
  subst w5
  clear PD
  --TAIL
  go_wp2
  go_loopw [31] (fun i wr => ∃ k : Nat, k ≤ (idsT H.T).length ∧ i = .int .i64 k ∧ ∃ F', Hid (PP HA w0 wr p b n H H F' D w1 (fun k => E k ∨ (Value.slice ua (idsT H.T).length uc).ownBlock = some k))) (fun i _ => (idsT H.T).length - (intOf i).toNat)
  case atStart => exact ⟨0, by omega, rfl, _, hs4⟩
  case round =>
    obtain ⟨k, hk, rfl, F5, hs⟩ := hrel
    clear hs4
    by_cases hlt : k < (idsT H.T).length
    · have hlt' : decide ((k : Int) < ((idsT H.T).length : Int)) = true := by simp; omega
      have hw : IntKind.i64.wrap ((k : Int) + 1) = (k : Int) + 1 := by rw [IntKind.wrap_i64]; omega
      have hx : (idsT H.T)[k]? = some (idsT H.T)[k] := by simp [hlt]
      have hyL := idsT_mem (List.mem_of_getElem? hx)
      generalize (idsT H.T)[k] = y at *
      have hy : i64 y := by
        obtain ⟨kk, rfl, hkk, _⟩ := hyL
        unfold i64; omega
      have hr := hrow.out _ _ _ hs.out
      rcases hr.cases with ⟨hn, e0⟩ | ⟨g, cap, hg, _, _, hgs, hro⟩
      · rw [e0] at hlt; simp at hlt
      have hc := row_cell hro hx
      have eg : ua = some ⟨g, 0, none⟩ := by injection hg
      have hfb := fldI_bd hinv.out y
      have vb : (clsI H y != clsI H y) = false := by simp
      have vf : (fldI H y != fldI H y) = false := by simp
      have vc : (colI H y != colI H y) = false := by simp
      obtain ⟨c1, hc1⟩ : ∃ c1, c1 = clsI H y := ⟨_, rfl⟩
      obtain ⟨f1, hf1⟩ : ∃ f1, f1 = fldI H y := ⟨_, rfl⟩
      obtain ⟨k1, hk1⟩ : ∃ k1, k1 = colI H y := ⟨_, rfl⟩
      have KC := Lib.hid (fun (wX : World) (FX : Nat → Prop) (hX : HA wX p n H FX) => K.cls y hX hy)
      have KF := Lib.hid (fun (wX : World) (FX : Nat → Prop) (hX : HA wX p n H FX) => K.fld y hX hy)
      have KO := Lib.hid (fun (wX : World) (FX : Nat → Prop) (hX : HA wX p n H FX) => K.col y hX hy)
      have RC := Lib.hid (fun (wX : World) (hX : RA9 wX b n H D) => rclass9 hX y)
      have RF := Lib.hid (fun (wX : World) (hX : RA9 wX b n H D) => rfields9 hX y)
      have RO := Lib.hid (fun (wX : World) (hX : RA9 wX b n H D) => rcolor9 hX y)
      rw [← hc1] at KC RC vb
      rw [← hf1] at KF RF vf hfb
      rw [← hk1] at KO RO vc
      subst eg
      clear hc1 hf1 hk1 hr hro hx hyL
      go_wp2_with fail
      refine (KC.out _ _ hs.out.ha).mono ?_
      rintro e y11 ⟨G11, rfl, hL⟩
      replace hs := Lib.hid (hs.out.stepP K hL)
      clear hL
      go_wp2_with fail
      refine (RC.out _ hs.out.ra).mono ?_
      rintro e y12 ⟨rfl, hb⟩
      replace hs := Lib.hid (hs.out.keep K hb)
      clear hb
      go_wp2_with fail
      refine (KF.out _ _ hs.out.ha).mono ?_
      rintro e y13 ⟨G13, rfl, hL⟩
      replace hs := Lib.hid (hs.out.stepP K hL)
      clear hL
      go_wp2_with fail
      refine (RF.out _ hs.out.ra).mono ?_
      rintro e y14 ⟨rfl, hb⟩
      replace hs := Lib.hid (hs.out.keep K hb)
      clear hb
      go_wp2_with fail
      refine (KO.out _ _ hs.out.ha).mono ?_
      rintro e y15 ⟨G15, rfl, hL⟩
      replace hs := Lib.hid (hs.out.stepP K hL)
      clear hL
      go_wp2_with fail
      refine (RO.out _ hs.out.ra).mono ?_
      rintro e y16 ⟨rfl, hb⟩
      replace hs := Lib.hid (hs.out.keep K hb)
      clear hb
      clear hc
      go_wp2_with fail
      go_loopw [8] (fun i wr => ∃ j : Int, -1 ≤ j ∧ j ≤ 63 ∧ i = .int .i64 j ∧ ∃ F', Hid (PP HA w0 wr p b n H H F' D w1 (fun k => E k ∨ (Value.slice (some ⟨g, 0, none⟩) (idsT H.T).length uc).ownBlock = some k))) (fun i _ => (64 - intOf i).toNat)
      case atStart => exact ⟨-1, by omega, by omega, rfl, _, hs⟩
      case round =>
        obtain ⟨j, j0, j1, rfl, F6, hq⟩ := hrel
        clear hs
        go_wp2_with fail
        refine (RF.out _ hq.out.ra).mono ?_
        rintro e y17 ⟨rfl, hb⟩
        replace hq := Lib.hid (hq.out.keep K hb)
        clear hb
        by_cases hjf : j ≤ f1
        · have hjd : decide (j ≤ f1) = true := by simpa using hjf
          have hwj : IntKind.i64.wrap (j + 1) = j + 1 := by rw [IntKind.wrap_i64]; omega
          have hj64 : i64 j := by unfold i64; omega
          have KG := Lib.hid (fun (wX : World) (FX : Nat → Prop) (hX : HA wX p n H FX) => K.get y j hX hy hj64)
          have RG := Lib.hid (fun (wX : World) (hX : RA9 wX b n H D) => rget9 hX y j)
          generalize getV H y j = gv at *
          generalize getB H y j = gb at *
          have g1 : (gv != gv) = false := by simp
          have g2 : (gb != gb) = false := by simp
          have g3 : (gb == gb) = true := by simp
          go_wp2_with fail
          refine (KG.out _ _ hq.out.ha).mono ?_
          rintro e y18 ⟨G18, rfl, hL⟩
          replace hq := Lib.hid (hq.out.stepP K hL)
          clear hL
          go_wp2_with fail
          refine (RG.out _ hq.out.ra).mono ?_
          rintro e y19 ⟨rfl, hb⟩
          replace hq := Lib.hid (hq.out.keep K hb)
          clear hb
          go_wp2
          go_roundw
          case rel => exact ⟨j + 1, by omega, by omega, by go_num, _, hq⟩
          case measure => simp [intOf]; omega
        · have hjd : decide (j ≤ f1) = false := by simpa using hjf
          go_wp2
          go_roundw
          case rel => exact ⟨k + 1, by omega, by go_num, _, hq⟩
          case measure => simp [intOf]; omega
    · have e : k = (idsT H.T).length := by omega
      subst e
      have hlt' : decide (((idsT H.T).length : Int) < ((idsT H.T).length : Int)) = false := by simp
      have h1 : hasT H.T (-1) = false := hasT_out (by omega)
      have h3 := has3 hinv.out
      have h4 : hasT H.T 4611686018427387904 = false := hasT_out (by omega)
      have KC := Lib.hid (fun (wX : World) (FX : Nat → Prop) (hX : HA wX p n H FX) => K.cls (-1) hX (by unfold i64; omega))
      have KF := Lib.hid (fun (wX : World) (FX : Nat → Prop) (hX : HA wX p n H FX) => K.fld 3 hX (by unfold i64; omega))
      have KO := Lib.hid (fun (wX : World) (FX : Nat → Prop) (hX : HA wX p n H FX) => K.col 4611686018427387904 hX (by unfold i64; omega))
      rw [clsI_no h1] at KC
      rw [fldI_no h3] at KF
      rw [colI_no h4] at KO
      clear h1 h3 h4
      go_wp2_with fail
      refine (KC.out _ _ hs.out.ha).mono ?_
      rintro e y20 ⟨G20, rfl, hL⟩
      replace hs := Lib.hid (hs.out.stepP K hL)
      clear hL
      go_wp2_with fail
      refine (KF.out _ _ hs.out.ha).mono ?_
      rintro e y21 ⟨G21, rfl, hL⟩
      replace hs := Lib.hid (hs.out.stepP K hL)
      clear hL
      go_wp2_with fail
      refine (KO.out _ _ hs.out.ha).mono ?_
      rintro e y22 ⟨G22, rfl, hL⟩
      replace hs := Lib.hid (hs.out.stepP K hL)
      clear hL
      go_wp2
      go_ret
      first
        | exact ⟨_, rfl, hs.out.base hbk.out⟩
        | exact ⟨rfl, _, hs.out.base hbk.out⟩
end
end Wd
end Go.Proofs.YtdaojohdmidemaaGreat
