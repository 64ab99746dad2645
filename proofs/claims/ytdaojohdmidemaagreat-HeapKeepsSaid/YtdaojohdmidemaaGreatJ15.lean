/- Texts joined: VKK, EK1, EK2, EK3, EKp0, EKp1. -/
import Derived.Test.YtdaojohdmidemaaGreatJ4
import Derived.Test.YtdaojohdmidemaaGreatJ5
import Derived.Test.YtdaojohdmidemaaGreatJ6
import Derived.Test.YtdaojohdmidemaaGreatJ8
import Derived.Test.YtdaojohdmidemaaGreatJ12
import Derived.Test.YtdaojohdmidemaaGreatJ14
import Derived.Laws.OwnMore
/- The landed memory does what the laws ask of it. -/
namespace Go.Proofs.YtdaojohdmidemaaGreat
open Go.RowKit Go.Maps
set_option linter.unusedVariables false
set_option maxRecDepth 20000
namespace Wd
theorem tn_left {w w' : World} {p : Nat} {n : Nat → Nat} {H' : Hst} {B : Nat → Nat → Prop} {mp gw : Nat → Nat} {tb mt : Nat} {X : Nat → Nat → Int} (t : Tn w w' p n H' B mp gw tb mt X) : ∃ F', Left HA w w' p n H' (un B) F' := by
  obtain ⟨B', h1, h2, h3⟩ := t
  exact ⟨un B', ⟨B', mp, gw, tb, mt, X, rfl, h1⟩, h2, h3⟩
theorem below_left {w w' : World} {p : Nat} {n : Nat → Nat} {H : Hst} {F : Nat → Prop} (h : HA w p n H F) (b : Below w.heap.size w w') : Left HA w w' p n H F F :=
  ⟨h.keep b, below_un b, newer_refl9 _ _⟩
theorem KK : HeapK HA := by
  constructor
  case lt => exact fun h => h.lt
  case keep => exact fun h hs hk => h.same hs hk
  case inv => exact fun h => h.inv
  case alloc =>
    rintro w p n H F cl f ⟨B, mp, gw, tb, mt, X, rfl, h⟩ hcl hf
    cases hb : alcB H cl f with
    | false =>
      obtain ⟨e1, e2⟩ := alc_no hb
      rw [e1, e2]
      refine (valloc_no h cl f hcl.1 hcl.2 hf.1 hf.2 hb).mono ?_
      rintro e w' ⟨rfl, t⟩
      obtain ⟨F', l⟩ := tn_left t
      exact ⟨F', rfl, l⟩
    | true =>
      refine (valloc_yes h cl f hb).mono ?_
      rintro e w' ⟨rfl, X', t⟩
      obtain ⟨F', l⟩ := tn_left t
      exact ⟨F', rfl, l⟩
  case get =>
    rintro w p n H F i j ⟨B, mp, gw, tb, mt, X, rfl, h⟩ hi hj
    refine (vget_c h i j hi.1 hi.2 hj.1 hj.2).mono ?_
    rintro e w' ⟨rfl, h1, h2⟩
    exact ⟨_, rfl, ⟨B, mp, gw, tb, mt, X, rfl, h1⟩, h2, newer_refl9 _ _⟩
  case put =>
    rintro w p n H F i j x ⟨B, mp, gw, tb, mt, X, rfl, h⟩ hi hj x0 x1
    refine (vput_c h i j x hi.1 hi.2 hj.1 hj.2 x0 x1).mono ?_
    rintro e w' ⟨rfl, X', t⟩
    obtain ⟨F', l⟩ := tn_left t
    exact ⟨F', rfl, l⟩
  case cls =>
    rintro w p n H F i ⟨B, mp, gw, tb, mt, X, rfl, h⟩ hi
    refine (vclass_c h i hi.1 hi.2).mono ?_
    rintro e w' ⟨rfl, h1, h2⟩
    exact ⟨_, rfl, ⟨B, mp, gw, tb, mt, X, rfl, h1⟩, h2, newer_refl9 _ _⟩
  case fld =>
    rintro w p n H F i ⟨B, mp, gw, tb, mt, X, rfl, h⟩ hi
    refine (vfields_c h i hi.1 hi.2).mono ?_
    rintro e w' ⟨rfl, h1, h2⟩
    exact ⟨_, rfl, ⟨B, mp, gw, tb, mt, X, rfl, h1⟩, h2, newer_refl9 _ _⟩
  case col =>
    rintro w p n H F i h hi
    have h0 := h
    obtain ⟨B, mp, gw, tb, mt, X, rfl, h⟩ := h
    refine (vcolor_c h i hi.1 hi.2).mono ?_
    rintro e w' ⟨rfl, hb⟩
    exact ⟨_, rfl, below_left h0 hb⟩
  case swap =>
    rintro w p n H F i j ⟨B, mp, gw, tb, mt, X, rfl, h⟩ hi hj
    refine (vswap_c h i j hi.1 hi.2 hj.1 hj.2).mono ?_
    rintro e w' ⟨rfl, t⟩
    obtain ⟨F', l⟩ := tn_left t
    exact ⟨F', rfl, l⟩
  case hold =>
    rintro w p n H F u l ⟨B, mp, gw, tb, mt, X, rfl, h⟩ hu hl hlen hfar
    refine (vhold_c h hu hl hlen hfar).mono ?_
    rintro e w' ⟨rfl, t⟩
    obtain ⟨F', l⟩ := tn_left t
    exact ⟨F', rfl, l⟩
  case scan =>
    rintro w p n H F x ⟨B, mp, gw, tb, mt, X, rfl, h⟩ hx
    refine (vscan_c h x).mono ?_
    rintro e w' ⟨rfl, t⟩
    obtain ⟨F', l⟩ := tn_left t
    exact ⟨F', rfl, l⟩
  case done =>
    rintro w p n H F h
    have h0 := h
    obtain ⟨B, mp, gw, tb, mt, X, rfl, h⟩ := h
    refine (vdone_c h).mono ?_
    rintro e w' ⟨rfl, hb⟩
    exact ⟨_, rfl, below_left h0 hb⟩
  case flip =>
    rintro w p n H F ⟨B, mp, gw, tb, mt, X, rfl, h⟩
    refine (vflip_c h).mono ?_
    rintro e w' ⟨rfl, t⟩
    obtain ⟨F', l⟩ := tn_left t
    exact ⟨F', rfl, l⟩
  case ids =>
    rintro w p n H F h
    have h0 := h
    obtain ⟨B, mp, gw, tb, mt, X, rfl, h⟩ := h
    refine (vids_c h).mono ?_
    rintro e w' ⟨u, rfl, hu, hb, hf⟩
    exact ⟨u, _, rfl, hu, fun g hg => ⟨hf g hg, fun hF => by have := h0.lt g hF; have := hf g hg; omega⟩, below_left h0 hb⟩
  case cost =>
    rintro w p n H F h
    have h0 := h
    obtain ⟨B, mp, gw, tb, mt, X, rfl, h⟩ := h
    refine (vcost_c h).mono ?_
    rintro e w' ⟨rfl, rfl⟩
    exact ⟨_, _, rfl, below_left h0 (Below.refl _ _)⟩
  case new =>
    rintro w n p few sum1 sum p1 p2
    exact vnew_c n p few sum1 sum p1 p2
  case none' =>
    rintro w p hp
    exact vnew_none p hp
end Wd
end Go.Proofs.YtdaojohdmidemaaGreat

/- No Black cell names an Ecru one, whatever is called. -/
namespace Go.Proofs.YtdaojohdmidemaaGreat
open Go.RowKit Go.Maps
set_option linter.unusedVariables false
set_option maxRecDepth 20000
namespace Wd
section
variable {n : Nat → Nat} {H : Hst}
theorem okP_mk {s : Nat} (hs : s < 5) (i : Int) : okP ((s : Int), i) := ⟨s, hs, rfl⟩
theorem color_first0 {m : Nat} {A : Mst} {i j : Int} {R : List Int} (h : Good m A) (hA : A 0 = i :: R) : colorR (firstA A 0 1) j = if j = i then 1 else colorR A j := by
  have hnd : i ∉ R := fun m' => by
    have hn := (List.nodup_append.1 (good_nd h)).1
    rw [hA] at hn
    exact (List.nodup_cons.1 hn).1 m'
  unfold firstA
  rw [hA]
  by_cases c : j = i
  · subst c
    rw [if_pos rfl]
    unfold colorR
    simp [upA, hnd]
  · rw [if_neg c]
    unfold colorR
    simp [upA, c, hA]
theorem colP_scA (h : HInv n H) {s : Nat} (hs : s < 5) {i : Int} {R : List Int} (hA : H.M s 2 = i :: R) {q : Pl} (hq : okP q) : colP (scA H s) q = if q = ((s : Int), i) then 1 else colP H q := by
  unfold colP
  show colorR (upM H.M s (firstA (H.M s) 2 1) (szP q)) q.2 = _
  unfold upM
  by_cases c : szP q = s
  · rw [if_pos c, color_first (h.good s hs) hA, c]
    by_cases d : q.2 = i
    · rw [if_pos d, if_pos (hq.eq (okP_mk hs i) (by rw [c]; simp [szP]) d)]
    · rw [if_neg d, if_neg (fun e => d (by rw [e]))]
  · rw [if_neg c, if_neg (fun e => c (by rw [e]; simp [szP]))]
theorem Tri.scan1 (h : Tri H) (hi : HInv n H) {s : Nat} (hs : s < 5) {i : Int} {R : List Int} (hA : H.M s 2 = i :: R) : Tri (Wd.scan1 H s) := by
  have hi1 := hi.scA s
  have ok : ∀ x, okW H x → okW (Wd.scA H s) x := fun x hx ho k q e ht => by
    have := hx ho k q e ht
    rw [colP_scA hi hs hA (hi.okP ht)]
    split
    · omega
    · exact this
  have d := Dk.hold hi1 (H.C ((s : Int), firstR (H.M s) 2)).2
  have ef : firstR (H.M s) 2 = i := by unfold firstR; rw [hA]
  intro p hp hc x hx
  have hx' : x ∈ (H.C p).2 := by
    have : (Wd.scan1 H s).C = H.C := d.c
    rw [this] at hx; exact hx
  have c1 : colP (Wd.scA H s) p = 1 := by
    rcases d.col p hp with g | g
    · have : colP (Wd.scan1 H s) p = colP (Wd.scA H s) p := g
      omega
    · have : colP (Wd.scan1 H s) p = 2 := g.2
      omega
  rw [colP_scA hi hs hA hp] at c1
  by_cases e : p = ((s : Int), i)
  · subst e
    exact okW.hold _ hi1 x (by rw [ef]; exact hx')
  · rw [if_neg e] at c1
    exact (ok x (h p hp c1 x hx')).dark hi1 d
theorem gry_of {s : Nat} (h : gry H = some s) : s < 5 ∧ ∃ i R, H.M s 2 = i :: R := by
  unfold gry at h
  have h1 := List.find?_some h
  have h2 := List.mem_of_find?_eq_some h
  refine ⟨by simpa using h2, ?_⟩
  cases hA : H.M s 2 with
  | nil => rw [hA] at h1; simp at h1
  | cons i R => exact ⟨i, R, rfl⟩
theorem Tri.scanN : ∀ (k : Nat) (w d : Int) {H : Hst}, Tri H → HInv n H → Tri (Wd.scanN k w d H).2
  | 0, _, _, _, h, _ => h
  | k + 1, w, d, H, h, hi => by
    unfold Wd.scanN
    split
    · cases hg : gry H with
      | none => exact h
      | some s =>
        obtain ⟨hs, i, R, hA⟩ := gry_of hg
        exact Tri.scanN k w _ (h.scan1 hi hs hA) (hi.scan1 s)
    · exact h
theorem Tri.scanR (h : Tri H) (hi : HInv n H) (w : Int) : Tri (Wd.scanR H w).2 := Tri.scanN _ _ _ h hi
theorem Tri.put (h : Tri H) (hi : HInv n H) (i j x : Int) (hx : 0 ≤ x ∧ x ≤ 4294967295) : Tri (putH H i j x) := by
  unfold putH
  split
  · rename_i hb
    have hh : hasT H.T i = true := by
      cases hT : hasT H.T i with
      | true => rfl
      | false => simp [putB, fsI, hT] at hb; omega
    have hx0 : 0 < x := by
      have : x ≠ 0 := by simp [putB] at hb; exact hb.2
      omega
    have hi1 := hi.putC i j x ⟨hx0, hx.2⟩ hh
    obtain ⟨k, P, rfl, _, _, hP, eP⟩ := hi.has hh
    have eC : colI H (k : Nat) = colP H P := by unfold colI; rw [if_pos hh, eP]
    have eF : fsI H (k : Nat) = (H.C P).2 := by unfold fsI; rw [if_pos hh, eP]
    have eM : ∀ p, colP (putC H (k : Nat) j x) p = colP H p := fun p => by unfold colP putC; rfl
    have eW : ∀ y, okW H y → okW (putC H (k : Nat) j x) y := fun y g ho k' q e ht => by
      rw [eM]
      have ht' : H.T k' = some q := by unfold putC at ht; exact ht
      exact g ho k' q e ht'
    have old : ∀ p, okP p → colP H p = 1 → ∀ y, y ∈ ((putC H (k : Nat) j x).C p).2 → okW H y ∨ (p = P ∧ y = x) := fun p hp hc y hy => by
      unfold putC upC at hy
      rw [eP] at hy
      by_cases e : p = P
      · subst e
        simp only [if_true] at hy
        rw [eF] at hy
        rcases List.mem_or_eq_of_mem_set hy with hy | hy
        · exact .inl (h p hp hc y hy)
        · exact .inr ⟨rfl, hy⟩
      · simp only [if_neg e] at hy
        exact .inl (h p hp hc y hy)
    split
    · have d := Dk.shW hi1 x
      intro p hp hc y hy
      rw [d.c] at hy
      have c1 : colP (putC H (k : Nat) j x) p = 1 := by rcases d.col p hp with g | g <;> omega
      have c2 : colP H p = 1 := by rw [← eM p]; exact c1
      rcases old p hp c2 y hy with g | ⟨_, e⟩
      · exact okW.dark (H := putC H (k : Nat) j x) hi1 (eW y g) d
      · rw [e]; exact okW.shW hi1 x
    · rename_i hn
      intro p hp hc y hy
      have hc1 : colP H p = 1 := by rw [← eM p]; exact hc
      rcases old p hp hc1 y hy with g | ⟨e, _⟩
      · exact eW y g
      · rw [e] at hc1; exact absurd (eC.trans hc1) hn
  · exact h
theorem Tri.alc (h : Tri H) (hi : HInv n H) (cl f : Int) : Tri (alcH H cl f) := by
  cases hb : alcB H cl f with
  | false => unfold alcH; rw [hb]; exact h
  | true =>
    obtain ⟨s, k, i, R, hs, _, _, _, _, hM, hk4, hk, hT, _, _, eH⟩ := hi.alc_of hb
    rw [eH]
    have col : ∀ q, okP q → colP { T := updT H.T k (some ((s : Int), i)), M := upM H.M s (firstA (H.M s) 0 1), C := upC H.C ((s : Int), i) (cl, List.replicate f.toNat 2) } q = if q = ((s : Int), i) then 1 else colP H q := fun q hq => by
      unfold colP upM
      by_cases c : szP q = s
      · simp only [if_pos c]
        rw [color_first0 (hi.good s hs) hM, c]
        by_cases d : q.2 = i
        · rw [if_pos d, if_pos (hq.eq (okP_mk hs i) (by rw [c]; simp [szP]) d)]
        · rw [if_neg d, if_neg (fun e => d (by rw [e]))]
      · simp only [if_neg c]
        rw [if_neg (fun e => c (by rw [e]; simp [szP]))]
    have okw : ∀ x, okW H x → okW { T := updT H.T k (some ((s : Int), i)), M := upM H.M s (firstA (H.M s) 0 1), C := upC H.C ((s : Int), i) (cl, List.replicate f.toNat 2) } x := fun x hx ho k' q e ht => by
      have ht' : updT H.T k (some ((s : Int), i)) k' = some q := ht
      unfold updT at ht'
      by_cases c : k' = k
      · rw [if_pos c] at ht'
        have e2 : q = ((s : Int), i) := by injection ht' with e; exact e.symm
        rw [e2, col _ (okP_mk hs i), if_pos rfl]; omega
      · rw [if_neg c] at ht'
        have := hx ho k' q e ht'
        rw [col _ (hi.okP ht')]
        split
        · omega
        · exact this
    intro p hp hc x hx
    rw [col p hp] at hc
    have hx' : x ∈ (upC H.C ((s : Int), i) (cl, List.replicate f.toNat 2) p).2 := hx
    unfold upC at hx'
    by_cases e : p = ((s : Int), i)
    · rw [if_pos e] at hx'
      have e2 : x = 2 := List.eq_of_mem_replicate hx'
      apply okw
      intro ho k' q e3 ht
      have := hi.inv.bd k' q ht
      omega
    · rw [if_neg e] at hx'
      rw [if_neg e] at hc
      exact okw x (h p hp hc x hx')
theorem Tri.flp (h : Tri H) (hi : HInv n H) : Tri (flpH H) := by
  by_cases hd : doneB H = true
  · intro p hp hc
    exfalso
    obtain ⟨s, hs, e⟩ := hp
    have es : szP p = s := by unfold szP; rw [e]; simp
    unfold colP at hc
    rw [es, flpH_M hd hs] at hc
    unfold colorR at hc
    by_cases c0 : p.2 ∈ upA (upA (upA (H.M s) 0 (H.M s 0 ++ H.M s 3)) 3 (H.M s 1)) 1 [] 0
    · rw [if_pos c0] at hc; omega
    · rw [if_neg c0, if_neg (by simp [upA])] at hc
      repeat' split at hc
      all_goals omega
  · have e : flpH H = H := by unfold flpH; rw [if_neg hd]
    rw [e]; exact h
theorem colI_at (hi : HInv n H) {k : Nat} {p : Pl} (ht : H.T k = some p) : colI H (k : Nat) = colP H p := by
  have bk := hi.inv.bd k p ht
  obtain ⟨h1, h2⟩ := atP_at ht (by omega : k < 1024)
  unfold colI
  rw [if_pos h2, h1]
theorem Tri.swap (h : Tri H) (hi : HInv n H) (a b : Int) : Tri (swapH H a b) := by
  unfold swapH
  split
  · rename_i hb
    have hi1 := hi.swT hb
    obtain ⟨x, y, P, Q, rfl, rfl, hx, hy, hP, hQ, eT⟩ := swap_of hb
    have ea := colI_at hi hP
    have eb := colI_at hi hQ
    have tk : ∀ k, (swT H (x : Nat) (y : Nat)).T k = if k = y then some P else if k = x then some Q else H.T k := fun k => by
      show swapT H.T _ _ k = _
      rw [eT, swap_val hP hQ]
    have eM : ∀ p, colP (swT H (x : Nat) (y : Nat)) p = colP H p := fun p => by unfold colP swT; rfl
    -- a word is as good as it was, or it names one of the two
    have ok : ∀ z, okW H z → ∀ k q, z / 2 = ((k : Nat) : Int) → isOp z = true → (swT H (x : Nat) (y : Nat)).T k = some q → colP H q ≠ 3 ∨ ((k = x ∧ q = Q ∧ colP H P ≠ 3) ∨ (k = y ∧ q = P ∧ colP H Q ≠ 3)) := fun z hz k q e ho ht => by
      rw [tk] at ht
      by_cases cy : k = y
      · rw [if_pos cy] at ht
        have e2 : q = P := by injection ht with e; exact e.symm
        exact .inr (.inr ⟨cy, e2, hz ho k Q e (by rw [cy]; exact hQ)⟩)
      · rw [if_neg cy] at ht
        by_cases cx : k = x
        · rw [if_pos cx] at ht
          have e2 : q = Q := by injection ht with e; exact e.symm
          exact .inr (.inl ⟨cx, e2, hz ho k P e (by rw [cx]; exact hP)⟩)
        · rw [if_neg cx] at ht
          exact .inl (hz ho k q e ht)
    split
    · -- both are shaded
      have d1 := Dk.shI hi1 (x : Nat)
      have d2 := Dk.shI (hi1.shI (x : Nat)) (y : Nat)
      have d := d1.trans d2
      have tX : (swT H (x : Nat) (y : Nat)).T x = some Q ∨ x = y := by
        by_cases c : x = y
        · exact .inr c
        · exact .inl (by rw [tk, if_neg c, if_pos rfl])
      have tY : (swT H (x : Nat) (y : Nat)).T y = some P := by rw [tk, if_pos rfl]
      have nP : colP (shI (shI (swT H (x : Nat) (y : Nat)) (x : Nat)) (y : Nat)) P ≠ 3 := by
        have t1 : (shI (swT H (x : Nat) (y : Nat)) (x : Nat)).T y = some P := by rw [d1.t]; exact tY
        have := (hi1.shI (x : Nat)).held hy t1
        have e := colI_at ((hi1.shI (x : Nat)).shI (y : Nat)) (k := y) (p := P) (by rw [d2.t]; exact t1)
        omega
      have nQ : x ≠ y → colP (shI (shI (swT H (x : Nat) (y : Nat)) (x : Nat)) (y : Nat)) Q ≠ 3 := fun hne => by
        have t1 : (swT H (x : Nat) (y : Nat)).T x = some Q := by rcases tX with t | t; exact t; exact absurd t hne
        have h1 := hi1.held hx t1
        have e := colI_at (hi1.shI (x : Nat)) (k := x) (p := Q) (by rw [d1.t]; exact t1)
        have oQ := hi.okP hQ
        rcases d2.col Q oQ with g | g <;> omega
      intro p hp hc z hz
      rw [d.c] at hz
      have c1 : colP H p = 1 := by have := eM p; rcases d.col p hp with g | g <;> omega
      have hz' : okW H z := h p hp c1 z hz
      intro ho k q e ht
      have ht1 : (swT H (x : Nat) (y : Nat)).T k = some q := by rw [← d.t]; exact ht
      rcases ok z hz' k q e ho ht1 with g | ⟨cx, rfl, _⟩ | ⟨_, rfl, _⟩
      · have := eM q
        have oq := hi1.okP ht1
        rcases d.col q oq with u | u <;> omega
      · by_cases c : x = y
        · rw [tk, if_pos (cx.trans c)] at ht1
          have e2 : q = P := by injection ht1 with e; exact e.symm
          rw [e2]; exact nP
        · exact nQ c
      · exact nP
    · rename_i hn
      have hsame : (colP H P = 3 ↔ colP H Q = 3) := by
        unfold swN at hn
        rw [ea, eb] at hn
        by_cases u : colP H P = 3 <;> by_cases v : colP H Q = 3 <;> simp [u, v] at hn ⊢
      intro p hp hc z hz ho k q e ht
      have c1 : colP H p = 1 := by rw [← eM p]; exact hc
      rw [eM]
      rcases ok z (h p hp c1 z hz) k q e ho ht with g | ⟨_, rfl, g⟩ | ⟨_, rfl, g⟩
      · exact g
      · exact fun u => g (hsame.2 u)
      · exact fun u => g (hsame.1 u)
  · exact h
end
end Wd
end Go.Proofs.YtdaojohdmidemaaGreat

/- What is kept: a set of identities, closed under fields, all of them there. -/
namespace Go.Proofs.YtdaojohdmidemaaGreat
open Go.RowKit Go.Maps
set_option linter.unusedVariables false
set_option maxRecDepth 20000
namespace Wd
def Sin (S : Nat → Prop) (z : Int) : Prop := isOp z = true → ∀ k : Nat, z / 2 = (k : Int) → 4 ≤ k → S k
structure Kpt (H : Hst) (S : Nat → Prop) : Prop where
  on : ∀ k, S k → ∃ p, H.T k = some p ∧ (H.C p).1 = 2 ∧ (H.C p).2.length = 3 ∧ ∀ z, z ∈ (H.C p).2 → Sin S z
section
variable {n : Nat → Nat} {H : Hst} {S : Nat → Prop}
theorem Kpt.same {H' : Hst} (h : Kpt H S) (ht : H'.T = H.T) (hc : H'.C = H.C) : Kpt H' S := ⟨fun k hk => by rw [ht, hc]; exact h.on k hk⟩
theorem Kpt.dark {H' : Hst} (h : Kpt H S) (d : Dk H H') : Kpt H' S := h.same d.t d.c
theorem Kpt.put (h : Kpt H S) (hi : HInv n H) (i j x : Int) (hx : 0 ≤ x ∧ x ≤ 4294967295) (hS : Sin S x) : Kpt (putH H i j x) S := by
  unfold putH
  split
  · rename_i hb
    have hh : hasT H.T i = true := by
      cases hT : hasT H.T i with
      | true => rfl
      | false => simp [putB, fsI, hT] at hb; omega
    have hx0 : 0 < x := by
      have : x ≠ 0 := by simp [putB] at hb; exact hb.2
      omega
    have hi1 := hi.putC i j x ⟨hx0, hx.2⟩ hh
    obtain ⟨k, P, rfl, _, _, hP, eP⟩ := hi.has hh
    have eF : fsI H (k : Nat) = (H.C P).2 := by unfold fsI; rw [if_pos hh, eP]
    have h1 : Kpt (putC H (k : Nat) j x) S := ⟨fun k' hk => by
      obtain ⟨p, h1, h2, h3, h4⟩ := h.on k' hk
      refine ⟨p, h1, ?_⟩
      have eC : (putC H (k : Nat) j x).C p = if p = P then ((H.C P).1, (H.C P).2.set j.toNat x) else H.C p := by
        unfold putC upC; rw [eP, eF]
      rw [eC]
      by_cases c : p = P
      · rw [if_pos c]
        subst c
        refine ⟨h2, by simpa using h3, fun z hz => ?_⟩
        rcases List.mem_or_eq_of_mem_set hz with hz | hz
        · exact h4 z hz
        · rw [hz]; exact hS
      · rw [if_neg c]; exact ⟨h2, h3, h4⟩⟩
    split
    · exact h1.dark (Dk.shW hi1 x)
    · exact h1
  · exact h
theorem Kpt.alc (h : Kpt H S) (hi : HInv n H) : alcI H 2 3 = -1 ∧ Kpt (alcH H 2 3) S ∨ ∃ k : Nat, alcI H 2 3 = k ∧ 4 ≤ k ∧ k < 1024 ∧ Kpt (alcH H 2 3) (fun j => S j ∨ j = k) := by
  cases hb : alcB H 2 3 with
  | false =>
    refine .inl ⟨by unfold alcI; rw [hb]; rfl, ?_⟩
    unfold alcH; rw [hb]; exact h
  | true =>
    obtain ⟨s, k, i, R, hs, _, _, _, _, hM, hk4, hk, hT, _, eI, eH⟩ := hi.alc_of hb
    refine .inr ⟨k, eI, hk4, hk, ?_⟩
    have hT' : (alcH H 2 3).T = updT H.T k (some ((s : Int), i)) := by rw [eH]
    have hC' : (alcH H 2 3).C = upC H.C ((s : Int), i) (2, List.replicate (3 : Int).toNat 2) := by rw [eH]
    refine ⟨fun j hj => ?_⟩
    rw [hT', hC']
    by_cases c : j = k
    · refine ⟨((s : Int), i), by unfold updT; rw [if_pos c], ?_⟩
      have eC : upC H.C ((s : Int), i) (2, List.replicate (3 : Int).toNat 2) ((s : Int), i) = (2, [2, 2, 2]) := by unfold upC; rw [if_pos rfl]; rfl
      rw [eC]
      refine ⟨rfl, rfl, fun z hz ho k' e hk' => ?_⟩
      have : z = 2 := by simpa using hz
      omega
    · have hj' : S j := by rcases hj with hj | hj; exact hj; exact absurd hj c
      obtain ⟨p, h1, h2, h3, h4⟩ := h.on j hj'
      have hne : p ≠ ((s : Int), i) := fun e => by
        obtain ⟨t, _, e1, _, _, e5⟩ := hi.pl j p h1
        rw [e] at e1 e5
        have : s = t := by have e2 : (s : Int) = t := e1; omega
        subst this
        exact e5 (by rw [hM]; simp)
      refine ⟨p, by unfold updT; rw [if_neg c]; exact h1, ?_⟩
      have eC : upC H.C ((s : Int), i) (2, List.replicate (3 : Int).toNat 2) p = H.C p := by unfold upC; rw [if_neg hne]
      rw [eC]
      exact ⟨h2, h3, fun z hz ho k' e hk' => .inl (h4 z hz ho k' e hk')⟩
theorem Kpt.swap (h : Kpt H S) (hi : HInv n H) {a b : Nat} (ha : S a) (hb' : S b) : Kpt (swapH H a b) S := by
  unfold swapH
  split
  · rename_i hb
    have hi1 := hi.swT hb
    obtain ⟨x, y, P, Q, ex, ey, hx, hy, hP, hQ, eT⟩ := swap_of hb
    have ex' : a = x := by omega
    have ey' : b = y := by omega
    subst ex' ey'
    have h1 : Kpt (swT H (a : Nat) (b : Nat)) S := ⟨fun k hk => by
      have tk : (swT H (a : Nat) (b : Nat)).T k = if k = b then some P else if k = a then some Q else H.T k := by
        show swapT H.T _ _ k = _
        rw [eT, swap_val hP hQ]
      rw [tk]
      by_cases cy : k = b
      · rw [if_pos cy]
        obtain ⟨p, g1, g⟩ := h.on a ha
        have : P = p := by rw [hP] at g1; injection g1
        exact ⟨P, rfl, by rw [this]; exact g⟩
      · rw [if_neg cy]
        by_cases cx : k = a
        · rw [if_pos cx]
          obtain ⟨p, g1, g⟩ := h.on b hb'
          have : Q = p := by rw [hQ] at g1; injection g1
          exact ⟨Q, rfl, by rw [this]; exact g⟩
        · rw [if_neg cx]; exact h.on k hk⟩
    split
    · exact (h1.dark (Dk.shI hi1 _)).dark (Dk.shI (hi1.shI _) _)
    · exact h1
  · exact h
theorem Kpt.flp (h : Kpt H S) (hi : HInv n H) (ht : Tri H) : ∃ S', Kpt (flpH H) S' ∧ ∀ k, S k → (doneB H = true → colI H (k : Nat) ≠ 3) → S' k := by
  by_cases hd : doneB H = true
  · refine ⟨fun k => S k ∧ colI H (k : Nat) ≠ 3, ⟨fun k hk => ?_⟩, fun k hk hc => ⟨hk, hc hd⟩⟩
    obtain ⟨p, h1, h2, h3, h4⟩ := h.on k hk.1
    have bk := hi.inv.bd k p h1
    refine ⟨p, hi.stays hd (by omega) h1 hk.2, ?_⟩
    rw [flpH_C]
    refine ⟨h2, h3, fun z hz ho k' e hk' => ?_⟩
    have hs' := h4 z hz ho k' e hk'
    obtain ⟨q, g1, _⟩ := h.on k' hs'
    refine ⟨hs', ?_⟩
    rw [colI_at hi g1]
    have cb : colP H p = 1 := by
      have c3 : colP H p ≠ 3 := by rw [← colI_at hi h1]; exact hk.2
      obtain ⟨s, hs, es, p0, p1, pn⟩ := hi.pl k p h1
      have ep : szP p = s := by unfold szP; rw [es]; simp
      unfold colP at c3 ⊢
      rw [ep] at c3 ⊢
      obtain ⟨m, hm⟩ : ∃ m : Nat, p.2 = m := ⟨p.2.toNat, by omega⟩
      obtain ⟨y, hy, hyA, hyc⟩ := good_in (hi.good s hs) (k := m) (by omega)
      rw [hm] at c3 pn ⊢
      rw [hyc] at c3 ⊢
      rcases (show y = 0 ∨ y = 1 ∨ y = 2 ∨ y = 3 by omega) with rfl | rfl | rfl | rfl
      · exact absurd hyA pn
      · rfl
      · rw [done_of hd s hs] at hyA; cases hyA
      · exact absurd rfl c3
    exact ht p (hi.okP h1) cb z hz ho k' q e g1
  · have e : flpH H = H := by unfold flpH; rw [if_neg hd]
    exact ⟨S, by rw [e]; exact h, fun k hk _ => hk⟩
end
end Wd
end Go.Proofs.YtdaojohdmidemaaGreat

/- What is kept: all that is reached by so many steps is there. -/
namespace Go.Proofs.YtdaojohdmidemaaGreat
open Go.RowKit Go.Maps
set_option linter.unusedVariables false
set_option maxRecDepth 20000
namespace Wd
theorem left_refl {HA : HAt} {w : World} {p : Nat} {n : Nat → Nat} {H : Hst} {F : Nat → Prop} (h : HA w p n H F) : Left HA w w p n H F F := ⟨h, Ch.refl _ _, fun k hk => Or.inl hk⟩
theorem left_trans {HA : HAt} {w w1 w2 : World} {p : Nat} {n : Nat → Nat} {H1 H2 : Hst} {F F1 F2 : Nat → Prop} (h1 : Left HA w w1 p n H1 F F1) (h2 : Left HA w1 w2 p n H2 F1 F2) : Left HA w w2 p n H2 F F2 := by
  obtain ⟨a1, c1, n1⟩ := h1
  obtain ⟨a2, c2, n2⟩ := h2
  refine ⟨a2, ⟨c2.os.trans c1.os, c2.tape.trans c1.tape, c2.output.trans c1.output, Nat.le_trans c1.size c2.size, fun k hk hF => ?_⟩, fun k hk => ?_⟩
  · refine (c2.block k (Nat.lt_of_lt_of_le hk c1.size) (fun h => ?_)).trans (c1.block k hk hF)
    rcases n1 k h with h | h
    · exact hF h
    · omega
  · rcases n2 k hk with h | h
    · exact n1 k h
    · exact Or.inr (Nat.le_trans c1.size h)
/-- one that is kept, and what may be asked of it -/
theorem Kpt.ask {n : Nat → Nat} {H : Hst} {S : Nat → Prop} (h : Kpt H S) (hi : HInv n H) {k : Nat} (hk : S k) : clsI H (k : Nat) = 2 ∧ fldI H (k : Nat) = 3 ∧ ∀ j : Nat, j < 3 → getB H (k : Nat) j = true ∧ Sin S (getV H (k : Nat) j) ∧ 0 ≤ getV H (k : Nat) j ∧ getV H (k : Nat) j ≤ 4294967295 := by
  obtain ⟨p, h1, h2, h3, h4⟩ := h.on k hk
  have hb := hi.inv.bd k p h1
  obtain ⟨e1, e2⟩ := atP_at h1 (by omega)
  have ef : fsI H (k : Nat) = (H.C p).2 := by unfold fsI; rw [if_pos e2, e1]
  refine ⟨by unfold clsI; rw [if_pos e2, e1]; exact h2, by unfold fldI; rw [if_pos e2, e1, h3]; rfl, fun j hj => ?_⟩
  have hg : 0 ≤ ((j : Nat) : Int) ∧ ((j : Nat) : Int) < ((fsI H (k : Nat)).length : Int) := by rw [ef, h3]; omega
  have hv : getV H (k : Nat) j = (H.C p).2[j]'(by omega) := by
    unfold getV
    rw [if_pos hg, ef]
    simp [List.getD_eq_getElem?_getD, show j < (H.C p).2.length by omega]
  have hm : getV H (k : Nat) j ∈ (H.C p).2 := by rw [hv]; exact List.getElem_mem _
  have hc := (hi.cel k p h1).2.2 _ hm
  exact ⟨by unfold getB; exact decide_eq_true hg, h4 _ hm, by omega, hc.2⟩
set_option maxHeartbeats 16000000 in
theorem lives_1 {HA : HAt} (K : HeapK HA) {p : Nat} {n : Nat → Nat} {H : Hst} {S : Nat → Prop} (D : Int) (D0 : 0 ≤ D) (D6 : D ≤ 6) (hk : Kpt H S)
    (ih : 0 < D → ∀ {w : World} {F : Nat → Prop} (x : Int), HA w p n H F → 0 ≤ x → x ≤ 4294967295 → Sin S x → Calls Tryz.prog 25 #[.pointer (some ⟨p, 0, none⟩), .int .u32 x, .int .i64 (D - 1)] w fun e w' => ∃ F', e = .returned (.bool true) ∧ Left HA w w' p n H F F')
    {w : World} {F : Nat → Prop} (x : Int) (h : HA w p n H F) (x0 : 0 ≤ x) (x1 : x ≤ 4294967295) (hS : Sin S x) :
    Calls Tryz.prog 25 #[.pointer (some ⟨p, 0, none⟩), .int .u32 x, .int .i64 D] w fun e w' => ∃ F', e = .returned (.bool true) ∧ Left HA w w' p n H F F' := by
  have RI := Lib.hid (rid_c x x0 x1)
  have L0 := Lib.hid (left_refl h)
  replace ih := Lib.hid ih
  cases ho : isOp x
  · rw [ho] at RI
    clear ih hS hk
    go_enter Tryz.func25, Tryz.ntmps25
    go_wp2_with fail
    refine (RI.out _).mono ?_
    rintro e w1 ⟨rfl, hw1⟩
    subst w1
    go_wp2
    go_ret
    exact ⟨_, rfl, L0.out⟩
  · rw [ho] at RI
    have ei : idW x = x / 2 := by unfold idW; rw [if_pos ho]
    by_cases h4 : idW x < 4
    · have h4' : decide (idW x < 4) = true := by simpa using h4
      clear ih hS hk
      go_enter Tryz.func25, Tryz.ntmps25
      go_wp2_with fail
      refine (RI.out _).mono ?_
      rintro e w1 ⟨rfl, hw1⟩
      subst w1
      go_wp2
      go_ret
      exact ⟨_, rfl, L0.out⟩
    · obtain ⟨k, hkk⟩ : ∃ k : Nat, idW x = (k : Nat) := ⟨(idW x).toNat, by omega⟩
      rw [hkk] at RI h4
      have hsk : S k := hS ho k (by rw [← ei, hkk]) (by omega)
      have hk31 : (k : Int) ≤ 2147483647 := by omega
      obtain ⟨a1, a2, a3⟩ := hk.ask (K.inv h) hsk
      have h4' : decide ((k : Int) < 4) = false := by simpa using h4
      have PC := K.cls (k : Nat) h (by unfold i64; omega)
      have PF : Hid (∀ wX F', Left HA w wX p n H F F' → Calls Tryz.prog 31 #[.pointer (some ⟨p, 0, none⟩), .int .i64 (k : Int)] wX fun e w' => ∃ F', e = .returned (.int .i64 3) ∧ Left HA w w' p n H F F') := Lib.hid (fun wX F' hL => by
        have := K.fld (k : Nat) hL.1 (by unfold i64; omega)
        rw [a2] at this
        refine this.mono ?_
        rintro e w' ⟨F2, he, h2⟩
        exact ⟨F2, he, left_trans hL h2⟩)
      have PG : Hid (∀ wX F' (j : Nat), j < 3 → Left HA w wX p n H F F' → Calls Tryz.prog 16 #[.pointer (some ⟨p, 0, none⟩), .int .i64 (k : Int), .int .i64 (j : Int)] wX fun e w' => ∃ y F', e = .returned (.tuple #[.int .u32 y, .bool true]) ∧ (0 ≤ y ∧ y ≤ 4294967295 ∧ Sin S y) ∧ Left HA w w' p n H F F') := Lib.hid (fun wX F' j hj hL => by
        obtain ⟨b1, b2, b3, b4⟩ := a3 j hj
        have := K.get (k : Nat) (j : Nat) hL.1 (by unfold i64; omega) (by unfold i64; omega)
        rw [b1] at this
        refine this.mono ?_
        rintro e w' ⟨F2, he, h2⟩
        exact ⟨_, F2, he, ⟨b3, b4, b2⟩, left_trans hL h2⟩)
      have PI : Hid (0 < D → ∀ wX F' y, 0 ≤ y → y ≤ 4294967295 → Sin S y → Left HA w wX p n H F F' → Calls Tryz.prog 25 #[.pointer (some ⟨p, 0, none⟩), .int .u32 y, .int .i64 (D - 1)] wX fun e w' => ∃ F', e = .returned (.bool true) ∧ Left HA w w' p n H F F') := Lib.hid (fun hD wX F' y y0 y1 hy hL => by
        refine (ih.out hD y hL.1 y0 y1 hy).mono ?_
        rintro e w' ⟨F2, he, h2⟩
        exact ⟨F2, he, left_trans hL h2⟩)
      rw [a1] at PC
      replace PC := Lib.hid PC
      have dw : IntKind.i64.wrap (D - 1) = D - 1 := by rw [IntKind.wrap_i64]; omega
      clear a1 a2 a3 hsk ih hS hk h ei hkk
      go_enter Tryz.func25, Tryz.ntmps25
      go_wp2_with fail
      refine (RI.out _).mono ?_
      rintro e w1 ⟨rfl, hw1⟩
      subst w1
      go_wp2_with fail
      refine PC.out.mono ?_
      rintro e w1 ⟨F1, rfl, l1⟩
      replace l1 := Lib.hid l1
      clear PC L0 RI
      go_wp2_with fail
      refine (PF.out _ _ l1.out).mono ?_
      rintro e w2 ⟨F2, rfl, l2⟩
      replace l2 := Lib.hid l2
      clear PF l1
      go_wp2_with fail
      go_loopw [9] (fun i wr => ∃ j : Nat, j ≤ 3 ∧ i = .int .i64 j ∧ ∃ F', Hid (Left HA w wr p n H F F')) (fun i _ => 3 - (intOf i).toNat)
      case atStart => exact ⟨0, by omega, rfl, _, l2⟩
      case round =>
        obtain ⟨j, hj, rfl, F3, l3⟩ := hrel
        clear l2
        have hw : IntKind.i64.wrap ((j : Int) + 1) = (j : Int) + 1 := by rw [IntKind.wrap_i64]; omega
        by_cases hD : 0 < D
        · by_cases hlt : j < 3
          · have d1 : decide ((j : Int) < 3) = true := by simp; omega
            have d2 : decide (D > 0) = true := by simpa using hD
            go_wp2_with fail
            refine (PG.out _ _ j hlt l3.out).mono ?_
            rintro e w4 ⟨y, F4, rfl, ⟨y0, y1, hy⟩, l4⟩
            replace l4 := Lib.hid l4
            replace hy := Lib.hid hy
            clear l3
            go_wp2_with fail
            refine (PI.out hD _ _ y y0 y1 hy.out l4.out).mono ?_
            rintro e w5 ⟨F5, rfl, l5⟩
            replace l5 := Lib.hid l5
            clear l4
            go_wp2
            go_roundw
            case rel => exact ⟨j + 1, by omega, by go_num, _, l5⟩
            case measure => simp [intOf]; omega
          · have d1 : decide ((j : Int) < 3) = false := by simp; omega
            go_wp2
            go_ret
            exact ⟨_, rfl, l3.out⟩
        · have d2 : decide (D > 0) = false := by simp; omega
          by_cases hlt : j < 3
          · have d1 : decide ((j : Int) < 3) = true := by simp; omega
            go_wp2
            go_ret
            first | exact ⟨_, rfl, l3.out⟩ | exact ⟨rfl, _, l3.out⟩
          · have d1 : decide ((j : Int) < 3) = false := by simp; omega
            go_wp2
            go_ret
            first | exact ⟨_, rfl, l3.out⟩ | exact ⟨rfl, _, l3.out⟩
theorem lives_c {HA : HAt} (K : HeapK HA) {p : Nat} {n : Nat → Nat} {H : Hst} {S : Nat → Prop} (hk : Kpt H S) : ∀ (d : Nat), d ≤ 6 → ∀ {w : World} {F : Nat → Prop} (x : Int), HA w p n H F → 0 ≤ x → x ≤ 4294967295 → Sin S x →
    Calls Tryz.prog 25 #[.pointer (some ⟨p, 0, none⟩), .int .u32 x, .int .i64 (d : Int)] w fun e w' => ∃ F', e = .returned (.bool true) ∧ Left HA w w' p n H F F' := by
  intro d
  induction d with
  | zero => 
    intro hd w F x h x0 x1 hS
    exact lives_1 K 0 (by omega) (by omega) hk (fun hD => by omega) x h x0 x1 hS
  | succ d ih =>
    intro hd w F x h x0 x1 hS
    have ed : ((d + 1 : Nat) : Int) = (d : Int) + 1 := by omega
    rw [ed]
    refine lives_1 K ((d : Int) + 1) (by omega) (by omega) hk (fun _ => ?_) x h x0 x1 hS
    rw [show (d : Int) + 1 - 1 = d by omega]
    exact ih (by omega)
end Wd
end Go.Proofs.YtdaojohdmidemaaGreat

/- HeapKeeps: what is known of the roots, and how the two memories lie beside them. -/
namespace Go.Proofs.YtdaojohdmidemaaGreat
open Go.RowKit Go.Maps
set_option linter.unusedVariables false
set_option maxRecDepth 20000
namespace Wd
def rootOk (S : Nat → Prop) (x : Int) : Prop := 8 ≤ x ∧ x ≤ 4294967295 ∧ isOp x = true ∧ Sin S x
theorem rootOk.at' {S : Nat → Prop} {x : Int} (h : rootOk S x) : ∃ k : Nat, idW x = (k : Int) ∧ 4 ≤ k ∧ k ≤ 2147483647 ∧ S k := by
  obtain ⟨h1, h2, h3, h4⟩ := h
  have e : x / 2 = (((x / 2).toNat : Nat) : Int) := by omega
  refine ⟨(x / 2).toNat, by unfold idW; rw [if_pos h3]; exact e, by omega, by omega, h4 h3 _ e (by omega)⟩
theorem rootOk.mono {S S' : Nat → Prop} {x : Int} (h : rootOk S x) (hm : ∀ k, S k → S' k) : rootOk S' x := ⟨h.1, h.2.1, h.2.2.1, fun ho k e hk => hm _ (h.2.2.2 ho k e hk)⟩
theorem rootOk.mk' {S : Nat → Prop} {k : Nat} (h4 : 4 ≤ k) (hk : k < 1024) (hS : S k) : rootOk S (2 * (k : Int)) := by
  refine ⟨by omega, by omega, ?_, fun ho j e hj => ?_⟩
  · unfold isOp
    have h1 : (2 * (k : Int)) % 2 = 0 := by omega
    have h2 : (2 * (k : Int)) ≠ 0 := by omega
    rw [decide_eq_true h1, decide_eq_true h2]; rfl
  · have : j = k := by omega
    subst this; exact hS
theorem rootOk.field {S : Nat → Prop} {x : Int} (h : Sin S x) (h7 : 7 < x) (h2 : x % 2 = 0) (hx : x ≤ 4294967295) : rootOk S x := by
  refine ⟨by omega, hx, ?_, h⟩
  unfold isOp
  rw [decide_eq_true h2, decide_eq_true (show x ≠ 0 by omega)]; rfl
/-- the roots are kept -/
structure KeP (n : Nat → Nat) (H : Hst) (L : List Int) (S : Nat → Prop) : Prop where
  l4 : L.length = 4
  ok : ∀ x, x ∈ L → rootOk S x
  tri : Tri H
  kpt : Kpt H S
section
variable {n : Nat → Nat} {H : Hst} {L : List Int} {S : Nat → Prop}
theorem KeP.at' (h : KeP n H L S) (r : Nat) (hr : r < 4) : ∃ x, L[r]? = some x ∧ rootOk S x := by
  have hl : r < L.length := by rw [h.l4]; exact hr
  exact ⟨L[r], by simp [hl], h.ok _ (List.getElem_mem hl)⟩
theorem KeP.set (h : KeP n H L S) (r : Nat) {x : Int} (hx : rootOk S x) : KeP n H (L.set r x) S :=
  ⟨by rw [List.length_set]; exact h.l4, fun y hy => by
    rcases List.mem_or_eq_of_mem_set hy with hy | rfl
    · exact h.ok y hy
    · exact hx, h.tri, h.kpt⟩
theorem KeP.put (h : KeP n H L S) (hi : HInv n H) (i j x : Int) (hx : rootOk S x) : KeP n (putH H i j x) L S :=
  ⟨h.l4, h.ok, h.tri.put hi i j x ⟨by have := hx.1; omega, hx.2.1⟩, h.kpt.put hi i j x ⟨by have := hx.1; omega, hx.2.1⟩ hx.2.2.2⟩
theorem KeP.swap (h : KeP n H L S) (hi : HInv n H) {a b : Nat} (ha : S a) (hb : S b) : KeP n (swapH H a b) L S :=
  ⟨h.l4, h.ok, h.tri.swap hi a b, h.kpt.swap hi ha hb⟩
theorem KeP.alc (h : KeP n H L S) (hi : HInv n H) : (alcI H 2 3 = -1 ∧ KeP n (alcH H 2 3) L S) ∨ ∃ k : Nat, alcI H 2 3 = k ∧ 4 ≤ k ∧ k < 1024 ∧ KeP n (alcH H 2 3) L (fun j => S j ∨ j = k) := by
  rcases h.kpt.alc hi with ⟨e, hk⟩ | ⟨k, e, k4, k1, hk⟩
  · exact Or.inl ⟨e, h.l4, h.ok, h.tri.alc hi 2 3, hk⟩
  · exact Or.inr ⟨k, e, k4, k1, h.l4, fun x hx => (h.ok x hx).mono (fun _ => Or.inl), h.tri.alc hi 2 3, hk⟩
theorem KeP.hold (h : KeP n H L S) (hi : HInv n H) : KeP n (holdH H L) L S := ⟨h.l4, h.ok, h.tri.hold hi L, h.kpt.dark (Dk.hold hi L)⟩
theorem scan1_tc (hi : HInv n H) (s : Nat) : (scan1 H s).T = H.T ∧ (scan1 H s).C = H.C := by
  have d := Dk.hold (hi.scA s) (H.C ((s : Int), firstR (H.M s) 2)).2
  exact ⟨d.t, d.c⟩
theorem scanN_tc : ∀ (k : Nat) (w d : Int) {H : Hst}, HInv n H → (scanN k w d H).2.T = H.T ∧ (scanN k w d H).2.C = H.C
  | 0, _, _, _, _ => ⟨rfl, rfl⟩
  | k + 1, w, d, H, hi => by
    unfold scanN
    split
    · cases hg : gry H with
      | none => exact ⟨rfl, rfl⟩
      | some s =>
        have h1 := scan1_tc hi s
        have h2 := scanN_tc k w (d + wd s) (hi.scan1 s)
        exact ⟨h2.1.trans h1.1, h2.2.trans h1.2⟩
    · exact ⟨rfl, rfl⟩
theorem okW.scan1 {x : Int} (hi : HInv n H) {s : Nat} (hs : s < 5) {i : Int} {R : List Int} (hA : H.M s 2 = i :: R) (h : okW H x) : okW (Wd.scan1 H s) x := by
  have h1 : okW (scA H s) x := fun ho k q e ht => by
    have ht' : H.T k = some q := ht
    rw [colP_scA hi hs hA (hi.okP ht')]
    split
    · decide
    · exact h ho k q e ht'
  exact okW.dark (hi.scA s) h1 (Dk.hold (hi.scA s) _)
theorem okW.scanN {x : Int} : ∀ (k : Nat) (w d : Int) {H : Hst}, HInv n H → okW H x → okW (Wd.scanN k w d H).2 x
  | 0, _, _, _, _, h => h
  | k + 1, w, d, H, hi, h => by
    unfold Wd.scanN
    split
    · cases hg : gry H with
      | none => exact h
      | some s =>
        obtain ⟨h5, i, R, hA⟩ := gry_of hg
        exact okW.scanN k w (d + wd s) (hi.scan1 s) (h.scan1 hi h5 hA)
    · exact h
theorem KeP.scan (h : KeP n H L S) (hi : HInv n H) (w : Int) : KeP n (scanR H w).2 L S := by
  have e := scanN_tc 262145 (clampW w) 0 hi
  exact ⟨h.l4, h.ok, h.tri.scanR hi w, h.kpt.same e.1 e.2⟩
/-- at a turn's end: what the roots reach, held ahead of it, stays -/
theorem KeP.flip (h : KeP n H L S) (hi : HInv n H) (hw : ∀ x, x ∈ L → okW H x) : ∃ S', KeP n (flpH H) L S' := by
  obtain ⟨S', h1, h2⟩ := h.kpt.flp hi h.tri
  refine ⟨S', h.l4, fun x hx => ?_, h.tri.flp hi, h1⟩
  obtain ⟨a, b, c, d⟩ := h.ok x hx
  refine ⟨a, b, c, fun ho k e hk => h2 k (d ho k e hk) (fun _ => ?_)⟩
  obtain ⟨p, hp, _⟩ := h.kpt.on k (d ho k e hk)
  rw [colI_at hi hp]
  exact hw x hx ho k p e hp
/-- a turn of the law's loop, behind its own ask: held, scanned, turned, held -/
theorem KeP.turn (h : KeP n H L S) (hi : HInv n H) (w : Int) : ∃ S', KeP n (flpH (scanR (holdH H L) w).2) L S' := by
  have i1 := hi.hold L
  have i2 : HInv n (scanR (holdH H L) w).2 := HInv.scanN _ _ _ i1
  exact ((h.hold hi).scan i1 w).flip i2 (fun x hx => okW.scanN _ _ _ i1 (okW.hold L hi x hx))
end
/-- the two memories, the row of roots, and the ask at hand, each in blocks of its own -/
structure KeW (HA : HAt) (w0 wr : World) (p b g cap B : Nat) (n : Nat → Nat) (H G : Hst) (F D : Nat → Prop) (L : List Int) (x y z v : Int) : Prop where
  pp : PP HA w0 wr p b n H G F D wr (fun k => k = g ∨ k = B)
  row : SW wr (.slice (some ⟨g, 0, none⟩) 4 cap) L
  own : w0.heap.size ≤ g
  l4 : L.length = 4
  box : Box4 wr B x y z v
  ne : g ≠ B
/-- the same without an ask -/
structure KeV (HA : HAt) (w0 wr : World) (p b g cap : Nat) (n : Nat → Nat) (H G : Hst) (F D : Nat → Prop) (L : List Int) : Prop where
  pp : PP HA w0 wr p b n H G F D wr (fun k => k = g)
  row : SW wr (.slice (some ⟨g, 0, none⟩) 4 cap) L
  own : w0.heap.size ≤ g
  l4 : L.length = 4
section
variable {HA : HAt} {w0 wr w1 : World} {p b g cap B : Nat} {n : Nat → Nat} {H H' G G' : Hst} {F F' D D' : Nat → Prop} {L : List Int} {x y z v : Int}
theorem sw_block (h : SW wr (.slice (some ⟨g, 0, none⟩) 4 cap) L) (hb : w1.heap[g]? = wr.heap[g]?) : SW w1 (.slice (some ⟨g, 0, none⟩) 4 cap) L := h.same (fun k hk => by cases hk; exact hb)
theorem KeW.keep (K : HeapK HA) (h : KeW HA w0 wr p b g cap B n H G F D L x y z v) (c : Below wr.heap.size wr w1) : KeW HA w0 w1 p b g cap B n H G F D L x y z v := by
  have eg := h.pp.ex g (Or.inl rfl)
  have eB := h.pp.ex B (Or.inr rfl)
  exact ⟨(h.pp.keep K c).apart (fun k hk => by have := (h.pp.keep K c).ex k hk; exact ⟨this.1, this.2.1, this.2.2.1⟩), sw_block h.row (c.block g eg.1), h.own, h.l4, h.box.of (c.block B eB.1), h.ne⟩
theorem KeW.stepP (K : HeapK HA) (h : KeW HA w0 wr p b g cap B n H G F D L x y z v) (l : Left HA wr w1 p n H' F F') : KeW HA w0 w1 p b g cap B n H' G F' D L x y z v := by
  have q := h.pp.stepP K l
  have eg := q.ex g (Or.inl rfl)
  have eB := q.ex B (Or.inr rfl)
  exact ⟨q.apart (fun k hk => by have := q.ex k hk; exact ⟨this.1, this.2.1, this.2.2.1⟩), sw_block h.row eg.2.2.2, h.own, h.l4, h.box.of eB.2.2.2, h.ne⟩
theorem KeW.stepR (K : HeapK HA) (h : KeW HA w0 wr p b g cap B n H G F D L x y z v) (l1 : RA9 w1 b n G' D') (l2 : Ch D wr w1) (l3 : Newer D D' wr.heap.size) : KeW HA w0 w1 p b g cap B n H G' F D' L x y z v := by
  have q := h.pp.stepR K l1 l2 l3
  have eg := q.ex g (Or.inl rfl)
  have eB := q.ex B (Or.inr rfl)
  exact ⟨q.apart (fun k hk => by have := q.ex k hk; exact ⟨this.1, this.2.1, this.2.2.1⟩), sw_block h.row eg.2.2.2, h.own, h.l4, h.box.of eB.2.2.2, h.ne⟩
theorem set_ch (g r : Nat) (u : Value) (w : World) : Ch (fun k => k = g) w (w.setCell ⟨g, r, none⟩ u) := (Ch.refl (fun k => k = g) w).set ⟨g, r, none⟩ rfl u
/-- a root is written -/
theorem KeW.set (K : HeapK HA) (h : KeW HA w0 wr p b g cap B n H G F D L x y z v) (r : Nat) (u : Int) : KeW HA w0 (wr.setCell ⟨g, r, none⟩ (.int .u32 u)) p b g cap B n H G F D (L.set r u) x y z v := by
  have eg := h.pp.ex g (Or.inl rfl)
  have eB := h.pp.ex B (Or.inr rfl)
  have c := set_ch g r (.int .u32 u) wr
  have hsz : (wr.setCell ⟨g, r, none⟩ (.int .u32 u)).heap.size = wr.heap.size := by simp [World.setCell]
  refine ⟨⟨K.keep h.pp.ha c.size (fun k hk => c.block k (K.lt h.pp.ha k hk) (fun e => eg.2.1 (e ▸ hk))), h.pp.ra.same c.size (fun k hk => c.block k (h.pp.ra.lt k hk) (fun e => eg.2.2.1 (e ▸ hk))), h.pp.ap, below_ch h.pp.bel c (fun k hk => by subst hk; exact h.own), h.pp.fF, h.pp.fD, fun k hk => ?_⟩, ?_, h.own, by rw [List.length_set]; exact h.l4, h.box.of (c.block B eB.1 (fun e => h.ne e.symm)), h.ne⟩
  · have e := h.pp.ex k hk
    exact ⟨by rw [hsz]; exact e.1, e.2.1, e.2.2.1, rfl⟩
  · unfold SW
    have hl := h.l4
    rw [List.length_set, hl]
    have e : (wrds L).set r (.int .u32 u) = wrds (L.set r u) := by unfold wrds; rw [List.map_set]
    rw [← e]
    have hr := h.row
    unfold SW at hr
    rw [hl] at hr
    exact (World.ownsRow.stored hr r (.int .u32 u)).1
theorem KeW.begin (K : HeapK HA) (h : KeV HA w0 wr p b g cap n H G F D L) (t : TypeId) : KeW HA w0 (wr.alloc (.cells #[.int .i64 x, .int .i64 y, .int .i64 z, .int .i64 v] t)) p b g cap wr.heap.size n H G F D L x y z v := by
  have c : Below wr.heap.size wr (wr.alloc (.cells #[.int .i64 x, .int .i64 y, .int .i64 z, .int .i64 v] t)) := (Below.refl _ _).alloc (Nat.le_refl _) _
  have eg := h.pp.ex g rfl
  refine ⟨(h.pp.keep K c).apart (fun k hk => ?_), sw_block h.row (c.block g eg.1), h.own, h.l4, ⟨by simp, by simp, by simp, by simp⟩, by have := eg.1; omega⟩
  rcases hk with rfl | rfl
  · exact ⟨Nat.lt_of_lt_of_le eg.1 c.size, eg.2.1, eg.2.2.1⟩
  · exact ⟨by simp, fun hF => by have := K.lt h.pp.ha _ hF; omega, fun hD => by have := h.pp.ra.lt _ hD; omega⟩
theorem KeW.drop (h : KeW HA w0 wr p b g cap B n H G F D L x y z v) : KeV HA w0 wr p b g cap n H G F D L :=
  ⟨h.pp.also (fun k hk => Or.inl hk), h.row, h.own, h.l4⟩
theorem KeV.keep (K : HeapK HA) (h : KeV HA w0 wr p b g cap n H G F D L) (c : Below wr.heap.size wr w1) : KeV HA w0 w1 p b g cap n H G F D L := by
  have eg := h.pp.ex g rfl
  exact ⟨(h.pp.keep K c).apart (fun k hk => by have := (h.pp.keep K c).ex k hk; exact ⟨this.1, this.2.1, this.2.2.1⟩), sw_block h.row (c.block g eg.1), h.own, h.l4⟩
theorem KeV.stepP (K : HeapK HA) (h : KeV HA w0 wr p b g cap n H G F D L) (l : Left HA wr w1 p n H' F F') : KeV HA w0 w1 p b g cap n H' G F' D L := by
  have q := h.pp.stepP K l
  have eg := q.ex g rfl
  exact ⟨q.apart (fun k hk => by have := q.ex k hk; exact ⟨this.1, this.2.1, this.2.2.1⟩), sw_block h.row eg.2.2.2, h.own, h.l4⟩
/-- what the row of roots tells -/
theorem KeW.root (h : KeW HA w0 wr p b g cap B n H G F D L x y z v) {r : Nat} {u : Int} (hu : L[r]? = some u) : wr.cell? ⟨g, r, none⟩ = some (.int .u32 u) := by
  have hr := h.row
  have hl := h.l4
  unfold SW at hr
  rw [hl] at hr
  exact wrow_cell hr hu
theorem KeV.root (h : KeV HA w0 wr p b g cap n H G F D L) {r : Nat} {u : Int} (hu : L[r]? = some u) : wr.cell? ⟨g, r, none⟩ = some (.int .u32 u) := by
  have hr := h.row
  have hl := h.l4
  unfold SW at hr
  rw [hl] at hr
  exact wrow_cell hr hu
end
end Wd
end Go.Proofs.YtdaojohdmidemaaGreat

/- HeapKeeps: the four roots are made. -/
namespace Go.Proofs.YtdaojohdmidemaaGreat
open Go.RowKit Go.Maps
set_option linter.unusedVariables false
set_option maxRecDepth 20000
namespace Wd
def nKp : Nat → Nat := fun s => if s = 0 then 30 else if s = 1 then 30 else if s = 2 then 10 else if s = 3 then 4 else if s = 4 then 2 else 0
theorem fo_3 : fo 3 = 1 := by decide
theorem alc_room {n : Nat → Nat} {H : Hst} (hi : HInv n H) {m : Nat} (hl : (H.M 1 0).length = m + 1) : alcB H 2 3 = true ∧ ((alcH H 2 3).M 1 0).length = m := by
  obtain ⟨i, R, hA⟩ : ∃ i R, H.M 1 0 = i :: R := by
    cases h : H.M 1 0 with
    | nil => rw [h] at hl; simp at hl
    | cons i R => exact ⟨i, R, rfl⟩
  have hb : alcB H 2 3 = true := by
    unfold alcB
    rw [fo_3]
    simp [hA]
  refine ⟨hb, ?_⟩
  obtain ⟨s, k, j, T, hs, hf, _, _, _, hM, _, _, _, _, _, hH⟩ := hi.alc_of hb
  have : s = 1 := by rw [fo_3] at hf; omega
  subst this
  rw [hH]
  show (upM H.M 1 (firstA (H.M 1) 0 1) 1 0).length = m
  unfold upM firstA
  rw [if_pos rfl, hM]
  simp [upA]
  rw [hM] at hl
  simpa using hl
/-- so many roots are made -/
structure KeL (HA : HAt) (w0 wr : World) (p b : Nat) (n : Nat → Nat) (H : Hst) (F D : Nat → Prop) (L : List Int) (S : Nat → Prop) (v : Value) (i : Nat) : Prop where
  pp : PP HA w0 wr p b n H H F D wr (fun k => v.ownBlock = some k)
  row : wr.ownsRow w0.heap.size 37 1 v i (wrds L)
  ll : L.length = i
  ok : ∀ x, x ∈ L → rootOk S x
  tri : Tri H
  kpt : Kpt H S
  fr : (H.M 1 0).length + i = 30
section
variable {HA : HAt} {w0 wr w1 w2 : World} {p b : Nat} {n : Nat → Nat} {H : Hst} {F F' D D' : Nat → Prop} {L : List Int} {S : Nat → Prop} {v v' : Value} {i : Nat}
theorem rows_same {v : Value} {k : Nat} {xs : List Value} (h : wr.ownsRow w0.heap.size 37 1 v k xs) (hb : ∀ g, v.ownBlock = some g → w1.heap[g]? = wr.heap[g]?) : w1.ownsRow w0.heap.size 37 1 v k xs := by
  obtain ⟨h1, h2⟩ := h
  refine ⟨h1, ?_⟩
  rcases h2 with hh | ⟨g, cap, cur, e1, e2, e3, e4⟩
  · exact Or.inl hh
  · exact Or.inr ⟨g, cap, cur, e1, e2, (hb g (by rw [e1]; rfl)).trans e3, e4⟩
/-- what an alloc of the four tells -/
theorem KeL.alc (K : HeapK HA) (h : KeL HA w0 wr p b n H F D L S v i) (hi4 : i < 4) : ∃ k : Nat, alcI H 2 3 = k ∧ 4 ≤ k ∧ k < 1024 ∧ Kpt (alcH H 2 3) (fun j => S j ∨ j = k) ∧ Tri (alcH H 2 3) ∧ ((alcH H 2 3).M 1 0).length + (i + 1) = 30 := by
  have hinv := K.inv h.pp.ha
  have hfr := h.fr
  obtain ⟨hb, hm⟩ := alc_room hinv (m := 29 - i) (by omega)
  rcases h.kpt.alc hinv with ⟨e, _⟩ | ⟨k, e, k4, k1, hk⟩
  · obtain ⟨s, k, j, T, _, _, _, _, _, _, _, _, _, _, hI, _⟩ := hinv.alc_of hb
    omega
  · exact ⟨k, e, k4, k1, hk, h.tri.alc hinv 2 3, by omega⟩
theorem KeL.next (K : HeapK HA) (h : KeL HA w0 wr p b n H F D L S v i) {H' : Hst} {k : Nat} (k4 : 4 ≤ k) (k1 : k < 1024) (hk : Kpt H' (fun j => S j ∨ j = k)) (ht : Tri H') (hf : (H'.M 1 0).length + (i + 1) = 30)
    {wA : World} (hP : PP HA w0 w1 p b n H' H F' D wr (fun k => v.ownBlock = some k)) {t : TypeId} {c : Array Value} (hA : wA = w1.alloc (.cells c t)) (hown : w2.ownsRow w0.heap.size 37 1 v' (i + 1) (wrds (L ++ [2 * (k : Int)]))) (hg : wA.grownBy w2 v.ownBlock) (hat : v'.ownBlock = v.ownBlock ∨ v'.ownBlock = some wA.heap.size) :
    PP HA w0 w2 p b n H' H F' D w2 (fun k => v'.ownBlock = some k) ∧ (∀ x, x ∈ L ++ [2 * (k : Int)] → rootOk (fun j => S j ∨ j = k) x) := by
  subst hA
  have b1 : Below w1.heap.size w1 (w1.alloc (.cells c t)) := (Below.refl _ _).alloc (Nat.le_refl _) _
  have hP2 := hP.keep K b1
  refine ⟨?_, fun x hx => ?_⟩
  · have hbl : ∀ j, j < (w1.alloc (.cells c t)).heap.size → v.ownBlock ≠ some j → w2.heap[j]? = (w1.alloc (.cells c t)).heap[j]? := fun j hj hne => hg.block j hj (fun e => hne e.symm)
    have hF := K.lt hP2.ha
    have hD := hP2.ra.lt
    refine ⟨K.keep hP2.ha hg.size (fun j hj => hbl j (hF j hj) (fun e => (hP2.ex j e).2.1 hj)), hP2.ra.same hg.size (fun j hj => hbl j (hD j hj) (fun e => (hP2.ex j e).2.2.1 hj)), hP2.ap, ?_, hP2.fF, hP2.fD, fun j hj => ?_⟩
    · refine ⟨hg.os.trans hP2.bel.os, hg.tape.trans hP2.bel.tape, hg.output.trans hP2.bel.output, Nat.le_trans hP2.bel.size hg.size, fun j hj => ?_⟩
      refine (hbl j (Nat.lt_of_lt_of_le hj hP2.bel.size) (fun e => ?_)).trans (hP2.bel.block j hj)
      have := (h.row.lt j e).1
      omega
    · have hlt := hown.lt j hj
      refine ⟨hlt.2, ?_, ?_, rfl⟩
      · rcases hat with e | e
        · rw [e] at hj; exact (hP2.ex j hj).2.1
        · rw [e] at hj; cases hj; intro hFj; have := hF _ hFj; omega
      · rcases hat with e | e
        · rw [e] at hj; exact (hP2.ex j hj).2.2.1
        · rw [e] at hj; cases hj; intro hDj; have := hD _ hDj; omega
  · rcases List.mem_append.1 hx with hx | hx
    · exact (h.ok x hx).mono (fun _ => Or.inl)
    · have : x = 2 * (k : Int) := by simpa using hx
      subst this
      exact rootOk.mk' k4 k1 (Or.inr rfl)
theorem KeL.fin (h : KeL HA w0 wr p b n H F D L S v 4) : ∃ g cap, v = .slice (some ⟨g, 0, none⟩) 4 cap ∧ KeV HA w0 wr p b g cap n H H F D L ∧ KeP n H L S := by
  rcases h.row.2 with ⟨_, h0⟩ | ⟨g, cap, cur, rfl, hg, hh, hle, hm, hs, ht⟩
  · omega
  · have hl := h.ll
    refine ⟨g, cap, rfl, ⟨h.pp.apart (fun k hk => by subst hk; have := h.pp.ex k rfl; exact ⟨this.1, this.2.1, this.2.2.1⟩), ?_, hg, h.ll⟩, ⟨h.ll, h.ok, h.tri, h.kpt⟩⟩
    unfold SW
    rw [hl]
    exact ⟨h.row.1, Or.inr ⟨g, cap, cur, rfl, Nat.zero_le _, hh, hle, hm, hs, ht⟩⟩
end
section
variable {HA : HAt} {w0 wr w1 : World} {p b g cap B : Nat} {n : Nat → Nat} {H G : Hst} {F D : Nat → Prop} {L : List Int} {S : Nat → Prop} {x y z v : Int}
theorem KeW.frz (h : KeW HA w0 wr p b g cap B n H G F D L x y z v) (r : Nat) : wr.frozen? ⟨g, r, none⟩ = false := by
  have hr := h.row
  unfold SW at hr
  rw [h.l4] at hr
  exact World.ownsRow.frozenAt hr r
theorem KeW.offF (h : KeW HA w0 wr p b g cap B n H G F D L x y z v) : ∀ k, (Value.slice (some ⟨g, 0, none⟩) 4 cap).ownBlock = some k → ¬ F k := fun k hk => by
  cases hk
  exact (h.pp.ex g (Or.inl rfl)).2.1
theorem KeW.offD (h : KeW HA w0 wr p b g cap B n H G F D L x y z v) : ∀ k, (Value.slice (some ⟨g, 0, none⟩) 4 cap).ownBlock = some k → ¬ D k := fun k hk => by
  cases hk
  exact (h.pp.ex g (Or.inl rfl)).2.2.1
theorem KeP.bds (h : KeP n H L S) : ∀ x, x ∈ L → 0 ≤ x ∧ x ≤ 4294967295 := fun x hx => by
  have := h.ok x hx
  exact ⟨by have := this.1; omega, this.2.1⟩
theorem KeW.drew (K : HeapK HA) (h : KeW HA w0 wr p b g cap B n H G F D L x y z v) : KeW HA w0 wr.drew p b g cap B n H G F D L x y z v := h.keep K ((Below.refl _ _).drew)
end
theorem tri_new (n : Nat → Nat) : Tri (newH n) := fun p hp hc x hx => by
  have : x ∈ ([] : List Int) := hx
  cases this
theorem kpt_new (n : Nat → Nat) : Kpt (newH n) (fun _ => False) := ⟨fun k hk => hk.elim⟩
end Wd
end Go.Proofs.YtdaojohdmidemaaGreat
