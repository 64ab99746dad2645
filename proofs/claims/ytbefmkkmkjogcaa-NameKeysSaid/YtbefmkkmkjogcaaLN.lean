/- The landed table of names, as it lies; Len, New. -/
import Derived.Test.YtbefmkkmkjogcaaLX
import Derived.Test.YtbefmkkmkjogcaaLT
import Derived.Test.YtbefmkkmkjogcaaLM
import Derived.Deep.AppendLies
namespace Go.Proofs.Ytbefmkkmkjogcaa
open Go.RowKit Go.Maps
set_option linter.unusedVariables false
set_option maxRecDepth 20000
namespace Wd
/-- keys, cell by cell -/
def kcl : List ByteArray → List Value
  | [] => []
  | b :: l => (kcs b).toList ++ kcl l
theorem kcs_len (b : ByteArray) : (kcs b).toList.length = 16 := rfl
theorem kcl_app : ∀ A B, kcl (A ++ B) = kcl A ++ kcl B
  | [], _ => rfl
  | t :: A, B => by simp only [List.cons_append, kcl, kcl_app A B, List.append_assoc]
theorem kcl_len : ∀ A, (kcl A).length = A.length * 16
  | [] => rfl
  | t :: A => by simp only [kcl, List.length_append, List.length_cons, kcl_len A, kcs_len]; omega
theorem kcl_get : ∀ (T : List ByteArray) (k j : Nat) t, T[k]? = some t → j < 16 → (kcl T)[k * 16 + j]? = (kcs t).toList[j]?
  | [], k, j, t, h, _ => by simp at h
  | s :: T, 0, j, t, h, hj => by
    simp at h; subst h
    rw [kcl, List.getElem?_append, if_pos (by rw [kcs_len]; omega)]
    congr 1; omega
  | s :: T, k + 1, j, t, h, hj => by
    have := kcl_get T k j t (by simpa using h) hj
    rw [kcl, List.getElem?_append, if_neg (by rw [kcs_len]; omega), kcs_len, show (k + 1) * 16 + j - 16 = k * 16 + j by omega]
    exact this
theorem kcs_one (b : ByteArray) : ∀ u ∈ (kcs b).toList, u.oneCell' = true := by
  intro u hu
  obtain ⟨j, hj⟩ := List.getElem?_of_mem hu
  have hj16 : j < 16 := (List.getElem?_eq_some_iff.1 hj).1
  have e : (kcs b).toList = (List.range 16).map fun j => Value.int .u8 (kn b j) := rfl
  rw [e, List.getElem?_map, List.getElem?_range hj16] at hj
  cases hj; rfl
theorem kcl_one : ∀ (T : List ByteArray) u, u ∈ kcl T → u.oneCell' = true
  | [], u, h => by cases h
  | t :: T, u, h => by
    simp only [kcl, List.mem_append] at h
    rcases h with h | h
    · exact kcs_one t u h
    · exact kcl_one T u h
theorem info_parts2 {P : Program} {t : TypeId} {z : Value} {s b : Nat} (h : (P.info? t).map (fun i => (i.zero, i.size, i.bytes)) = some (some z, s, b)) : ∃ i, P.info? t = some i ∧ i.zero = some z ∧ i.size = s ∧ i.bytes = b := by
  cases hi : P.info? t with
  | none => rw [hi] at h; cases h
  | some i =>
    rw [hi] at h
    simp only [Option.map_some, Option.some.injEq, Prod.mk.injEq] at h
    exact ⟨i, rfl, h.1, h.2.1, h.2.2⟩
theorem infoKy : (Try.prog.info? 33).map (fun i => (i.zero, i.size, i.bytes)) = some (some (.agg zcs), 16, 16) := by kernel_rfl
/-- which number a key has -/
def numM (l : List ByteArray) : List UInt8 → Option Int := fun q => (posR l ⟨q.toArray⟩).map (fun k => ((k : Nat) : Int))
theorem numM_of (l : List ByteArray) (b : ByteArray) : numM l b.data.toList = (posR l b).map (fun k => ((k : Nat) : Int)) := rfl
theorem numM_nil : numM [] = fun _ => none := rfl
/-- the landed table at block p, its map at block m, its keys in the row v -/
structure NP (w : World) (p m : Nat) (v : Value) (l : List ByteArray) : Prop where
  c0 : w.cell? ⟨p, 0, none⟩ = some v
  c1 : w.cell? ⟨p, 1, none⟩ = some (.map (some m))
  z : ∀ k, w.frozen? ⟨p, k, none⟩ = false
  own : w.ownsRow 0 33 16 v l.length (kcl l)
  mp : MapK w m l.length (numM l)
  mnp : m ≠ p
  vnp : ∀ k, v.ownBlock = some k → k ≠ p
  vnm : ∀ k, v.ownBlock = some k → k ≠ m
  rt : ∀ b ∈ l, 0 ≤ argsR b
  nd : l.Nodup
  le : l.length ≤ 48
def FN (p m : Nat) (v : Value) : Nat → Prop := fun k => k = p ∨ k = m ∨ v.ownBlock = some k
def NA (w : World) (p : Nat) (l : List ByteArray) (F : Nat → Prop) : Prop := ∃ m v, NP w p m v l ∧ F = FN p m v
theorem row_same {w w1 : World} {base size n : Nat} {e : TypeId} {v : Value} {xs : List Value} (h : w.ownsRow base e size v n xs) (hb : ∀ k, v.ownBlock = some k → w1.heap[k]? = w.heap[k]?) : w1.ownsRow base e size v n xs := by
  refine ⟨h.1, ?_⟩
  rcases h.2 with h0 | ⟨g, cap, cur, rfl, h1, h2, h3⟩
  · exact Or.inl h0
  · exact Or.inr ⟨g, cap, cur, rfl, h1, (hb g rfl).trans h2, h3⟩
section
variable {w w1 : World} {p m : Nat} {v : Value} {l : List ByteArray} {F : Nat → Prop}
theorem NP.lt (h : NP w p m v l) : ∀ k, FN p m v k → k < w.heap.size := by
  rintro k (rfl | rfl | hk)
  · exact World.block_lt_of_cell? w _ h.c0
  · exact h.mp.lt
  · exact (h.own.lt k hk).2
theorem NP.same (h : NP w p m v l) (hb : ∀ k, FN p m v k → w1.heap[k]? = w.heap[k]?) : NP w1 p m v l :=
  ⟨(World.cell?_of_block (a := ⟨p, 0, none⟩) (hb p (Or.inl rfl))).trans h.c0, (World.cell?_of_block (a := ⟨p, 1, none⟩) (hb p (Or.inl rfl))).trans h.c1, fun k => (World.frozen?_of_block (a := ⟨p, k, none⟩) (hb p (Or.inl rfl))).trans (h.z k),
   row_same h.own (fun k hk => hb k (Or.inr (Or.inr hk))), h.mp.same (hb m (Or.inr (Or.inl rfl))), h.mnp, h.vnp, h.vnm, h.rt, h.nd, h.le⟩
theorem NP.keep (h : NP w p m v l) (g : Below w.heap.size w w1) : NP w1 p m v l := h.same (fun k hk => g.block k (h.lt k hk))
theorem NP.form (h : NP w p m v l) : ∃ a c, v = .slice a l.length c := by
  rcases h.own.2 with ⟨rfl, h0⟩ | ⟨g, cap, cur, rfl, _⟩
  · exact ⟨none, 0, by rw [h0]⟩
  · exact ⟨_, cap, rfl⟩
/-- the key at i -/
theorem NP.key (h : NP w p m v l) {k : Nat} {b : ByteArray} (hb : l[k]? = some b) : ∃ g c, v = .slice (some ⟨g, 0, none⟩) l.length c ∧ ∀ j, j < 16 → w.cell? ⟨g, k * 16 + j, none⟩ = (kcs b).toList[j]? := by
  have hk := (List.getElem?_eq_some_iff.1 hb).1
  rcases h.own.2 with ⟨rfl, h0⟩ | ⟨g, cap, cur, rfl, _⟩
  · omega
  · exact ⟨g, cap, rfl, fun j hj => (h.own.cellAt (k * 16 + j) (by omega)).trans (kcl_get l k j b hb hj)⟩
theorem klen_c (h : NP w p m v l) : Calls Try.prog 18 #[.pointer (some ⟨p, 0, none⟩)] w fun e w' => e = .returned (.int .i64 (l.length : Nat)) ∧ w' = w := by
  obtain ⟨a, c, rfl⟩ := h.form
  have c0 := h.c0
  generalize l.length = n at *
  clear h
  go_enter Try.func18, Try.ntmps18
  go_wp2
  go_ret
  exact ⟨rfl, rfl⟩
theorem knew_c (w : World) : Calls Try.prog 11 #[] w fun e w' => ∃ p F, e = .returned (.pointer (some ⟨p, 0, none⟩)) ∧ NA w' p [] F ∧ (∀ k, F k → w.heap.size ≤ k) ∧ Below w.heap.size w w' := by
  have hp := heap_alloc_new (w.alloc (.map #[] 0)) (.cells #[.slice none 0 0, .map (some w.heap.size)] 43)
  have hm : ((w.alloc (.map #[] 0)).alloc (.cells #[.slice none 0 0, .map (some w.heap.size)] 43)).heap[w.heap.size]? = (w.alloc (.map #[] 0)).heap[w.heap.size]? := Below.heap_alloc _ _ _ (by simp)
  have h1 : NP ((w.alloc (.map #[] 0)).alloc (.cells #[.slice none 0 0, .map (some w.heap.size)] 43)) (w.heap.size + 1) w.heap.size (.slice none 0 0) [] := by
    have hM := (MapK.made w).same hm
    have hz : (w.alloc (.map #[] 0)).heap.size = w.heap.size + 1 := by simp
    rw [hz] at hp
    clear hm
    generalize (w.alloc (.map #[] 0)).alloc (.cells #[.slice none 0 0, .map (some w.heap.size)] 43) = W at *
    exact ⟨by simp [World.cell?, hp], by simp [World.cell?, hp], fun k => by simp [World.frozen?, hp], World.ownsRow_nil _ _ _ _, hM, by omega, fun k hk => (by cases hk), fun k hk => (by cases hk), by simp, by simp, by simp⟩
  clear hp hm
  have hB : Hid (Below w.heap.size w ((w.alloc (.map #[] 0)).alloc (.cells #[.slice none 0 0, .map (some w.heap.size)] 43))) := Lib.hid (((Below.refl _ _).alloc (Nat.le_refl _) _).alloc (by simp) _)
  replace h1 := Lib.hid h1
  have hmm := @run_makeMap Try.prog
  go_enter Try.func11, Try.ntmps11
  go_wp2
  go_ret
  exact ⟨_, _, rfl, ⟨_, _, h1.out, rfl⟩, fun k hk => (by rcases hk with rfl | rfl | hk <;> first | omega | cases hk), hB.out⟩
end
end Wd
end Go.Proofs.Ytbefmkkmkjogcaa
