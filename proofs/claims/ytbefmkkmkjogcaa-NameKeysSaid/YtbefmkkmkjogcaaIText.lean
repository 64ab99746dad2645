/- Keys as rows of bytes; text: the law's walk over what it asks of the package. -/
import Derived.Test.YtbefmkkmkjogcaaIKcs
import Derived.Laws.CopyRow
import Derived.Deep.MidRow
import Derived.Laws.IdiomCopy
import Derived.Laws.IdiomStrings
import Derived.Laws.BytesString
namespace Go.Proofs.Ytbefmkkmkjogcaa
open Go.RowKit
set_option linter.unusedVariables false
set_option maxRecDepth 20000
namespace Wd
/-- the byte at j; behind them: 0 -/
def kz (L : List UInt8) (j : Nat) : Int := ((L[j]?.getD 0).toNat : Nat)
def keyA (L : List UInt8) : Array Value := #[.int .u8 (kz L 0), .int .u8 (kz L 1), .int .u8 (kz L 2), .int .u8 (kz L 3), .int .u8 (kz L 4), .int .u8 (kz L 5), .int .u8 (kz L 6), .int .u8 (kz L 7), .int .u8 (kz L 8), .int .u8 (kz L 9), .int .u8 (kz L 10), .int .u8 (kz L 11), .int .u8 (kz L 12), .int .u8 (kz L 13), .int .u8 (kz L 14), .int .u8 (kz L 15)]
theorem kcs_key (b : ByteArray) : kcs b = keyA b.data.toList := rfl
theorem keyA_take (L : List UInt8) : keyA L = keyA (L.take 16) := by
  have e : ∀ j, j < 16 → kz L j = kz (L.take 16) j := fun j hj => by unfold kz; rw [List.getElem?_take, if_pos hj]
  unfold keyA
  rw [e 0 (by omega), e 1 (by omega), e 2 (by omega), e 3 (by omega), e 4 (by omega), e 5 (by omega), e 6 (by omega), e 7 (by omega), e 8 (by omega), e 9 (by omega), e 10 (by omega), e 11 (by omega), e 12 (by omega), e 13 (by omega), e 14 (by omega), e 15 (by omega)]
theorem keyA_nil : keyA [] = zcs := rfl
/-- the bytes ahead of the first nought -/
def textL (L : List UInt8) : List UInt8 := (L.take 16).takeWhile (· != 0)
def textK (L : List UInt8) : ByteArray := ⟨(textL L).toArray⟩
structure TexK : Prop where
  text : ∀ (L : List UInt8) (w : World), Calls Try.prog 16 #[.agg (keyA L)] w fun e w' => e = .returned (.string (textK L)) ∧ Below w.heap.size w w'
/-- bytes that came in -/
def BytV (w : World) (ad : Option Addr) (n : Nat) (L : List UInt8) : Prop := n = L.length ∧ ∀ k x, L[k]? = some x → ∃ g off, ad = some ⟨g, off, none⟩ ∧ w.cell? ⟨g, off + k, none⟩ = some (.int .u8 (x.toNat : Int))
theorem BytV.up {w w' : World} {ad : Option Addr} {n : Nat} {L : List UInt8} (h : BytV w ad n L) (hb : ∀ (g : Nat) v o, w.cell? ⟨g, o, none⟩ = some v → w'.cell? ⟨g, o, none⟩ = some v) : BytV w' ad n L := by
  refine ⟨h.1, fun k x hx => ?_⟩
  obtain ⟨g, off, e, c⟩ := h.2 k x hx
  exact ⟨g, off, e, hb _ _ _ c⟩
theorem copy_bytes {w : World} {ad : Option Addr} {n cap : Nat} {L : List UInt8} (h : BytV w ad n L) (g : Nat) (hg : g = w.heap.size) :
    (Builtin.copy_ #[22, 22] 3 #[.slice (some ⟨g, 0, none⟩) 16 16, .slice ad n cap]).run Try.prog (w.alloc (.cells zcs 33)) = .ok (goInt (Nat.min n 16)) (w.alloc (.cells (keyA L) 33)) := by
  subst hg
  obtain ⟨rfl, hc⟩ := h
  by_cases h0 : L.length = 0
  · have e : L = [] := List.length_eq_zero_iff.1 h0
    subst e
    rw [run_copy_none (P := Try.prog) _ 22 22 3 5 _ _ _ _ _ _ rfl rfl rfl]
    rfl
  · obtain ⟨x, hx⟩ : ∃ x, L[0]? = some x := ⟨L[0]'(by omega), by simp⟩
    obtain ⟨g', off, rfl, _⟩ := hc 0 x hx
    have hlen : (Lib.byteCells (L.take 16)).length = Nat.min L.length 16 := by rw [Lib.byteCells_length, List.length_take]; exact Nat.min_comm _ _
    have hr := run_copy_row (P := Try.prog) (w.alloc (.cells zcs 33)) 22 22 3 5 w.heap.size 0 16 16 ⟨g', off, none⟩ L.length cap zcs 33 (Lib.byteCells (L.take 16)) rfl rfl (heap_alloc_new _ _) hlen (fun j v hv => by
      have hj : j < (L.take 16).length := by
        have := (List.getElem?_eq_some_iff.1 hv).1
        rwa [Lib.byteCells_length] at this
      have hj' : j < L.length := by rw [List.length_take] at hj; omega
      obtain ⟨g2, off2, e2, c2⟩ := hc j (L[j]) (by simp)
      cases e2
      have hv2 : v = .int .u8 ((L[j]).toNat : Int) := by
        simp only [Lib.byteCells, List.getElem?_map] at hv
        rw [List.getElem?_take, if_pos (by rw [List.length_take] at hj; omega), List.getElem?_eq_getElem hj'] at hv
        simpa using hv.symm
      rw [Addr.add_mid, hv2]
      exact (World.cell?_alloc_old _ _ _ (Nat.ne_of_lt (World.block_lt_of_cell? _ _ c2))).trans c2) (by rw [hlen]; show 0 + min L.length 16 ≤ 16; omega) (Lib.byteCells_one _)
    have hk := kcs_list ⟨(L.take 16).toArray⟩ (by show (L.take 16).toArray.size ≤ 16; simp; omega)
    have e1 : (⟨(L.take 16).toArray⟩ : ByteArray).data.toList = L.take 16 := by simp
    have e2 : (⟨(L.take 16).toArray⟩ : ByteArray).size = (Lib.byteCells (L.take 16)).length := by rw [Lib.byteCells_length]; exact List.size_toArray
    rw [kcs_key, e1, e2, ← keyA_take] at hk
    rw [hr, hk, World.setRow_alloc_new, hlen]
theorem key_cells {w : World} {g : Nat} {t : TypeId} {L : List UInt8} (h : w.heap[g]? = some (.cells (keyA L) t (0, 0))) : w.cell? ⟨g, 0, none⟩ = some (.int .u8 (kz L 0)) ∧ w.cell? ⟨g, 1, none⟩ = some (.int .u8 (kz L 1)) ∧ w.cell? ⟨g, 2, none⟩ = some (.int .u8 (kz L 2)) ∧ w.cell? ⟨g, 3, none⟩ = some (.int .u8 (kz L 3)) ∧ w.cell? ⟨g, 4, none⟩ = some (.int .u8 (kz L 4)) ∧ w.cell? ⟨g, 5, none⟩ = some (.int .u8 (kz L 5)) ∧ w.cell? ⟨g, 6, none⟩ = some (.int .u8 (kz L 6)) ∧ w.cell? ⟨g, 7, none⟩ = some (.int .u8 (kz L 7)) ∧ w.cell? ⟨g, 8, none⟩ = some (.int .u8 (kz L 8)) ∧ w.cell? ⟨g, 9, none⟩ = some (.int .u8 (kz L 9)) ∧ w.cell? ⟨g, 10, none⟩ = some (.int .u8 (kz L 10)) ∧ w.cell? ⟨g, 11, none⟩ = some (.int .u8 (kz L 11)) ∧ w.cell? ⟨g, 12, none⟩ = some (.int .u8 (kz L 12)) ∧ w.cell? ⟨g, 13, none⟩ = some (.int .u8 (kz L 13)) ∧ w.cell? ⟨g, 14, none⟩ = some (.int .u8 (kz L 14)) ∧ w.cell? ⟨g, 15, none⟩ = some (.int .u8 (kz L 15)) := by
  refine ⟨?_, ?_, ?_, ?_, ?_, ?_, ?_, ?_, ?_, ?_, ?_, ?_, ?_, ?_, ?_, ?_⟩ <;> simp [World.cell?, h, keyA]
theorem key_cell {w : World} {g : Nat} {t : TypeId} {L : List UInt8} (h : w.heap[g]? = some (.cells (keyA L) t (0, 0))) {i : Nat} (hi : i < 16) : w.cell? ⟨g, i, none⟩ = some (.int .u8 (kz L i)) := by
  obtain ⟨a0, a1, a2, a3, a4, a5, a6, a7, a8, a9, a10, a11, a12, a13, a14, a15⟩ := key_cells h
  rcases (show i = 0 ∨ i = 1 ∨ i = 2 ∨ i = 3 ∨ i = 4 ∨ i = 5 ∨ i = 6 ∨ i = 7 ∨ i = 8 ∨ i = 9 ∨ i = 10 ∨ i = 11 ∨ i = 12 ∨ i = 13 ∨ i = 14 ∨ i = 15 by omega) with rfl | rfl | rfl | rfl | rfl | rfl | rfl | rfl | rfl | rfl | rfl | rfl | rfl | rfl | rfl | rfl <;> assumption
theorem kz_bd (L : List UInt8) (i : Nat) : 0 ≤ kz L i ∧ kz L i < 256 := by
  unfold kz
  have := (L[i]?.getD 0).toNat_lt
  omega
/-- so far: none of them is a nought -/
structure TxR (L : List UInt8) (i : Nat) : Prop where
  ok : ∀ x ∈ (L.take 16).take i, (x != 0) = true
  le : i ≤ (L.take 16).length
def preB (L : List UInt8) (i : Nat) : ByteArray := ⟨((L.take 16).take i).toArray⟩
theorem TxR.start (L : List UInt8) : TxR L 0 := ⟨by simp, by omega⟩
theorem kz_zero {L : List UInt8} {i : Nat} (h : kz L i = 0) : L[i]?.getD 0 = 0 := by
  unfold kz at h
  have h' : (L[i]?.getD 0).toNat = 0 := by omega
  exact UInt8.toNat_inj.1 h'
theorem TxR.at {L : List UInt8} {i : Nat} (h16 : i < 16) (h : kz L i ≠ 0) : ∃ x, (L.take 16)[i]? = some x ∧ (x != 0) = true ∧ kz L i = (x.toNat : Nat) := by
  cases hx : L[i]? with
  | none => exact absurd (by unfold kz; rw [hx]; rfl) h
  | some x =>
    refine ⟨x, by rw [List.getElem?_take, if_pos h16]; exact hx, ?_, by unfold kz; rw [hx]; rfl⟩
    rw [bne_iff_ne]
    intro e
    apply h
    unfold kz
    rw [hx, e]; rfl
theorem TxR.step {L : List UInt8} {i : Nat} {x : UInt8} (h : TxR L i) (hx : (L.take 16)[i]? = some x) (hn : (x != 0) = true) : TxR L (i + 1) := by
  refine ⟨fun y hy => ?_, (List.getElem?_eq_some_iff.1 hx).1⟩
  rw [List.take_add_one, hx] at hy
  rcases List.mem_append.1 hy with hy | hy
  · exact h.ok y hy
  · have e : y = x := by simpa using hy
    rw [e]; exact hn
theorem takeWhile_at {α : Type} (p : α → Bool) : ∀ (L : List α) (i : Nat), (∀ x ∈ L.take i, p x = true) → (∀ x, L[i]? = some x → p x = false) → L.takeWhile p = L.take i
  | [], i, _, _ => by simp
  | a :: L, 0, _, h2 => by
    have := h2 a rfl
    simp [List.takeWhile, this]
  | a :: L, i + 1, h1, h2 => by
    have ha := h1 a (by simp)
    rw [List.takeWhile_cons, if_pos ha, List.take_succ_cons, takeWhile_at p L i (fun x hx => h1 x (by simp [hx])) (fun x hx => h2 x (by simpa using hx))]
theorem TxR.last {L : List UInt8} {i : Nat} (h : TxR L i) (hs : ¬ (i < 16 ∧ kz L i ≠ 0)) : textK L = preB L i := by
  unfold textK preB textL
  rw [takeWhile_at _ _ i h.ok]
  intro x hx
  by_cases h16 : i < 16
  · have hz : kz L i = 0 := Classical.not_not.1 (fun hn => hs ⟨h16, hn⟩)
    rw [List.getElem?_take, if_pos h16] at hx
    have := kz_zero hz
    rw [hx] at this
    simp at this
    simp [this]
  · rw [List.getElem?_take, if_neg h16] at hx; cases hx
theorem preB_step {L : List UInt8} {i : Nat} {x : UInt8} (hx : (L.take 16)[i]? = some x) : preB L i ++ ⟨#[x]⟩ = preB L (i + 1) := by
  unfold preB
  generalize L.take 16 = M at *
  rw [List.take_add_one, hx]
  apply ByteArray.ext
  simp
theorem preB_size (L : List UInt8) (i : Nat) : (preB L i).size ≤ 16 := by
  show ((L.take 16).take i).toArray.size ≤ 16
  simp; omega
theorem preB_zero (L : List UInt8) : preB L 0 = ⟨#[]⟩ := rfl
theorem conv_one (x : UInt8) (a : Addr) (cap : Nat) (w : World) (h : w.cell? a = some (.int .u8 (x.toNat : Int))) (ha : a.add 0 = a) : (convert 22 9 (.slice (some a) 1 cap)).run Try.prog w = .ok (.string ⟨#[x]⟩) w := by
  have := run_convert_bytes_back (P := Try.prog) w 22 9 5 a cap [x] rfl rfl rfl (fun j hj => by
    have : j = 0 := by simpa using hj
    subst this
    rw [ha]; exact h)
  exact this
set_option maxHeartbeats 4000000 in
theorem text_any (K : TexK) {w : World} {ad : Option Addr} {n cap : Nat} {L : List UInt8} (h : BytV w ad n L) :
    Calls Try.prog 8 #[.slice ad n cap] w fun e w' => e = .returned (.bool true) ∧ Below w.heap.size w w' := by
  have PT := Lib.hid (K.text L)
  have hcp := copy_bytes (cap := cap) h w.heap.size rfl
  unfold zcs at hcp
  go_enter Try.func8, Try.ntmps8
  go_upto_region 3 with fail
  have hk0 := heap_alloc_new w (.cells (keyA L) 33)
  have hB0 := (Below.refl w.heap.size w).alloc (Nat.le_refl _) (.cells (keyA L) 33)
  replace hk0 := Lib.hid hk0
  replace hB0 := Lib.hid hB0
  have hst := Lib.hid (TxR.start L)
  clear hcp h
  generalize w.alloc (.cells (keyA L) 33) = W at *
  obtain ⟨g, hg⟩ : ∃ g, w.heap.size = g := ⟨_, rfl⟩
  rw [hg] at hk0 hB0 ⊢
  go_wp2
  go_loopw [4, 5] (fun i4 i5 wr => ∃ i : Nat, i ≤ 16 ∧ i5 = .int .i64 i ∧ i4 = .string (preB L i) ∧ Hid (TxR L i) ∧ Hid (wr.heap[g]? = some (.cells (keyA L) 33 (0, 0))) ∧ Hid (Below g w wr)) (fun _ i5 _ => 16 - (intOf i5).toNat)
  case atStart => exact ⟨0, by omega, rfl, rfl, hst, hk0, hB0⟩
  case round =>
    clear hk0 hB0 hst
    obtain ⟨i, hi, rfl, rfl, hT, hk, hB⟩ := hrel
    have hgl := Lib.hid (Array.getElem?_eq_some_iff.1 hk.out).1
    by_cases h1 : i < 16 ∧ kz L i ≠ 0
    · obtain ⟨h16, hz⟩ := h1
      obtain ⟨x, hx, hn, hxe⟩ := TxR.at h16 hz
      have p1 : decide ((i : Int) < 16) = true := by simp; omega
      have p2 : (0 : Int) ≤ (i : Int) := by omega
      have p3 : (i : Int) < 16 := by omega
      have c1 := key_cell hk.out h16
      rw [hxe] at c1 hz
      have hx0 : ((x.toNat : Int) != 0) = true := by simpa using hz
      have hx1 : ((x.toNat : Int) == 0) = false := by simpa using hz
      have hx2 : ¬ ((x.toNat : Int) = 0) := hz
      have hbx : (0 : Int) ≤ (x.toNat : Int) ∧ (x.toNat : Int) < 256 := by have := x.toNat_lt; omega
      have hcv := conv_one x ⟨wr.heap.size, 0, none⟩ 1 (wr.alloc (.cells #[.int .u8 (x.toNat : Int)] 5)) ((World.cell?_alloc_new _ _ _ 0).trans rfl) rfl
      have hT' := Lib.hid (hT.out.step hx hn)
      have hpe := Lib.hid (preB_step hx)
      have hk' := Lib.hid ((Below.heap_alloc wr (.cells #[.int .u8 (x.toNat : Int)] 5) _ hgl.out).trans hk.out)
      have hB' := Lib.hid (hB.out.alloc (by have := hB.out.size; have := hg; omega) (.cells #[.int .u8 (x.toNat : Int)] 5))
      have hps : ¬ 9223372036854775807 < (preB L i).size + 1 := by have := preB_size L i; omega
      clear hz hx hn hxe
      generalize (x.toNat : Int) = y at *
      go_wp2
      go_roundw
      case rel => exact ⟨i + 1, by omega, by go_num, by rw [hpe.out], hT', hk', hB'⟩
      case measure => simp [intOf]; omega
    · have he := Lib.hid (hT.out.last h1)
      have hPT := PT.out
      rw [he.out] at hPT
      replace hPT := Lib.hid hPT
      unfold keyA at hPT
      clear PT
      generalize preB L i = b at *
      obtain ⟨a0, a1, a2, a3, a4, a5, a6, a7, a8, a9, a10, a11, a12, a13, a14, a15⟩ := key_cells hk.out
      by_cases h16 : i < 16
      · have p1 : decide ((i : Int) < 16) = true := by simp; omega
        have p2 : (0 : Int) ≤ (i : Int) := by omega
        have p3 : (i : Int) < 16 := by omega
        have c1 := key_cell hk.out h16
        have hz : kz L i = 0 := Classical.not_not.1 (fun hn => h1 ⟨h16, hn⟩)
        rw [hz] at c1
        clear hz h1 he
        go_wp2_with (first | (go_at_call 16; ((with_reducible refine (hPT.out _).mono ?_); rintro e1 w2 ⟨rfl, hB2⟩)))
        go_ret
        exact ⟨by simp, by rw [hg]; exact hB.out.trans (hB2.mono (by have := hB.out.size; omega))⟩
      · have p1 : decide ((i : Int) < 16) = false := by simp; omega
        clear h1 he
        go_wp2_with (first | (go_at_call 16; ((with_reducible refine (hPT.out _).mono ?_); rintro e1 w2 ⟨rfl, hB2⟩)))
        go_ret
        exact ⟨by simp, by rw [hg]; exact hB.out.trans (hB2.mono (by have := hB.out.size; omega))⟩
end Wd
end Go.Proofs.Ytbefmkkmkjogcaa
