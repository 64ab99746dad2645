/- NameNumbers: what its parts make. -/
import Derived.Test.YtbefmkkmkjogcaaITells
import Derived.Laws.IdiomStrings
namespace Go.Proofs.Ytbefmkkmkjogcaa
open Go.RowKit
set_option linter.unusedVariables false
set_option maxRecDepth 20000
namespace Wd
theorem conv_u8 (c : Nat) (hc : c < 256) (w : World) : Sem.run Try.prog (convert 3 5 (.int .i64 (c : Int))) w = .ok (.int .u8 (c : Int)) w := by
  have h1 : Try.prog.underlying 3 = some (.int .i64) := rfl
  have h2 : Try.prog.underlying 5 = some (.int .u8) := rfl
  have h3 : IntKind.u8.wrap (c : Int) = (c : Int) := by simp [IntKind.wrap, IntKind.bits, IntKind.signed]; omega
  simp [convert, run_underlying h1, run_underlying h2, Conv.intToInt, h3]
theorem conv_i26 (q : Nat) (hq : q < 26) (w : World) : Sem.run Try.prog (convert 3 21 (.int .i64 (97 + (q : Int)))) w = .ok (.int .i32 (97 + (q : Int))) w := by
  rcases (show q = 0 ∨ q = 1 ∨ q = 2 ∨ q = 3 ∨ q = 4 ∨ q = 5 ∨ q = 6 ∨ q = 7 ∨ q = 8 ∨ q = 9 ∨ q = 10 ∨ q = 11 ∨ q = 12 ∨ q = 13 ∨ q = 14 ∨ q = 15 ∨ q = 16 ∨ q = 17 ∨ q = 18 ∨ q = 19 ∨ q = 20 ∨ q = 21 ∨ q = 22 ∨ q = 23 ∨ q = 24 ∨ q = 25 by omega) with rfl | rfl | rfl | rfl | rfl | rfl | rfl | rfl | rfl | rfl | rfl | rfl | rfl | rfl | rfl | rfl | rfl | rfl | rfl | rfl | rfl | rfl | rfl | rfl | rfl | rfl <;> kernel_rfl
def rName (q : Nat) : ByteArray := ⟨#[UInt8.ofNat (97 + q)]⟩
theorem conv_s26 (q : Nat) (hq : q < 26) (w : World) : Sem.run Try.prog (convert 21 9 (.int .i32 (97 + (q : Int)))) w = .ok (.string (rName q)) w := by
  rcases (show q = 0 ∨ q = 1 ∨ q = 2 ∨ q = 3 ∨ q = 4 ∨ q = 5 ∨ q = 6 ∨ q = 7 ∨ q = 8 ∨ q = 9 ∨ q = 10 ∨ q = 11 ∨ q = 12 ∨ q = 13 ∨ q = 14 ∨ q = 15 ∨ q = 16 ∨ q = 17 ∨ q = 18 ∨ q = 19 ∨ q = 20 ∨ q = 21 ∨ q = 22 ∨ q = 23 ∨ q = 24 ∨ q = 25 by omega) with rfl | rfl | rfl | rfl | rfl | rfl | rfl | rfl | rfl | rfl | rfl | rfl | rfl | rfl | rfl | rfl | rfl | rfl | rfl | rfl | rfl | rfl | rfl | rfl | rfl | rfl <;> kernel_rfl
theorem str8 (w : World) (a b c d e f h i : ByteArray) (g : Nat) (hg : g = w.heap.size) : StrV (w.alloc (.cells #[.string a, .string b, .string c, .string d, .string e, .string f, .string h, .string i] 9)) (some ⟨g, 0, none⟩) 8 (fun k => [a, b, c, d, e, f, h, i].getD k ⟨#[]⟩) := by
  subst hg
  intro k hk
  refine ⟨_, _, rfl, ?_⟩
  rcases (show k = 0 ∨ k = 1 ∨ k = 2 ∨ k = 3 ∨ k = 4 ∨ k = 5 ∨ k = 6 ∨ k = 7 by omega) with rfl | rfl | rfl | rfl | rfl | rfl | rfl | rfl <;> simp
theorem byt3 (w : World) (c : Nat) (hc : c < 256) (g : Nat) (hg : g = w.heap.size) : BytV (w.alloc (.cells #[.int .u8 97, .int .u8 (c : Int), .int .u8 98] 5)) (some ⟨g, 0, none⟩) 3 [97, UInt8.ofNat c, 98] := by
  subst hg
  refine ⟨rfl, fun k x hk => ⟨_, _, rfl, ?_⟩⟩
  have hk3 : k < 3 := (List.getElem?_eq_some_iff.1 hk).1
  have hn : (UInt8.ofNat c).toNat = c := by simp; omega
  rcases (show k = 0 ∨ k = 1 ∨ k = 2 by omega) with rfl | rfl | rfl <;> (cases hk; simp) 
  all_goals omega
theorem bytS (w : World) (s : ByteArray) (cap g : Nat) (hg : g = w.drew.heap.size) (fz : Nat × Nat) : BytV (w.drew.alloc (.cells (bytesRow s cap) 5 fz)) (some ⟨g, 0, none⟩) s.size s.data.toList := by
  subst hg
  refine ⟨Array.length_toList.symm, fun k x hk => ⟨_, _, rfl, ?_⟩⟩
  have h : (w.drew.alloc (.cells (bytesRow s cap) 5 fz)).heap[w.drew.heap.size]? = some (.cells (bytesRow s cap) 5 fz) := heap_alloc_last _ _
  obtain ⟨hk1, hk2⟩ := List.getElem?_eq_some_iff.1 hk
  have hk3 : k < s.data.size := by rw [Array.length_toList] at hk1; exact hk1
  have hb := bytesRow_at s cap k hk3
  have hx : s.data[k] = x := by rw [← hk2]; simp
  rw [hx] at hb
  unfold World.cell?
  simp only [h]
  simpa using hb
theorem strv_own {w : World} {base n c : Nat} {a : Option Addr} {R : List ByteArray} (h : w.ownsRow base 9 1 (.slice a n c) R.length (strs R)) (hn : n = R.length) : StrV w a n (fun k => R.getD k ⟨#[]⟩) := by
  intro k hk
  have hx : R[k]? = some (R[k]'(by omega)) := by simp
  obtain ⟨g, e, hc⟩ := row_at h hx
  refine ⟨g, 0, e, ?_⟩
  rw [Nat.zero_add, hc]
  simp [List.getD, hx]
theorem one4 {w : World} {g : Nat} {a b c d : ByteArray} (h : StrV w (some ⟨g, 0, none⟩) 4 (fun k => [a, b, c, d].getD k ⟨#[]⟩)) : ∀ j u, (strs [a, b, c, d])[j]? = some u → w.cell? ((⟨g, 0, none⟩ : Addr).add j) = some u := by
  intro j u hu
  have hj : j < 4 := by have := (List.getElem?_eq_some_iff.1 hu).1; simpa [strs] using this
  obtain ⟨g', o', e, hc⟩ := h j hj
  cases e
  rw [Addr.add_mid, hc, ← hu]
  rcases (show j = 0 ∨ j = 1 ∨ j = 2 ∨ j = 3 by omega) with rfl | rfl | rfl | rfl <;> rfl
theorem str4 (w : World) (a b c d : ByteArray) (g : Nat) (hg : g = w.heap.size) : StrV (w.alloc (.cells #[.string a, .string b, .string c, .string d] 9)) (some ⟨g, 0, none⟩) 4 (fun k => [a, b, c, d].getD k ⟨#[]⟩) := by
  subst hg
  intro k hk
  refine ⟨_, _, rfl, ?_⟩
  rcases (show k = 0 ∨ k = 1 ∨ k = 2 ∨ k = 3 by omega) with rfl | rfl | rfl | rfl <;> simp
end Wd
end Go.Proofs.Ytbefmkkmkjogcaa
