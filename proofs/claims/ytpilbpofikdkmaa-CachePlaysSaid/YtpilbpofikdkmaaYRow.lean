/- Rows of asks that a call makes itself; masks. -/
import Derived.Test.YtpilbpofikdkmaaYKnown
import Derived.Test.YtpilbpofikdkmaaYPlay
import Derived.Deep.AppendLies
import Derived.Deep.RegionLaw
import Derived.Laws.Bits128
namespace Go.Proofs.Ytpilbpofikdkmaa
open Go.RowKit
set_option linter.unusedVariables false
set_option maxRecDepth 20000
namespace Wd
/-- a number brought into lo .. hi -/
def within (n lo hi : Int) : Int := if lo ≤ n ∧ n ≤ hi then n else lo + n % (hi - lo + 1)
set_option maxHeartbeats 16000000 in
theorem within_c (n lo hi : Int) (h1 : -9223372036854775808 ≤ n) (h2 : n ≤ 9223372036854775807) (h3 : -1000000 ≤ lo) (h4 : lo ≤ hi) (h5 : hi ≤ 1000000) (w : World) :
    Calls Try.prog 9 #[.int .i64 n, .int .i64 lo, .int .i64 hi] w fun e w' => e = .returned (.int .i64 (within n lo hi)) ∧ w' = w := by
  by_cases c1 : lo ≤ n
  · by_cases c2 : n ≤ hi
    · have e : within n lo hi = n := if_pos ⟨c1, c2⟩
      rw [e]
      go_enter Try.func9, Try.ntmps9
      go_wp2
      go_ret
      exact ⟨rfl, rfl⟩
    · have e : within n lo hi = lo + n % (hi - lo + 1) := if_neg (fun h => c2 h.2)
      obtain ⟨r, hr, r1, r2, ⟨r3, r4⟩ | ⟨r3, r4⟩⟩ := tmod_split n (hi - lo + 1) (by omega)
      all_goals
        rw [r4] at e
        rw [e]; clear e r4
        go_enter Try.func9, Try.ntmps9
        go_wp2
        go_ret
        exact ⟨by first | rfl | (refine congrArg Ending.returned (congrArg (Value.int .i64) ?_); omega), rfl⟩
  · have e : within n lo hi = lo + n % (hi - lo + 1) := if_neg (fun h => c1 h.1)
    obtain ⟨r, hr, r1, r2, ⟨r3, r4⟩ | ⟨r3, r4⟩⟩ := tmod_split n (hi - lo + 1) (by omega)
    all_goals
      rw [r4] at e
      rw [e]; clear e r4
      go_enter Try.func9, Try.ntmps9
      go_wp2
      go_ret
      exact ⟨by first | rfl | (refine congrArg Ending.returned (congrArg (Value.int .i64) ?_); omega), rfl⟩
theorem within_bd (n lo hi : Int) (h : lo ≤ hi) : lo ≤ within n lo hi ∧ within n lo hi ≤ hi := by
  unfold within
  split
  · rename_i h'; exact h'
  · have h1 := Int.emod_nonneg n (show hi - lo + 1 ≠ 0 by omega)
    have h2 := Int.emod_lt_of_pos n (show 0 < hi - lo + 1 by omega)
    omega
theorem msk64 (y m : Int) : ∃ r, bits .and .i64 y m = r ∧ I64 r := ⟨_, rfl, bits_within .and .i64 y m⟩
theorem i64_and1 (n : Int) : bits .and .i64 n 1 = n % 2 := by
  have h : (BitVec.ofInt 64 1).toNat = 2 ^ 1 - 1 := by decide
  have key : (BitVec.ofInt 64 n &&& BitVec.ofInt 64 1).toNat = (n % ((2 ^ 64 : Nat) : Int)).toNat % 2 ^ 1 := by
    rw [BitVec.toNat_and, BitVec.toNat_ofInt, h, Nat.and_two_pow_sub_one_eq_mod]
  show IntKind.i64.wrap ((BitVec.ofInt 64 n &&& BitVec.ofInt 64 1).toNat : Nat) = n % 2
  rw [key, IntKind.wrap_i64]
  omega
theorem i64_and7 (n : Int) : bits .and .i64 n 7 = n % 8 := by
  have h : (BitVec.ofInt 64 7).toNat = 2 ^ 3 - 1 := by decide
  have key : (BitVec.ofInt 64 n &&& BitVec.ofInt 64 7).toNat = (n % ((2 ^ 64 : Nat) : Int)).toNat % 2 ^ 3 := by
    rw [BitVec.toNat_and, BitVec.toNat_ofInt, h, Nat.and_two_pow_sub_one_eq_mod]
  show IntKind.i64.wrap ((BitVec.ofInt 64 n &&& BitVec.ofInt 64 7).toNat : Nat) = n % 8
  rw [key, IntKind.wrap_i64]
  omega
theorem i64_and15 (n : Int) : bits .and .i64 n 15 = n % 16 := by
  have h : (BitVec.ofInt 64 15).toNat = 2 ^ 4 - 1 := by decide
  have key : (BitVec.ofInt 64 n &&& BitVec.ofInt 64 15).toNat = (n % ((2 ^ 64 : Nat) : Int)).toNat % 2 ^ 4 := by
    rw [BitVec.toNat_and, BitVec.toNat_ofInt, h, Nat.and_two_pow_sub_one_eq_mod]
  show IntKind.i64.wrap ((BitVec.ofInt 64 n &&& BitVec.ofInt 64 15).toNat : Nat) = n % 16
  rw [key, IntKind.wrap_i64]
  omega
theorem i64_and31 (n : Int) : bits .and .i64 n 31 = n % 32 := by
  have h : (BitVec.ofInt 64 31).toNat = 2 ^ 5 - 1 := by decide
  have key : (BitVec.ofInt 64 n &&& BitVec.ofInt 64 31).toNat = (n % ((2 ^ 64 : Nat) : Int)).toNat % 2 ^ 5 := by
    rw [BitVec.toNat_and, BitVec.toNat_ofInt, h, Nat.and_two_pow_sub_one_eq_mod]
  show IntKind.i64.wrap ((BitVec.ofInt 64 n &&& BitVec.ofInt 64 31).toNat : Nat) = n % 32
  rw [key, IntKind.wrap_i64]
  omega
theorem i64_and63 (n : Int) : bits .and .i64 n 63 = n % 64 := by
  have h : (BitVec.ofInt 64 63).toNat = 2 ^ 6 - 1 := by decide
  have key : (BitVec.ofInt 64 n &&& BitVec.ofInt 64 63).toNat = (n % ((2 ^ 64 : Nat) : Int)).toNat % 2 ^ 6 := by
    rw [BitVec.toNat_and, BitVec.toNat_ofInt, h, Nat.and_two_pow_sub_one_eq_mod]
  show IntKind.i64.wrap ((BitVec.ofInt 64 n &&& BitVec.ofInt 64 63).toNat : Nat) = n % 64
  rw [key, IntKind.wrap_i64]
  omega
theorem info_parts {P : Program} {t : TypeId} {z : Value} {s b : Nat} (h : (P.info? t).map (fun i => (i.zero, i.size, i.bytes)) = some (some z, s, b)) : ∃ i, P.info? t = some i ∧ i.zero = some z ∧ i.size = s ∧ i.bytes = b := by
  cases hi : P.info? t with
  | none => rw [hi] at h; cases h
  | some i =>
    rw [hi] at h
    simp only [Option.map_some, Option.some.injEq, Prod.mk.injEq] at h
    exact ⟨i, rfl, h.1, h.2.1, h.2.2⟩
theorem infoAsk : (Try.prog.info? 24).map (fun i => (i.zero, i.size, i.bytes)) = some (some (.agg #[.int .i64 0, .int .i64 0, .int .i64 0, .int .i64 0]), 4, 32) := by kernel_rfl
abbrev Ask4 := Int × Int × Int × Int
/-- asks, cell by cell -/
def ak4 : List Ask4 → List Value
  | [] => []
  | t :: T => .int .i64 t.1 :: .int .i64 t.2.1 :: .int .i64 t.2.2.1 :: .int .i64 t.2.2.2 :: ak4 T
theorem ak4_len : ∀ A, (ak4 A).length = A.length * 4
  | [] => rfl
  | t :: A => by simp only [ak4, List.length_cons, ak4_len A]; omega
theorem ak4_app : ∀ A B, ak4 (A ++ B) = ak4 A ++ ak4 B
  | [], _ => rfl
  | t :: A, B => by simp [ak4, ak4_app A B]
theorem ak4_get : ∀ (T : List Ask4) (k : Nat) t, T[k]? = some t → (ak4 T)[k * 4]? = some (.int .i64 t.1) ∧ (ak4 T)[k * 4 + 1]? = some (.int .i64 t.2.1) ∧ (ak4 T)[k * 4 + 2]? = some (.int .i64 t.2.2.1) ∧ (ak4 T)[k * 4 + 3]? = some (.int .i64 t.2.2.2)
  | [], k, t, h => by simp at h
  | s :: T, 0, t, h => by simp at h; subst h; simp [ak4]
  | s :: T, k + 1, t, h => by
    have := ak4_get T k t (by simpa using h)
    rw [show (k + 1) * 4 = k * 4 + 4 by omega]
    simpa [ak4] using this
theorem ak4_one : ∀ (T : List Ask4) u, u ∈ ak4 T → u.oneCell' = true
  | [], u, h => by cases h
  | t :: T, u, h => by
    simp only [ak4, List.mem_cons] at h
    rcases h with rfl | rfl | rfl | rfl | h
    · rfl
    · rfl
    · rfl
    · rfl
    · exact ak4_one T u h
def Ok4 (T : List Ask4) : Prop := ∀ x ∈ T, I64 x.1 ∧ I64 x.2.1 ∧ I64 x.2.2.1 ∧ I64 x.2.2.2
theorem Ok4.nil : Ok4 [] := fun x hx => by cases hx
theorem Ok4.add {T : List Ask4} (h : Ok4 T) {a b c d : Int} (ha : I64 a) (hb : I64 b) (hc : I64 c) (hd : I64 d) : Ok4 (T ++ [(a, b, c, d)]) := by
  intro t ht
  rcases List.mem_append.1 ht with ht | ht
  · exact h t ht
  · rw [List.mem_singleton.1 ht]; exact ⟨ha, hb, hc, hd⟩
theorem AskV.own {w : World} {base : Nat} {e : TypeId} {a : Option Addr} {n c : Nat} {T : List Ask4} (h : w.ownsRow base e 4 (.slice a n c) n (ak4 T)) (hn : n = T.length) (hb : Ok4 T) : AskV w a n := by
  intro k hk
  have hx : T[k]? = some (T[k]'(by omega)) := by simp
  generalize T[k]'(by omega) = x at hx
  obtain ⟨i0, i1, i2, i3⟩ := hb x (List.mem_of_getElem? hx)
  obtain ⟨c0, c1, c2, c3⟩ := ak4_get T k x hx
  rcases h.2 with ⟨e1, e0⟩ | ⟨g, cap, cur, e1, h1, h2, h3, h4, _⟩
  · omega
  · cases e1
    refine ⟨g, 0, x.1, x.2.1, x.2.2.1, x.2.2.2, rfl, i0, i1, i2, i3, ?_, ?_, ?_, ?_⟩
    · rw [Nat.zero_add]; exact (h.cellAt (k * 4) (by omega)).trans c0
    · rw [Nat.zero_add]; exact (h.cellAt (k * 4 + 1) (by omega)).trans c1
    · rw [Nat.zero_add]; exact (h.cellAt (k * 4 + 2) (by omega)).trans c2
    · rw [Nat.zero_add]; exact (h.cellAt (k * 4 + 3) (by omega)).trans c3
/-- an ask in a new block -/
theorem rd_ask (w : World) (x y z u : Int) (g : Nat) (hg : g = w.heap.size) : ∀ j v, (ak4 [(x, y, z, u)])[j]? = some v → (w.alloc (.cells #[.int .i64 x, .int .i64 y, .int .i64 z, .int .i64 u] 24)).cell? ((⟨g, 0, none⟩ : Addr).add j) = some v := by
  subst hg
  exact World.news_of_block (heap_alloc_new w _)
theorem row_form2 {w : World} {base size n : Nat} {e : TypeId} {v : Value} {xs : List Value} (h : w.ownsRow base e size v n xs) : ∃ a c, v = .slice a n c := by
  rcases h.2 with ⟨rfl, h0⟩ | ⟨g, cap, cur, rfl, _⟩
  · exact ⟨_, _, by rw [h0]⟩
  · exact ⟨_, _, rfl⟩
theorem row_up2 {w w1 : World} {base size n : Nat} {e : TypeId} {v : Value} {xs : List Value} (h : w.ownsRow base e size v n xs) (b : Below w.heap.size w w1) : w1.ownsRow base e size v n xs :=
  World.ownsRow.kept h ⟨b.os, b.tape, b.output, b.size, fun k hk _ => b.block k hk⟩ (row := none) (by cases v.ownBlock <;> simp)
end Wd
end Go.Proofs.Ytpilbpofikdkmaa
