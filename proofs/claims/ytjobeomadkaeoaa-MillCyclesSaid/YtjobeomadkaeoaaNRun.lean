/- The ring of the package: what its functions return. -/
import Derived.Test.YtjobeomadkaeoaaNOps
import Derived.Maps.AppendAt
import Derived.Deep.AppendLies
namespace Go.Proofs.Ytjobeomadkaeoaa
open Go.RowKit
namespace Wd
/-- the ring of the package: at block p, of n places, those of L are in -/
def RA (w : World) (p n : Nat) (L : List Int) (F : Nat → Prop) : Prop := ∃ g1 g2 f h, F = FF p g1 g2 ∧ RB w p g1 g2 n f h (L.length : Int) ∧ RL n L f h
theorem next_k {w : World} {p n : Nat} {L : List Int} {F : Nat → Prop} (i : Int) (hR : RA w p n L F) :
    Calls Try.prog 29 #[.pointer (some ⟨p, 0, none⟩), .int .i64 i] w fun e w' => e = .returned (.int .i64 (nxt L i)) ∧ w' = w := by
  obtain ⟨g1, g2, f, h, rfl, hB, hL⟩ := hR
  by_cases hi : 0 ≤ i ∧ i < n
  · obtain ⟨k, rfl⟩ : ∃ k : Nat, i = k := ⟨i.toNat, by omega⟩
    have hk : k < n := by omega
    rw [← hL.ef k hk]
    have c0 := hB.c0
    have c1 := hB.f1 k hk
    replace hB := Lib.hid hB
    clear hi
    go_enter Try.func29, Try.ntmps29
    go_wp2_with (first | (go_at_call 36; ((with_reducible refine (has_y hB.out hk).mono ?_); rintro e w' ⟨rfl, rfl⟩)))
    go_ret
    exact ⟨rfl, rfl⟩
  · rw [nxt_out (hL.none hi)]
    replace hB := Lib.hid hB
    go_enter Try.func29, Try.ntmps29
    go_wp2_with (first | (go_at_call 36; ((with_reducible refine (has_n hB.out hi).mono ?_); rintro e w' ⟨rfl, rfl⟩)))
    go_ret
    exact ⟨rfl, rfl⟩
theorem prev_k {w : World} {p n : Nat} {L : List Int} {F : Nat → Prop} (i : Int) (hR : RA w p n L F) :
    Calls Try.prog 37 #[.pointer (some ⟨p, 0, none⟩), .int .i64 i] w fun e w' => e = .returned (.int .i64 (prv L i)) ∧ w' = w := by
  obtain ⟨g1, g2, f, h, rfl, hB, hL⟩ := hR
  by_cases hi : 0 ≤ i ∧ i < n
  · obtain ⟨k, rfl⟩ : ∃ k : Nat, i = k := ⟨i.toNat, by omega⟩
    have hk : k < n := by omega
    rw [← hL.eh k hk]
    have c0 := hB.c1
    have c1 := hB.f2 k hk
    replace hB := Lib.hid hB
    clear hi
    go_enter Try.func37, Try.ntmps37
    go_wp2_with (first | (go_at_call 36; ((with_reducible refine (has_y hB.out hk).mono ?_); rintro e w' ⟨rfl, rfl⟩)))
    go_ret
    exact ⟨rfl, rfl⟩
  · rw [prv_out (hL.none hi)]
    replace hB := Lib.hid hB
    go_enter Try.func37, Try.ntmps37
    go_wp2_with (first | (go_at_call 36; ((with_reducible refine (has_n hB.out hi).mono ?_); rintro e w' ⟨rfl, rfl⟩)))
    go_ret
    exact ⟨rfl, rfl⟩
end Wd
end Go.Proofs.Ytjobeomadkaeoaa
