/-
  No cell of these rows narrows 'for every input' (looked for: loops, veiled, ifaces, maps, wideKeys, modest, calm, conditions, laid).
  DERIVED. THE GIVEN ROWS OF THIS SEAT. 4 by the template 'for every input the law returns true; each argument reads behind the call as it read before'; 0 by the template 'total and deterministic' (their statements: YtgfdgdbkifkehaaTotals.lean).
  GIVEN WITH THE SEED: the statements are not yours to turn. If you find one false, say at which input.
  Laid BY PROGRAM, IN A SANDBOX (cutbox-rows.mjs): the forced cells as the released guide's own fill.sh prints them over the translation 188331b022eeb623… (all of the seat's roots in one cut). By AI agents, Wed Nov 11 2026. No macro, syntax, notation, axiom, sorry.
-/
import Derived.Test.YtgfdgdbkifkehaaChecked
import GoSem.Claim
import GoSem.ClaimJoined
import GoSem.ClaimMapViews
import Derived.JoinedTies
import Derived.KernelRfl
namespace Go.Proofs.Ytgfdgdbkifkehaa
/- THE CELL 'sum', in the pinned program and in every row, IS THE sha256 OF THE DUMP (.gsa) THAT YtgfdgdbkifkehaaProg.lean LOADS. Nothing in Lean hashes anything: it is a label: what it is worth is what the hold of that sum in a sandbox is worth. -/
noncomputable def Try.pinned : Pinned := { name := "ytgfdgdbkifkehaa", sum := "188331b022eeb62343567313c4b6186a2f7b5ddbe0219b92ed43cd2a9213e3ea", checked := Try.checked }
namespace Rows
def none {H : Type} : Left H := { results := [], args := [] }

/-- 'treadwheellaw15.UnitFinds': WHATEVER THE INPUT: true; the input reads as it did. -/
def unitFindsSpec : ChangeSpec := { name := "unitFinds", fn := fun _ => fun
  | [d1, d2, d3] => { results := [.lit (.bool true)], args := [d1, d2, d3] }
  | _ => none }
def unitFindsRow : OpenClaim := { program := "ytgfdgdbkifkehaa", sum := "188331b022eeb62343567313c4b6186a2f7b5ddbe0219b92ed43cd2a9213e3ea", func := "treadwheel/treadwheellaw15.UnitFinds", spec := "unitFinds", inPlace := ["internal/bytealg.IndexByteString", "internal/bytealg.CountString", "internal/bytealg.IndexString"], unfollowed := true, recurses := true, named := ["internal/bytealg.MaxLen"], apart := false }
def UnitFindsSaid : Prop := unitFindsRow.holds Try.pinned (OpenSpec.ofChange unitFindsSpec)

/-- ITS FALSE NEIGHBOUR: 'it returns false'. Refute it at one input. -/
def unitFindsWrong : ChangeSpec := { name := "unitFinds", fn := fun _ => fun
  | [d1, d2, d3] => { results := [.lit (.bool false)], args := [d1, d2, d3] }
  | _ => none }
def UnitFindsWrongFalsely : Prop := unitFindsRow.holds Try.pinned (OpenSpec.ofChange unitFindsWrong)

/-- 'treadwheellaw15.UnitCopies': WHATEVER THE INPUT: true; the input reads as it did. -/
def unitCopiesSpec : ChangeSpec := { name := "unitCopies", fn := fun _ => fun
  | [d1, d2, d3, d4] => { results := [.lit (.bool true)], args := [d1, d2, d3, d4] }
  | _ => none }
def unitCopiesRow : OpenClaim := { program := "ytgfdgdbkifkehaa", sum := "188331b022eeb62343567313c4b6186a2f7b5ddbe0219b92ed43cd2a9213e3ea", func := "treadwheel/treadwheellaw15.UnitCopies", spec := "unitCopies", inPlace := ["internal/bytealg.IndexByteString", "internal/bytealg.CountString", "internal/bytealg.IndexString"], unfollowed := true, recurses := true, named := ["internal/bytealg.MaxLen"], apart := false }
def UnitCopiesSaid : Prop := unitCopiesRow.holds Try.pinned (OpenSpec.ofChange unitCopiesSpec)

/-- ITS FALSE NEIGHBOUR: 'it returns false'. Refute it at one input. -/
def unitCopiesWrong : ChangeSpec := { name := "unitCopies", fn := fun _ => fun
  | [d1, d2, d3, d4] => { results := [.lit (.bool false)], args := [d1, d2, d3, d4] }
  | _ => none }
def UnitCopiesWrongFalsely : Prop := unitCopiesRow.holds Try.pinned (OpenSpec.ofChange unitCopiesWrong)

/-- 'treadwheellaw15.UnitMain': WHATEVER THE INPUT: true; the input reads as it did. -/
def unitMainSpec : ChangeSpec := { name := "unitMain", fn := fun _ => fun
  | [d1, d2] => { results := [.lit (.bool true)], args := [d1, d2] }
  | _ => none }
def unitMainRow : OpenClaim := { program := "ytgfdgdbkifkehaa", sum := "188331b022eeb62343567313c4b6186a2f7b5ddbe0219b92ed43cd2a9213e3ea", func := "treadwheel/treadwheellaw15.UnitMain", spec := "unitMain", inPlace := ["internal/bytealg.IndexByteString", "internal/bytealg.CountString", "internal/bytealg.IndexString"], unfollowed := true, recurses := true, named := ["internal/bytealg.MaxLen"], apart := false }
def UnitMainSaid : Prop := unitMainRow.holds Try.pinned (OpenSpec.ofChange unitMainSpec)

/-- ITS FALSE NEIGHBOUR: 'it returns false'. Refute it at one input. -/
def unitMainWrong : ChangeSpec := { name := "unitMain", fn := fun _ => fun
  | [d1, d2] => { results := [.lit (.bool false)], args := [d1, d2] }
  | _ => none }
def UnitMainWrongFalsely : Prop := unitMainRow.holds Try.pinned (OpenSpec.ofChange unitMainWrong)

/-- 'treadwheellaw15.UnitWords': WHATEVER THE INPUT: true; the input reads as it did. -/
def unitWordsSpec : ChangeSpec := { name := "unitWords", fn := fun _ => fun
  | [d1, d2] => { results := [.lit (.bool true)], args := [d1, d2] }
  | _ => none }
def unitWordsRow : OpenClaim := { program := "ytgfdgdbkifkehaa", sum := "188331b022eeb62343567313c4b6186a2f7b5ddbe0219b92ed43cd2a9213e3ea", func := "treadwheel/treadwheellaw15.UnitWords", spec := "unitWords", inPlace := ["internal/bytealg.IndexByteString", "internal/bytealg.CountString", "internal/bytealg.IndexString"], unfollowed := true, recurses := true, named := ["internal/bytealg.MaxLen"], apart := false }
def UnitWordsSaid : Prop := unitWordsRow.holds Try.pinned (OpenSpec.ofChange unitWordsSpec)

/-- ITS FALSE NEIGHBOUR: 'it returns false'. Refute it at one input. -/
def unitWordsWrong : ChangeSpec := { name := "unitWords", fn := fun _ => fun
  | [d1, d2] => { results := [.lit (.bool false)], args := [d1, d2] }
  | _ => none }
def UnitWordsWrongFalsely : Prop := unitWordsRow.holds Try.pinned (OpenSpec.ofChange unitWordsWrong)

/- THE SECOND FORM. 'bulk': how many values and letters a reading holds, each counted each time it is reached (what is shared counts as often as it is met; a slice's spare places count too). A statement '..UptoSaid' is the law's where the arguments, and the package variables that the reading takes, are together of bulk at most 1048576: NARROWER than '..Said'. Prove '..Said' where nothing that the law and all that it calls make is longer than what came in: it says more and counts as full. Else prove '..UptoSaid'. A law counts once. -/
mutual
def uptoBulk {H : Type} : DataW H → Nat
  | .lit (.string bytes) => bytes.length + 1
  | .lit _ => 1
  | .nil => 1
  | .ptr d => uptoBulk d + 1
  | .slice elems spare => uptoBulkAll elems + uptoBulkAll spare + 1
  | .agg parts => uptoBulkAll parts + 1
  | .iface _ d => uptoBulk d + 1
  | .map entries => uptoBulkEntries entries + 1
  | .held _ => 1
def uptoBulkAll {H : Type} : List (DataW H) → Nat
  | [] => 0
  | d :: r => uptoBulk d + uptoBulkAll r
def uptoBulkEntries {H : Type} : List (Lit × DataW H) → Nat
  | [] => 0
  | x :: r => uptoBulkEntry x + uptoBulkEntries r
def uptoBulkEntry {H : Type} : Lit × DataW H → Nat
  | (.string bytes, d) => bytes.length + uptoBulk d + 1
  | (_, d) => uptoBulk d + 1
 end
def uptoSmall : (H : Type) → List (DataW H) → Bool := fun _ ds => decide (uptoBulkAll ds ≤ 1048576)
def OpenSpec.upto (s : _root_.Go.ChangeSpec) : _root_.Go.OpenSpec := { _root_.Go.OpenSpec.ofChange s with cond := some uptoSmall }

/-- 'treadwheellaw15.UnitFinds', WHERE WHAT IT READS IS OF BULK AT MOST 1048576: true; the input reads as it did. -/
def unitFindsUptoRow : OpenClaim := { program := "ytgfdgdbkifkehaa", sum := "188331b022eeb62343567313c4b6186a2f7b5ddbe0219b92ed43cd2a9213e3ea", func := "treadwheel/treadwheellaw15.UnitFinds", spec := "unitFinds", inPlace := ["internal/bytealg.IndexByteString", "internal/bytealg.CountString", "internal/bytealg.IndexString"], unfollowed := true, recurses := true, named := ["internal/bytealg.MaxLen"], apart := false, narrowed := true }
def UnitFindsUptoSaid : Prop := unitFindsUptoRow.holds Try.pinned (OpenSpec.upto unitFindsSpec)

/-- 'treadwheellaw15.UnitCopies', WHERE WHAT IT READS IS OF BULK AT MOST 1048576: true; the input reads as it did. -/
def unitCopiesUptoRow : OpenClaim := { program := "ytgfdgdbkifkehaa", sum := "188331b022eeb62343567313c4b6186a2f7b5ddbe0219b92ed43cd2a9213e3ea", func := "treadwheel/treadwheellaw15.UnitCopies", spec := "unitCopies", inPlace := ["internal/bytealg.IndexByteString", "internal/bytealg.CountString", "internal/bytealg.IndexString"], unfollowed := true, recurses := true, named := ["internal/bytealg.MaxLen"], apart := false, narrowed := true }
def UnitCopiesUptoSaid : Prop := unitCopiesUptoRow.holds Try.pinned (OpenSpec.upto unitCopiesSpec)

/-- 'treadwheellaw15.UnitMain', WHERE WHAT IT READS IS OF BULK AT MOST 1048576: true; the input reads as it did. -/
def unitMainUptoRow : OpenClaim := { program := "ytgfdgdbkifkehaa", sum := "188331b022eeb62343567313c4b6186a2f7b5ddbe0219b92ed43cd2a9213e3ea", func := "treadwheel/treadwheellaw15.UnitMain", spec := "unitMain", inPlace := ["internal/bytealg.IndexByteString", "internal/bytealg.CountString", "internal/bytealg.IndexString"], unfollowed := true, recurses := true, named := ["internal/bytealg.MaxLen"], apart := false, narrowed := true }
def UnitMainUptoSaid : Prop := unitMainUptoRow.holds Try.pinned (OpenSpec.upto unitMainSpec)

/-- 'treadwheellaw15.UnitWords', WHERE WHAT IT READS IS OF BULK AT MOST 1048576: true; the input reads as it did. -/
def unitWordsUptoRow : OpenClaim := { program := "ytgfdgdbkifkehaa", sum := "188331b022eeb62343567313c4b6186a2f7b5ddbe0219b92ed43cd2a9213e3ea", func := "treadwheel/treadwheellaw15.UnitWords", spec := "unitWords", inPlace := ["internal/bytealg.IndexByteString", "internal/bytealg.CountString", "internal/bytealg.IndexString"], unfollowed := true, recurses := true, named := ["internal/bytealg.MaxLen"], apart := false, narrowed := true }
def UnitWordsUptoSaid : Prop := unitWordsUptoRow.holds Try.pinned (OpenSpec.upto unitWordsSpec)

end Rows
end Go.Proofs.Ytgfdgdbkifkehaa
