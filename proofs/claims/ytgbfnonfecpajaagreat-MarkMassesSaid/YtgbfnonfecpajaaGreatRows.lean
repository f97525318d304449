/-
  No cell of these rows narrows 'for every input' (looked for: loops, veiled, ifaces, maps, wideKeys, modest, calm, conditions, laid).
  DERIVED. THE GIVEN ROWS OF THIS SEAT. 3 by the template 'for every input the law returns true; each argument reads behind the call as it read before'; 0 by the template 'total and deterministic' (their statements: YtgbfnonfecpajaaGreatTotals.lean).
  GIVEN WITH THE SEED: the statements are not yours to turn. If you find one false, say at which input.
  Laid BY PROGRAM, IN A SANDBOX (cutbox-rows.mjs): the forced cells as the released guide's own fill.sh prints them over the translation a5e690ec3f9cea3f… (all of the seat's roots in one cut). By AI agents, Wed Nov 11 2026. No macro, syntax, notation, axiom, sorry.
-/
import Derived.Test.YtgbfnonfecpajaaGreatChecked
import GoSem.Claim
import GoSem.ClaimJoined
import GoSem.ClaimMapViews
import Derived.JoinedTies
import Derived.KernelRfl
namespace Go.Proofs.YtgbfnonfecpajaaGreat
/- THE CELL 'sum', in the pinned program and in every row, IS THE sha256 OF THE DUMP (.gsa) THAT YtgbfnonfecpajaaGreatProg.lean LOADS. Nothing in Lean hashes anything: it is a label: what it is worth is what the hold of that sum in a sandbox is worth. -/
noncomputable def Tryz.pinned : Pinned := { name := "ytgbfnonfecpajaagreat", sum := "a5e690ec3f9cea3f87d7aaf2e8d9174fa4185d84d4e4c848f3d9c3a5fd073b58", checked := Tryz.checked }
namespace Rows
def none {H : Type} : Left H := { results := [], args := [] }

/-- 'moorsomlaw06.MarkChecks': WHATEVER THE INPUT: true; the input reads as it did. -/
def markChecksSpec : ChangeSpec := { name := "markChecks", fn := fun _ => fun
  | [d1, d2] => { results := [.lit (.bool true)], args := [d1, d2] }
  | _ => none }
def markChecksRow : OpenClaim := { program := "ytgbfnonfecpajaagreat", sum := "a5e690ec3f9cea3f87d7aaf2e8d9174fa4185d84d4e4c848f3d9c3a5fd073b58", func := "moorsom/moorsomlaw06.MarkChecks", spec := "markChecks", unfollowed := true, recurses := true, apart := false }
def MarkChecksSaid : Prop := markChecksRow.holds Tryz.pinned (OpenSpec.ofChange markChecksSpec)

/-- ITS FALSE NEIGHBOUR: 'it returns false'. Refute it at one input. -/
def markChecksWrong : ChangeSpec := { name := "markChecks", fn := fun _ => fun
  | [d1, d2] => { results := [.lit (.bool false)], args := [d1, d2] }
  | _ => none }
def MarkChecksWrongFalsely : Prop := markChecksRow.holds Tryz.pinned (OpenSpec.ofChange markChecksWrong)

/-- 'moorsomlaw06.MarkHeights': WHATEVER THE INPUT: true; the input reads as it did. -/
def markHeightsSpec : ChangeSpec := { name := "markHeights", fn := fun _ => fun
  | [d1, d2] => { results := [.lit (.bool true)], args := [d1, d2] }
  | _ => none }
def markHeightsRow : OpenClaim := { program := "ytgbfnonfecpajaagreat", sum := "a5e690ec3f9cea3f87d7aaf2e8d9174fa4185d84d4e4c848f3d9c3a5fd073b58", func := "moorsom/moorsomlaw06.MarkHeights", spec := "markHeights", unfollowed := true, recurses := true, apart := false }
def MarkHeightsSaid : Prop := markHeightsRow.holds Tryz.pinned (OpenSpec.ofChange markHeightsSpec)

/-- ITS FALSE NEIGHBOUR: 'it returns false'. Refute it at one input. -/
def markHeightsWrong : ChangeSpec := { name := "markHeights", fn := fun _ => fun
  | [d1, d2] => { results := [.lit (.bool false)], args := [d1, d2] }
  | _ => none }
def MarkHeightsWrongFalsely : Prop := markHeightsRow.holds Tryz.pinned (OpenSpec.ofChange markHeightsWrong)

/-- 'moorsomlaw06.MarkMasses': WHATEVER THE INPUT: true; the input reads as it did. -/
def markMassesSpec : ChangeSpec := { name := "markMasses", fn := fun _ => fun
  | [d1, d2] => { results := [.lit (.bool true)], args := [d1, d2] }
  | _ => none }
def markMassesRow : OpenClaim := { program := "ytgbfnonfecpajaagreat", sum := "a5e690ec3f9cea3f87d7aaf2e8d9174fa4185d84d4e4c848f3d9c3a5fd073b58", func := "moorsom/moorsomlaw06.MarkMasses", spec := "markMasses", unfollowed := true, recurses := true, apart := false }
def MarkMassesSaid : Prop := markMassesRow.holds Tryz.pinned (OpenSpec.ofChange markMassesSpec)

/-- ITS FALSE NEIGHBOUR: 'it returns false'. Refute it at one input. -/
def markMassesWrong : ChangeSpec := { name := "markMasses", fn := fun _ => fun
  | [d1, d2] => { results := [.lit (.bool false)], args := [d1, d2] }
  | _ => none }
def MarkMassesWrongFalsely : Prop := markMassesRow.holds Tryz.pinned (OpenSpec.ofChange markMassesWrong)

/- THE SECOND FORM. 'bulk': how many values and letters a reading holds, each counted each time it is reached (what is shared counts as often as it is met; a slice's spare places count too). A statement '..UptoSaid' is the law's where the arguments, and the package variables that the reading takes, are together of bulk at most 1048576: NARROWER than '..Said'. Prove '..Said' where nothing that the law and all that it calls make is longer than what came in: it says more and counts as full. Else prove '..UptoSaid'. A law counts once. -/
mutual
def uptoBulk {H : Type} : DataW H → Nat
  | .lit (.string bytes) => bytes.length + 1
  | .lit _ => 1
  | .nil => 1
  | .ptr d => uptoBulk d + 1
  | .slice elems spare => uptoBulkAll elems + uptoBulkAll spare + 1
  | .agg parts => uptoBulkAll parts + 1
  | .iface _ d => uptoBulk d + 1
  | .map entries => uptoBulkEntries entries + 1
  | .held _ => 1
def uptoBulkAll {H : Type} : List (DataW H) → Nat
  | [] => 0
  | d :: r => uptoBulk d + uptoBulkAll r
def uptoBulkEntries {H : Type} : List (Lit × DataW H) → Nat
  | [] => 0
  | x :: r => uptoBulkEntry x + uptoBulkEntries r
def uptoBulkEntry {H : Type} : Lit × DataW H → Nat
  | (.string bytes, d) => bytes.length + uptoBulk d + 1
  | (_, d) => uptoBulk d + 1
 end
def uptoSmall : (H : Type) → List (DataW H) → Bool := fun _ ds => decide (uptoBulkAll ds ≤ 1048576)
def OpenSpec.upto (s : _root_.Go.ChangeSpec) : _root_.Go.OpenSpec := { _root_.Go.OpenSpec.ofChange s with cond := some uptoSmall }

/-- 'moorsomlaw06.MarkChecks', WHERE WHAT IT READS IS OF BULK AT MOST 1048576: true; the input reads as it did. -/
def markChecksUptoRow : OpenClaim := { program := "ytgbfnonfecpajaagreat", sum := "a5e690ec3f9cea3f87d7aaf2e8d9174fa4185d84d4e4c848f3d9c3a5fd073b58", func := "moorsom/moorsomlaw06.MarkChecks", spec := "markChecks", unfollowed := true, recurses := true, apart := false, narrowed := true }
def MarkChecksUptoSaid : Prop := markChecksUptoRow.holds Tryz.pinned (OpenSpec.upto markChecksSpec)

/-- 'moorsomlaw06.MarkHeights', WHERE WHAT IT READS IS OF BULK AT MOST 1048576: true; the input reads as it did. -/
def markHeightsUptoRow : OpenClaim := { program := "ytgbfnonfecpajaagreat", sum := "a5e690ec3f9cea3f87d7aaf2e8d9174fa4185d84d4e4c848f3d9c3a5fd073b58", func := "moorsom/moorsomlaw06.MarkHeights", spec := "markHeights", unfollowed := true, recurses := true, apart := false, narrowed := true }
def MarkHeightsUptoSaid : Prop := markHeightsUptoRow.holds Tryz.pinned (OpenSpec.upto markHeightsSpec)

/-- 'moorsomlaw06.MarkMasses', WHERE WHAT IT READS IS OF BULK AT MOST 1048576: true; the input reads as it did. -/
def markMassesUptoRow : OpenClaim := { program := "ytgbfnonfecpajaagreat", sum := "a5e690ec3f9cea3f87d7aaf2e8d9174fa4185d84d4e4c848f3d9c3a5fd073b58", func := "moorsom/moorsomlaw06.MarkMasses", spec := "markMasses", unfollowed := true, recurses := true, apart := false, narrowed := true }
def MarkMassesUptoSaid : Prop := markMassesUptoRow.holds Tryz.pinned (OpenSpec.upto markMassesSpec)

end Rows
end Go.Proofs.YtgbfnonfecpajaaGreat
