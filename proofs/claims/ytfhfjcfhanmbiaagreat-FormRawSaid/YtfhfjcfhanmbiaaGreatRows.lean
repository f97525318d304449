/-
  No cell of these rows narrows 'for every input' (looked for: loops, veiled, ifaces, maps, wideKeys, modest, calm, conditions, laid).
  DERIVED. THE GIVEN ROWS OF THIS SEAT. 3 by the template 'for every input the law returns true; each argument reads behind the call as it read before'; 0 by the template 'total and deterministic' (their statements: YtfhfjcfhanmbiaaGreatTotals.lean).
  GIVEN WITH THE SEED: the statements are not yours to turn. If you find one false, say at which input.
  Laid BY PROGRAM, IN A SANDBOX (cutbox-rows.mjs): the forced cells as the released guide's own fill.sh prints them over the translation 48cc232405a93df2… (all of the seat's roots in one cut). By AI agents, Wed Nov 11 2026. No macro, syntax, notation, axiom, sorry.
-/
import Derived.Test.YtfhfjcfhanmbiaaGreatChecked
import GoSem.Claim
import GoSem.ClaimJoined
import GoSem.ClaimMapViews
import Derived.JoinedTies
import Derived.KernelRfl
namespace Go.Proofs.YtfhfjcfhanmbiaaGreat
/- THE CELL 'sum', in the pinned program and in every row, IS THE sha256 OF THE DUMP (.gsa) THAT YtfhfjcfhanmbiaaGreatProg.lean LOADS. Nothing in Lean hashes anything: it is a label: what it is worth is what the hold of that sum in a sandbox is worth. -/
noncomputable def Tryz.pinned : Pinned := { name := "ytfhfjcfhanmbiaagreat", sum := "48cc232405a93df201f81fb44b1195282888c649b06f2b1d7b16203a1516b4fe", checked := Tryz.checked }
namespace Rows
def none {H : Type} : Left H := { results := [], args := [] }

/-- 'moorsomlaw03.FormChecks': WHATEVER THE INPUT: true; the input reads as it did. -/
def formChecksSpec : ChangeSpec := { name := "formChecks", fn := fun _ => fun
  | [d1, d2] => { results := [.lit (.bool true)], args := [d1, d2] }
  | _ => none }
def formChecksRow : OpenClaim := { program := "ytfhfjcfhanmbiaagreat", sum := "48cc232405a93df201f81fb44b1195282888c649b06f2b1d7b16203a1516b4fe", func := "moorsom/moorsomlaw03.FormChecks", spec := "formChecks", unfollowed := true, recurses := true, apart := false }
def FormChecksSaid : Prop := formChecksRow.holds Tryz.pinned (OpenSpec.ofChange formChecksSpec)

/-- ITS FALSE NEIGHBOUR: 'it returns false'. Refute it at one input. -/
def formChecksWrong : ChangeSpec := { name := "formChecks", fn := fun _ => fun
  | [d1, d2] => { results := [.lit (.bool false)], args := [d1, d2] }
  | _ => none }
def FormChecksWrongFalsely : Prop := formChecksRow.holds Tryz.pinned (OpenSpec.ofChange formChecksWrong)

/-- 'moorsomlaw03.FormRaw': WHATEVER THE INPUT: true; the input reads as it did. -/
def formRawSpec : ChangeSpec := { name := "formRaw", fn := fun _ => fun
  | [d] => { results := [.lit (.bool true)], args := [d] }
  | _ => none }
def formRawRow : OpenClaim := { program := "ytfhfjcfhanmbiaagreat", sum := "48cc232405a93df201f81fb44b1195282888c649b06f2b1d7b16203a1516b4fe", func := "moorsom/moorsomlaw03.FormRaw", spec := "formRaw", unfollowed := true, recurses := true, apart := false }
def FormRawSaid : Prop := formRawRow.holds Tryz.pinned (OpenSpec.ofChange formRawSpec)

/-- ITS FALSE NEIGHBOUR: 'it returns false'. Refute it at one input. -/
def formRawWrong : ChangeSpec := { name := "formRaw", fn := fun _ => fun
  | [d] => { results := [.lit (.bool false)], args := [d] }
  | _ => none }
def FormRawWrongFalsely : Prop := formRawRow.holds Tryz.pinned (OpenSpec.ofChange formRawWrong)

/-- 'moorsomlaw03.FormWeights': WHATEVER THE INPUT: true; the input reads as it did. -/
def formWeightsSpec : ChangeSpec := { name := "formWeights", fn := fun _ => fun
  | [d1, d2] => { results := [.lit (.bool true)], args := [d1, d2] }
  | _ => none }
def formWeightsRow : OpenClaim := { program := "ytfhfjcfhanmbiaagreat", sum := "48cc232405a93df201f81fb44b1195282888c649b06f2b1d7b16203a1516b4fe", func := "moorsom/moorsomlaw03.FormWeights", spec := "formWeights", unfollowed := true, recurses := true, apart := false }
def FormWeightsSaid : Prop := formWeightsRow.holds Tryz.pinned (OpenSpec.ofChange formWeightsSpec)

/-- ITS FALSE NEIGHBOUR: 'it returns false'. Refute it at one input. -/
def formWeightsWrong : ChangeSpec := { name := "formWeights", fn := fun _ => fun
  | [d1, d2] => { results := [.lit (.bool false)], args := [d1, d2] }
  | _ => none }
def FormWeightsWrongFalsely : Prop := formWeightsRow.holds Tryz.pinned (OpenSpec.ofChange formWeightsWrong)

/- THE SECOND FORM. 'bulk': how many values and letters a reading holds, each counted each time it is reached (what is shared counts as often as it is met; a slice's spare places count too). A statement '..UptoSaid' is the law's where the arguments, and the package variables that the reading takes, are together of bulk at most 1048576: NARROWER than '..Said'. Prove '..Said' where nothing that the law and all that it calls make is longer than what came in: it says more and counts as full. Else prove '..UptoSaid'. A law counts once. -/
mutual
def uptoBulk {H : Type} : DataW H → Nat
  | .lit (.string bytes) => bytes.length + 1
  | .lit _ => 1
  | .nil => 1
  | .ptr d => uptoBulk d + 1
  | .slice elems spare => uptoBulkAll elems + uptoBulkAll spare + 1
  | .agg parts => uptoBulkAll parts + 1
  | .iface _ d => uptoBulk d + 1
  | .map entries => uptoBulkEntries entries + 1
  | .held _ => 1
def uptoBulkAll {H : Type} : List (DataW H) → Nat
  | [] => 0
  | d :: r => uptoBulk d + uptoBulkAll r
def uptoBulkEntries {H : Type} : List (Lit × DataW H) → Nat
  | [] => 0
  | x :: r => uptoBulkEntry x + uptoBulkEntries r
def uptoBulkEntry {H : Type} : Lit × DataW H → Nat
  | (.string bytes, d) => bytes.length + uptoBulk d + 1
  | (_, d) => uptoBulk d + 1
 end
def uptoSmall : (H : Type) → List (DataW H) → Bool := fun _ ds => decide (uptoBulkAll ds ≤ 1048576)
def OpenSpec.upto (s : _root_.Go.ChangeSpec) : _root_.Go.OpenSpec := { _root_.Go.OpenSpec.ofChange s with cond := some uptoSmall }

/-- 'moorsomlaw03.FormChecks', WHERE WHAT IT READS IS OF BULK AT MOST 1048576: true; the input reads as it did. -/
def formChecksUptoRow : OpenClaim := { program := "ytfhfjcfhanmbiaagreat", sum := "48cc232405a93df201f81fb44b1195282888c649b06f2b1d7b16203a1516b4fe", func := "moorsom/moorsomlaw03.FormChecks", spec := "formChecks", unfollowed := true, recurses := true, apart := false, narrowed := true }
def FormChecksUptoSaid : Prop := formChecksUptoRow.holds Tryz.pinned (OpenSpec.upto formChecksSpec)

/-- 'moorsomlaw03.FormRaw', WHERE WHAT IT READS IS OF BULK AT MOST 1048576: true; the input reads as it did. -/
def formRawUptoRow : OpenClaim := { program := "ytfhfjcfhanmbiaagreat", sum := "48cc232405a93df201f81fb44b1195282888c649b06f2b1d7b16203a1516b4fe", func := "moorsom/moorsomlaw03.FormRaw", spec := "formRaw", unfollowed := true, recurses := true, apart := false, narrowed := true }
def FormRawUptoSaid : Prop := formRawUptoRow.holds Tryz.pinned (OpenSpec.upto formRawSpec)

/-- 'moorsomlaw03.FormWeights', WHERE WHAT IT READS IS OF BULK AT MOST 1048576: true; the input reads as it did. -/
def formWeightsUptoRow : OpenClaim := { program := "ytfhfjcfhanmbiaagreat", sum := "48cc232405a93df201f81fb44b1195282888c649b06f2b1d7b16203a1516b4fe", func := "moorsom/moorsomlaw03.FormWeights", spec := "formWeights", unfollowed := true, recurses := true, apart := false, narrowed := true }
def FormWeightsUptoSaid : Prop := formWeightsUptoRow.holds Tryz.pinned (OpenSpec.upto formWeightsSpec)

end Rows
end Go.Proofs.YtfhfjcfhanmbiaaGreat
