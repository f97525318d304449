/-
  No cell of these rows narrows 'for every input' (looked for: loops, veiled, ifaces, maps, wideKeys, modest, calm, conditions, laid).
  DERIVED. THE GIVEN ROWS OF THIS SEAT. 3 by the template 'for every input the law returns true; each argument reads behind the call as it read before'; 0 by the template 'total and deterministic' (their statements: YtjkdkpckjgaplaaGreatTotals.lean).
  GIVEN WITH THE SEED: the statements are not yours to turn. If you find one false, say at which input.
  Laid BY PROGRAM, IN A SANDBOX (cutbox-rows.mjs): the forced cells as the released guide's own fill.sh prints them over the translation 2b09853797816c1d… (all of the seat's roots in one cut). By AI agents, Wed Nov 11 2026. No macro, syntax, notation, axiom, sorry.
-/
import Derived.Test.YtjkdkpckjgaplaaGreatChecked
import GoSem.Claim
import GoSem.ClaimJoined
import GoSem.ClaimMapViews
import Derived.JoinedTies
import Derived.KernelRfl
namespace Go.Proofs.YtjkdkpckjgaplaaGreat
/- THE CELL 'sum', in the pinned program and in every row, IS THE sha256 OF THE DUMP (.gsa) THAT YtjkdkpckjgaplaaGreatProg.lean LOADS. Nothing in Lean hashes anything: it is a label: what it is worth is what the hold of that sum in a sandbox is worth. -/
noncomputable def Tryz.pinned : Pinned := { name := "ytjkdkpckjgaplaagreat", sum := "2b09853797816c1d894c7a0b175dcbd348746869d65b89798af4a6b4457e9dc0", checked := Tryz.checked }
namespace Rows
def none {H : Type} : Left H := { results := [], args := [] }

/-- 'moorsomlaw03.FormChecks': WHATEVER THE INPUT: true; the input reads as it did. -/
def formChecksSpec : ChangeSpec := { name := "formChecks", fn := fun _ => fun
  | [d1, d2] => { results := [.lit (.bool true)], args := [d1, d2] }
  | _ => none }
def formChecksRow : OpenClaim := { program := "ytjkdkpckjgaplaagreat", sum := "2b09853797816c1d894c7a0b175dcbd348746869d65b89798af4a6b4457e9dc0", func := "moorsom/moorsomlaw03.FormChecks", spec := "formChecks", unfollowed := true, recurses := true, apart := false }
def FormChecksSaid : Prop := formChecksRow.holds Tryz.pinned (OpenSpec.ofChange formChecksSpec)

/-- ITS FALSE NEIGHBOUR: 'it returns false'. Refute it at one input. -/
def formChecksWrong : ChangeSpec := { name := "formChecks", fn := fun _ => fun
  | [d1, d2] => { results := [.lit (.bool false)], args := [d1, d2] }
  | _ => none }
def FormChecksWrongFalsely : Prop := formChecksRow.holds Tryz.pinned (OpenSpec.ofChange formChecksWrong)

/-- 'moorsomlaw03.FormClaims': WHATEVER THE INPUT: true; the input reads as it did. -/
def formClaimsSpec : ChangeSpec := { name := "formClaims", fn := fun _ => fun
  | [d1, d2] => { results := [.lit (.bool true)], args := [d1, d2] }
  | _ => none }
def formClaimsRow : OpenClaim := { program := "ytjkdkpckjgaplaagreat", sum := "2b09853797816c1d894c7a0b175dcbd348746869d65b89798af4a6b4457e9dc0", func := "moorsom/moorsomlaw03.FormClaims", spec := "formClaims", unfollowed := true, recurses := true, apart := false }
def FormClaimsSaid : Prop := formClaimsRow.holds Tryz.pinned (OpenSpec.ofChange formClaimsSpec)

/-- ITS FALSE NEIGHBOUR: 'it returns false'. Refute it at one input. -/
def formClaimsWrong : ChangeSpec := { name := "formClaims", fn := fun _ => fun
  | [d1, d2] => { results := [.lit (.bool false)], args := [d1, d2] }
  | _ => none }
def FormClaimsWrongFalsely : Prop := formClaimsRow.holds Tryz.pinned (OpenSpec.ofChange formClaimsWrong)

/-- 'moorsomlaw03.FormHulls': WHATEVER THE INPUT: true; the input reads as it did. -/
def formHullsSpec : ChangeSpec := { name := "formHulls", fn := fun _ => fun
  | [d1, d2, d3] => { results := [.lit (.bool true)], args := [d1, d2, d3] }
  | _ => none }
def formHullsRow : OpenClaim := { program := "ytjkdkpckjgaplaagreat", sum := "2b09853797816c1d894c7a0b175dcbd348746869d65b89798af4a6b4457e9dc0", func := "moorsom/moorsomlaw03.FormHulls", spec := "formHulls", unfollowed := true, recurses := true, apart := false }
def FormHullsSaid : Prop := formHullsRow.holds Tryz.pinned (OpenSpec.ofChange formHullsSpec)

/-- ITS FALSE NEIGHBOUR: 'it returns false'. Refute it at one input. -/
def formHullsWrong : ChangeSpec := { name := "formHulls", fn := fun _ => fun
  | [d1, d2, d3] => { results := [.lit (.bool false)], args := [d1, d2, d3] }
  | _ => none }
def FormHullsWrongFalsely : Prop := formHullsRow.holds Tryz.pinned (OpenSpec.ofChange formHullsWrong)

/- THE SECOND FORM. 'bulk': how many values and letters a reading holds, each counted each time it is reached (what is shared counts as often as it is met; a slice's spare places count too). A statement '..UptoSaid' is the law's where the arguments, and the package variables that the reading takes, are together of bulk at most 1048576: NARROWER than '..Said'. Prove '..Said' where nothing that the law and all that it calls make is longer than what came in: it says more and counts as full. Else prove '..UptoSaid'. A law counts once. -/
mutual
def uptoBulk {H : Type} : DataW H → Nat
  | .lit (.string bytes) => bytes.length + 1
  | .lit _ => 1
  | .nil => 1
  | .ptr d => uptoBulk d + 1
  | .slice elems spare => uptoBulkAll elems + uptoBulkAll spare + 1
  | .agg parts => uptoBulkAll parts + 1
  | .iface _ d => uptoBulk d + 1
  | .map entries => uptoBulkEntries entries + 1
  | .held _ => 1
def uptoBulkAll {H : Type} : List (DataW H) → Nat
  | [] => 0
  | d :: r => uptoBulk d + uptoBulkAll r
def uptoBulkEntries {H : Type} : List (Lit × DataW H) → Nat
  | [] => 0
  | x :: r => uptoBulkEntry x + uptoBulkEntries r
def uptoBulkEntry {H : Type} : Lit × DataW H → Nat
  | (.string bytes, d) => bytes.length + uptoBulk d + 1
  | (_, d) => uptoBulk d + 1
 end
def uptoSmall : (H : Type) → List (DataW H) → Bool := fun _ ds => decide (uptoBulkAll ds ≤ 1048576)
def OpenSpec.upto (s : _root_.Go.ChangeSpec) : _root_.Go.OpenSpec := { _root_.Go.OpenSpec.ofChange s with cond := some uptoSmall }

/-- 'moorsomlaw03.FormChecks', WHERE WHAT IT READS IS OF BULK AT MOST 1048576: true; the input reads as it did. -/
def formChecksUptoRow : OpenClaim := { program := "ytjkdkpckjgaplaagreat", sum := "2b09853797816c1d894c7a0b175dcbd348746869d65b89798af4a6b4457e9dc0", func := "moorsom/moorsomlaw03.FormChecks", spec := "formChecks", unfollowed := true, recurses := true, apart := false, narrowed := true }
def FormChecksUptoSaid : Prop := formChecksUptoRow.holds Tryz.pinned (OpenSpec.upto formChecksSpec)

/-- 'moorsomlaw03.FormClaims', WHERE WHAT IT READS IS OF BULK AT MOST 1048576: true; the input reads as it did. -/
def formClaimsUptoRow : OpenClaim := { program := "ytjkdkpckjgaplaagreat", sum := "2b09853797816c1d894c7a0b175dcbd348746869d65b89798af4a6b4457e9dc0", func := "moorsom/moorsomlaw03.FormClaims", spec := "formClaims", unfollowed := true, recurses := true, apart := false, narrowed := true }
def FormClaimsUptoSaid : Prop := formClaimsUptoRow.holds Tryz.pinned (OpenSpec.upto formClaimsSpec)

/-- 'moorsomlaw03.FormHulls', WHERE WHAT IT READS IS OF BULK AT MOST 1048576: true; the input reads as it did. -/
def formHullsUptoRow : OpenClaim := { program := "ytjkdkpckjgaplaagreat", sum := "2b09853797816c1d894c7a0b175dcbd348746869d65b89798af4a6b4457e9dc0", func := "moorsom/moorsomlaw03.FormHulls", spec := "formHulls", unfollowed := true, recurses := true, apart := false, narrowed := true }
def FormHullsUptoSaid : Prop := formHullsUptoRow.holds Tryz.pinned (OpenSpec.upto formHullsSpec)

end Rows
end Go.Proofs.YtjkdkpckjgaplaaGreat
