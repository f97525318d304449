/-
  No cell of these rows narrows 'for every input' (looked for: loops, veiled, ifaces, maps, wideKeys, modest, calm, conditions, laid).
  DERIVED. THE GIVEN ROWS OF THIS SEAT. 5 by the template 'for every input the law returns true; each argument reads behind the call as it read before'; 0 by the template 'total and deterministic' (their statements: YtoeklhdklcpllaaTotals.lean).
  GIVEN WITH THE SEED: the statements are not yours to turn. If you find one false, say at which input.
  Laid BY PROGRAM, IN A SANDBOX (cutbox-rows.mjs): the forced cells as the released guide's own fill.sh prints them over the translation 12489c6224048a3b… (all of the seat's roots in one cut). By AI agents, Wed Nov 11 2026. No macro, syntax, notation, axiom, sorry.
-/
import Derived.Test.YtoeklhdklcpllaaChecked
import GoSem.Claim
import GoSem.ClaimJoined
import GoSem.ClaimMapViews
import Derived.JoinedTies
import Derived.KernelRfl
namespace Go.Proofs.Ytoeklhdklcpllaa
/- THE CELL 'sum', in the pinned program and in every row, IS THE sha256 OF THE DUMP (.gsa) THAT YtoeklhdklcpllaaProg.lean LOADS. Nothing in Lean hashes anything: it is a label: what it is worth is what the hold of that sum in a sandbox is worth. -/
noncomputable def Try.pinned : Pinned := { name := "ytoeklhdklcpllaa", sum := "12489c6224048a3bd9e3af1a72433c1bc65e40eb5ec61f971c4af8a7b66b1be8", checked := Try.checked }
namespace Rows
def none {H : Type} : Left H := { results := [], args := [] }

/-- 'moorsomlaw02.BoundOpens': WHATEVER THE INPUT: true; the input reads as it did. -/
def boundOpensSpec : ChangeSpec := { name := "boundOpens", fn := fun _ => fun
  | [d1, d2, d3] => { results := [.lit (.bool true)], args := [d1, d2, d3] }
  | _ => none }
def boundOpensRow : OpenClaim := { program := "ytoeklhdklcpllaa", sum := "12489c6224048a3bd9e3af1a72433c1bc65e40eb5ec61f971c4af8a7b66b1be8", func := "moorsom/moorsomlaw02.BoundOpens", spec := "boundOpens", unfollowed := true, recurses := true, apart := false }
def BoundOpensSaid : Prop := boundOpensRow.holds Try.pinned (OpenSpec.ofChange boundOpensSpec)

/-- ITS FALSE NEIGHBOUR: 'it returns false'. Refute it at one input. -/
def boundOpensWrong : ChangeSpec := { name := "boundOpens", fn := fun _ => fun
  | [d1, d2, d3] => { results := [.lit (.bool false)], args := [d1, d2, d3] }
  | _ => none }
def BoundOpensWrongFalsely : Prop := boundOpensRow.holds Try.pinned (OpenSpec.ofChange boundOpensWrong)

/-- 'moorsomlaw02.BoundWhole': WHATEVER THE INPUT: true; the input reads as it did. -/
def boundWholeSpec : ChangeSpec := { name := "boundWhole", fn := fun _ => fun
  | [d1, d2, d3] => { results := [.lit (.bool true)], args := [d1, d2, d3] }
  | _ => none }
def boundWholeRow : OpenClaim := { program := "ytoeklhdklcpllaa", sum := "12489c6224048a3bd9e3af1a72433c1bc65e40eb5ec61f971c4af8a7b66b1be8", func := "moorsom/moorsomlaw02.BoundWhole", spec := "boundWhole", unfollowed := true, recurses := true, apart := false }
def BoundWholeSaid : Prop := boundWholeRow.holds Try.pinned (OpenSpec.ofChange boundWholeSpec)

/-- ITS FALSE NEIGHBOUR: 'it returns false'. Refute it at one input. -/
def boundWholeWrong : ChangeSpec := { name := "boundWhole", fn := fun _ => fun
  | [d1, d2, d3] => { results := [.lit (.bool false)], args := [d1, d2, d3] }
  | _ => none }
def BoundWholeWrongFalsely : Prop := boundWholeRow.holds Try.pinned (OpenSpec.ofChange boundWholeWrong)

/-- 'moorsomlaw02.BoundClosed': WHATEVER THE INPUT: true; the input reads as it did. -/
def boundClosedSpec : ChangeSpec := { name := "boundClosed", fn := fun _ => fun
  | [d1, d2, d3] => { results := [.lit (.bool true)], args := [d1, d2, d3] }
  | _ => none }
def boundClosedRow : OpenClaim := { program := "ytoeklhdklcpllaa", sum := "12489c6224048a3bd9e3af1a72433c1bc65e40eb5ec61f971c4af8a7b66b1be8", func := "moorsom/moorsomlaw02.BoundClosed", spec := "boundClosed", unfollowed := true, recurses := true, apart := false }
def BoundClosedSaid : Prop := boundClosedRow.holds Try.pinned (OpenSpec.ofChange boundClosedSpec)

/-- ITS FALSE NEIGHBOUR: 'it returns false'. Refute it at one input. -/
def boundClosedWrong : ChangeSpec := { name := "boundClosed", fn := fun _ => fun
  | [d1, d2, d3] => { results := [.lit (.bool false)], args := [d1, d2, d3] }
  | _ => none }
def BoundClosedWrongFalsely : Prop := boundClosedRow.holds Try.pinned (OpenSpec.ofChange boundClosedWrong)

/-- 'moorsomlaw02.BoundConflicts': WHATEVER THE INPUT: true; the input reads as it did. -/
def boundConflictsSpec : ChangeSpec := { name := "boundConflicts", fn := fun _ => fun
  | [d1, d2] => { results := [.lit (.bool true)], args := [d1, d2] }
  | _ => none }
def boundConflictsRow : OpenClaim := { program := "ytoeklhdklcpllaa", sum := "12489c6224048a3bd9e3af1a72433c1bc65e40eb5ec61f971c4af8a7b66b1be8", func := "moorsom/moorsomlaw02.BoundConflicts", spec := "boundConflicts", unfollowed := true, recurses := true, apart := false }
def BoundConflictsSaid : Prop := boundConflictsRow.holds Try.pinned (OpenSpec.ofChange boundConflictsSpec)

/-- ITS FALSE NEIGHBOUR: 'it returns false'. Refute it at one input. -/
def boundConflictsWrong : ChangeSpec := { name := "boundConflicts", fn := fun _ => fun
  | [d1, d2] => { results := [.lit (.bool false)], args := [d1, d2] }
  | _ => none }
def BoundConflictsWrongFalsely : Prop := boundConflictsRow.holds Try.pinned (OpenSpec.ofChange boundConflictsWrong)

/-- 'moorsomlaw02.BoundIdle': WHATEVER THE INPUT: true; the input reads as it did. -/
def boundIdleSpec : ChangeSpec := { name := "boundIdle", fn := fun _ => fun
  | [d1, d2, d3] => { results := [.lit (.bool true)], args := [d1, d2, d3] }
  | _ => none }
def boundIdleRow : OpenClaim := { program := "ytoeklhdklcpllaa", sum := "12489c6224048a3bd9e3af1a72433c1bc65e40eb5ec61f971c4af8a7b66b1be8", func := "moorsom/moorsomlaw02.BoundIdle", spec := "boundIdle", unfollowed := true, recurses := true, apart := false }
def BoundIdleSaid : Prop := boundIdleRow.holds Try.pinned (OpenSpec.ofChange boundIdleSpec)

/-- ITS FALSE NEIGHBOUR: 'it returns false'. Refute it at one input. -/
def boundIdleWrong : ChangeSpec := { name := "boundIdle", fn := fun _ => fun
  | [d1, d2, d3] => { results := [.lit (.bool false)], args := [d1, d2, d3] }
  | _ => none }
def BoundIdleWrongFalsely : Prop := boundIdleRow.holds Try.pinned (OpenSpec.ofChange boundIdleWrong)

/- THE SECOND FORM. 'bulk': how many values and letters a reading holds, each counted each time it is reached (what is shared counts as often as it is met; a slice's spare places count too). A statement '..UptoSaid' is the law's where the arguments, and the package variables that the reading takes, are together of bulk at most 1048576: NARROWER than '..Said'. Prove '..Said' where nothing that the law and all that it calls make is longer than what came in: it says more and counts as full. Else prove '..UptoSaid'. A law counts once. -/
mutual
def uptoBulk {H : Type} : DataW H → Nat
  | .lit (.string bytes) => bytes.length + 1
  | .lit _ => 1
  | .nil => 1
  | .ptr d => uptoBulk d + 1
  | .slice elems spare => uptoBulkAll elems + uptoBulkAll spare + 1
  | .agg parts => uptoBulkAll parts + 1
  | .iface _ d => uptoBulk d + 1
  | .map entries => uptoBulkEntries entries + 1
  | .held _ => 1
def uptoBulkAll {H : Type} : List (DataW H) → Nat
  | [] => 0
  | d :: r => uptoBulk d + uptoBulkAll r
def uptoBulkEntries {H : Type} : List (Lit × DataW H) → Nat
  | [] => 0
  | x :: r => uptoBulkEntry x + uptoBulkEntries r
def uptoBulkEntry {H : Type} : Lit × DataW H → Nat
  | (.string bytes, d) => bytes.length + uptoBulk d + 1
  | (_, d) => uptoBulk d + 1
 end
def uptoSmall : (H : Type) → List (DataW H) → Bool := fun _ ds => decide (uptoBulkAll ds ≤ 1048576)
def OpenSpec.upto (s : _root_.Go.ChangeSpec) : _root_.Go.OpenSpec := { _root_.Go.OpenSpec.ofChange s with cond := some uptoSmall }

/-- 'moorsomlaw02.BoundOpens', WHERE WHAT IT READS IS OF BULK AT MOST 1048576: true; the input reads as it did. -/
def boundOpensUptoRow : OpenClaim := { program := "ytoeklhdklcpllaa", sum := "12489c6224048a3bd9e3af1a72433c1bc65e40eb5ec61f971c4af8a7b66b1be8", func := "moorsom/moorsomlaw02.BoundOpens", spec := "boundOpens", unfollowed := true, recurses := true, apart := false, narrowed := true }
def BoundOpensUptoSaid : Prop := boundOpensUptoRow.holds Try.pinned (OpenSpec.upto boundOpensSpec)

/-- 'moorsomlaw02.BoundWhole', WHERE WHAT IT READS IS OF BULK AT MOST 1048576: true; the input reads as it did. -/
def boundWholeUptoRow : OpenClaim := { program := "ytoeklhdklcpllaa", sum := "12489c6224048a3bd9e3af1a72433c1bc65e40eb5ec61f971c4af8a7b66b1be8", func := "moorsom/moorsomlaw02.BoundWhole", spec := "boundWhole", unfollowed := true, recurses := true, apart := false, narrowed := true }
def BoundWholeUptoSaid : Prop := boundWholeUptoRow.holds Try.pinned (OpenSpec.upto boundWholeSpec)

/-- 'moorsomlaw02.BoundClosed', WHERE WHAT IT READS IS OF BULK AT MOST 1048576: true; the input reads as it did. -/
def boundClosedUptoRow : OpenClaim := { program := "ytoeklhdklcpllaa", sum := "12489c6224048a3bd9e3af1a72433c1bc65e40eb5ec61f971c4af8a7b66b1be8", func := "moorsom/moorsomlaw02.BoundClosed", spec := "boundClosed", unfollowed := true, recurses := true, apart := false, narrowed := true }
def BoundClosedUptoSaid : Prop := boundClosedUptoRow.holds Try.pinned (OpenSpec.upto boundClosedSpec)

/-- 'moorsomlaw02.BoundConflicts', WHERE WHAT IT READS IS OF BULK AT MOST 1048576: true; the input reads as it did. -/
def boundConflictsUptoRow : OpenClaim := { program := "ytoeklhdklcpllaa", sum := "12489c6224048a3bd9e3af1a72433c1bc65e40eb5ec61f971c4af8a7b66b1be8", func := "moorsom/moorsomlaw02.BoundConflicts", spec := "boundConflicts", unfollowed := true, recurses := true, apart := false, narrowed := true }
def BoundConflictsUptoSaid : Prop := boundConflictsUptoRow.holds Try.pinned (OpenSpec.upto boundConflictsSpec)

/-- 'moorsomlaw02.BoundIdle', WHERE WHAT IT READS IS OF BULK AT MOST 1048576: true; the input reads as it did. -/
def boundIdleUptoRow : OpenClaim := { program := "ytoeklhdklcpllaa", sum := "12489c6224048a3bd9e3af1a72433c1bc65e40eb5ec61f971c4af8a7b66b1be8", func := "moorsom/moorsomlaw02.BoundIdle", spec := "boundIdle", unfollowed := true, recurses := true, apart := false, narrowed := true }
def BoundIdleUptoSaid : Prop := boundIdleUptoRow.holds Try.pinned (OpenSpec.upto boundIdleSpec)

end Rows
end Go.Proofs.Ytoeklhdklcpllaa
