/-
  No cell of these rows narrows 'for every input' (looked for: loops, veiled, ifaces, maps, wideKeys, modest, calm, conditions, laid).
  DERIVED. THE GIVEN ROWS OF THIS SEAT. 4 by the template 'for every input the law returns true; each argument reads behind the call as it read before'; 0 by the template 'total and deterministic' (their statements: YtoeklhdklcpllaaGreatTotals.lean).
  GIVEN WITH THE SEED: the statements are not yours to turn. If you find one false, say at which input.
  Laid BY PROGRAM, IN A SANDBOX (cutbox-rows.mjs): the forced cells as the released guide's own fill.sh prints them over the translation 47c15f9366355f7e… (all of the seat's roots in one cut). By AI agents, Wed Nov 11 2026. No macro, syntax, notation, axiom, sorry.
-/
import Derived.Test.YtoeklhdklcpllaaGreatChecked
import GoSem.Claim
import GoSem.ClaimJoined
import GoSem.ClaimMapViews
import Derived.JoinedTies
import Derived.KernelRfl
namespace Go.Proofs.YtoeklhdklcpllaaGreat
/- THE CELL 'sum', in the pinned program and in every row, IS THE sha256 OF THE DUMP (.gsa) THAT YtoeklhdklcpllaaGreatProg.lean LOADS. Nothing in Lean hashes anything: it is a label: what it is worth is what the hold of that sum in a sandbox is worth. -/
noncomputable def Tryz.pinned : Pinned := { name := "ytoeklhdklcpllaagreat", sum := "47c15f9366355f7e058f3daac1b7db24e1a9426a52b3913aaf1ab50a3c03fdf4", checked := Tryz.checked }
namespace Rows
def none {H : Type} : Left H := { results := [], args := [] }

/-- 'moorsomlaw02.BoundEnds': WHATEVER THE INPUT: true; the input reads as it did. -/
def boundEndsSpec : ChangeSpec := { name := "boundEnds", fn := fun _ => fun
  | [d1, d2] => { results := [.lit (.bool true)], args := [d1, d2] }
  | _ => none }
def boundEndsRow : OpenClaim := { program := "ytoeklhdklcpllaagreat", sum := "47c15f9366355f7e058f3daac1b7db24e1a9426a52b3913aaf1ab50a3c03fdf4", func := "moorsom/moorsomlaw02.BoundEnds", spec := "boundEnds", unfollowed := true, recurses := true, apart := false }
def BoundEndsSaid : Prop := boundEndsRow.holds Tryz.pinned (OpenSpec.ofChange boundEndsSpec)

/-- ITS FALSE NEIGHBOUR: 'it returns false'. Refute it at one input. -/
def boundEndsWrong : ChangeSpec := { name := "boundEnds", fn := fun _ => fun
  | [d1, d2] => { results := [.lit (.bool false)], args := [d1, d2] }
  | _ => none }
def BoundEndsWrongFalsely : Prop := boundEndsRow.holds Tryz.pinned (OpenSpec.ofChange boundEndsWrong)

/-- 'moorsomlaw02.BoundMoves': WHATEVER THE INPUT: true; the input reads as it did. -/
def boundMovesSpec : ChangeSpec := { name := "boundMoves", fn := fun _ => fun
  | [d1, d2, d3] => { results := [.lit (.bool true)], args := [d1, d2, d3] }
  | _ => none }
def boundMovesRow : OpenClaim := { program := "ytoeklhdklcpllaagreat", sum := "47c15f9366355f7e058f3daac1b7db24e1a9426a52b3913aaf1ab50a3c03fdf4", func := "moorsom/moorsomlaw02.BoundMoves", spec := "boundMoves", unfollowed := true, recurses := true, apart := false }
def BoundMovesSaid : Prop := boundMovesRow.holds Tryz.pinned (OpenSpec.ofChange boundMovesSpec)

/-- ITS FALSE NEIGHBOUR: 'it returns false'. Refute it at one input. -/
def boundMovesWrong : ChangeSpec := { name := "boundMoves", fn := fun _ => fun
  | [d1, d2, d3] => { results := [.lit (.bool false)], args := [d1, d2, d3] }
  | _ => none }
def BoundMovesWrongFalsely : Prop := boundMovesRow.holds Tryz.pinned (OpenSpec.ofChange boundMovesWrong)

/-- 'moorsomlaw02.BoundGreatest': WHATEVER THE INPUT: true; the input reads as it did. -/
def boundGreatestSpec : ChangeSpec := { name := "boundGreatest", fn := fun _ => fun
  | [d1, d2, d3] => { results := [.lit (.bool true)], args := [d1, d2, d3] }
  | _ => none }
def boundGreatestRow : OpenClaim := { program := "ytoeklhdklcpllaagreat", sum := "47c15f9366355f7e058f3daac1b7db24e1a9426a52b3913aaf1ab50a3c03fdf4", func := "moorsom/moorsomlaw02.BoundGreatest", spec := "boundGreatest", unfollowed := true, recurses := true, apart := false }
def BoundGreatestSaid : Prop := boundGreatestRow.holds Tryz.pinned (OpenSpec.ofChange boundGreatestSpec)

/-- ITS FALSE NEIGHBOUR: 'it returns false'. Refute it at one input. -/
def boundGreatestWrong : ChangeSpec := { name := "boundGreatest", fn := fun _ => fun
  | [d1, d2, d3] => { results := [.lit (.bool false)], args := [d1, d2, d3] }
  | _ => none }
def BoundGreatestWrongFalsely : Prop := boundGreatestRow.holds Tryz.pinned (OpenSpec.ofChange boundGreatestWrong)

/-- 'moorsomlaw02.BoundTaken': WHATEVER THE INPUT: true; the input reads as it did. -/
def boundTakenSpec : ChangeSpec := { name := "boundTaken", fn := fun _ => fun
  | [d1, d2, d3] => { results := [.lit (.bool true)], args := [d1, d2, d3] }
  | _ => none }
def boundTakenRow : OpenClaim := { program := "ytoeklhdklcpllaagreat", sum := "47c15f9366355f7e058f3daac1b7db24e1a9426a52b3913aaf1ab50a3c03fdf4", func := "moorsom/moorsomlaw02.BoundTaken", spec := "boundTaken", unfollowed := true, recurses := true, apart := false }
def BoundTakenSaid : Prop := boundTakenRow.holds Tryz.pinned (OpenSpec.ofChange boundTakenSpec)

/-- ITS FALSE NEIGHBOUR: 'it returns false'. Refute it at one input. -/
def boundTakenWrong : ChangeSpec := { name := "boundTaken", fn := fun _ => fun
  | [d1, d2, d3] => { results := [.lit (.bool false)], args := [d1, d2, d3] }
  | _ => none }
def BoundTakenWrongFalsely : Prop := boundTakenRow.holds Tryz.pinned (OpenSpec.ofChange boundTakenWrong)

/- THE SECOND FORM. 'bulk': how many values and letters a reading holds, each counted each time it is reached (what is shared counts as often as it is met; a slice's spare places count too). A statement '..UptoSaid' is the law's where the arguments, and the package variables that the reading takes, are together of bulk at most 1048576: NARROWER than '..Said'. Prove '..Said' where nothing that the law and all that it calls make is longer than what came in: it says more and counts as full. Else prove '..UptoSaid'. A law counts once. -/
mutual
def uptoBulk {H : Type} : DataW H → Nat
  | .lit (.string bytes) => bytes.length + 1
  | .lit _ => 1
  | .nil => 1
  | .ptr d => uptoBulk d + 1
  | .slice elems spare => uptoBulkAll elems + uptoBulkAll spare + 1
  | .agg parts => uptoBulkAll parts + 1
  | .iface _ d => uptoBulk d + 1
  | .map entries => uptoBulkEntries entries + 1
  | .held _ => 1
def uptoBulkAll {H : Type} : List (DataW H) → Nat
  | [] => 0
  | d :: r => uptoBulk d + uptoBulkAll r
def uptoBulkEntries {H : Type} : List (Lit × DataW H) → Nat
  | [] => 0
  | x :: r => uptoBulkEntry x + uptoBulkEntries r
def uptoBulkEntry {H : Type} : Lit × DataW H → Nat
  | (.string bytes, d) => bytes.length + uptoBulk d + 1
  | (_, d) => uptoBulk d + 1
 end
def uptoSmall : (H : Type) → List (DataW H) → Bool := fun _ ds => decide (uptoBulkAll ds ≤ 1048576)
def OpenSpec.upto (s : _root_.Go.ChangeSpec) : _root_.Go.OpenSpec := { _root_.Go.OpenSpec.ofChange s with cond := some uptoSmall }

/-- 'moorsomlaw02.BoundEnds', WHERE WHAT IT READS IS OF BULK AT MOST 1048576: true; the input reads as it did. -/
def boundEndsUptoRow : OpenClaim := { program := "ytoeklhdklcpllaagreat", sum := "47c15f9366355f7e058f3daac1b7db24e1a9426a52b3913aaf1ab50a3c03fdf4", func := "moorsom/moorsomlaw02.BoundEnds", spec := "boundEnds", unfollowed := true, recurses := true, apart := false, narrowed := true }
def BoundEndsUptoSaid : Prop := boundEndsUptoRow.holds Tryz.pinned (OpenSpec.upto boundEndsSpec)

/-- 'moorsomlaw02.BoundMoves', WHERE WHAT IT READS IS OF BULK AT MOST 1048576: true; the input reads as it did. -/
def boundMovesUptoRow : OpenClaim := { program := "ytoeklhdklcpllaagreat", sum := "47c15f9366355f7e058f3daac1b7db24e1a9426a52b3913aaf1ab50a3c03fdf4", func := "moorsom/moorsomlaw02.BoundMoves", spec := "boundMoves", unfollowed := true, recurses := true, apart := false, narrowed := true }
def BoundMovesUptoSaid : Prop := boundMovesUptoRow.holds Tryz.pinned (OpenSpec.upto boundMovesSpec)

/-- 'moorsomlaw02.BoundGreatest', WHERE WHAT IT READS IS OF BULK AT MOST 1048576: true; the input reads as it did. -/
def boundGreatestUptoRow : OpenClaim := { program := "ytoeklhdklcpllaagreat", sum := "47c15f9366355f7e058f3daac1b7db24e1a9426a52b3913aaf1ab50a3c03fdf4", func := "moorsom/moorsomlaw02.BoundGreatest", spec := "boundGreatest", unfollowed := true, recurses := true, apart := false, narrowed := true }
def BoundGreatestUptoSaid : Prop := boundGreatestUptoRow.holds Tryz.pinned (OpenSpec.upto boundGreatestSpec)

/-- 'moorsomlaw02.BoundTaken', WHERE WHAT IT READS IS OF BULK AT MOST 1048576: true; the input reads as it did. -/
def boundTakenUptoRow : OpenClaim := { program := "ytoeklhdklcpllaagreat", sum := "47c15f9366355f7e058f3daac1b7db24e1a9426a52b3913aaf1ab50a3c03fdf4", func := "moorsom/moorsomlaw02.BoundTaken", spec := "boundTaken", unfollowed := true, recurses := true, apart := false, narrowed := true }
def BoundTakenUptoSaid : Prop := boundTakenUptoRow.holds Tryz.pinned (OpenSpec.upto boundTakenSpec)

end Rows
end Go.Proofs.YtoeklhdklcpllaaGreat
