/-
  No cell of these rows narrows 'for every input' (looked for: loops, veiled, ifaces, maps, wideKeys, modest, calm, conditions, laid).
  DERIVED. THE GIVEN ROWS OF THIS SEAT. 2 by the template 'for every input the law returns true; each argument reads behind the call as it read before'; 0 by the template 'total and deterministic' (their statements: YtcpebhdbpkhhiaaGreatTotals.lean).
  GIVEN WITH THE SEED: the statements are not yours to turn. If you find one false, say at which input.
  Laid BY PROGRAM, IN A SANDBOX (cutbox-rows.mjs): the forced cells as the released guide's own fill.sh prints them over the translation ab4210744c86ed83… (all of the seat's roots in one cut). By AI agents, Wed Nov 11 2026. No macro, syntax, notation, axiom, sorry.
-/
import Derived.Test.YtcpebhdbpkhhiaaGreatChecked
import GoSem.Claim
import GoSem.ClaimJoined
import GoSem.ClaimMapViews
import Derived.JoinedTies
import Derived.KernelRfl
namespace Go.Proofs.YtcpebhdbpkhhiaaGreat
/- THE CELL 'sum', in the pinned program and in every row, IS THE sha256 OF THE DUMP (.gsa) THAT YtcpebhdbpkhhiaaGreatProg.lean LOADS. Nothing in Lean hashes anything: it is a label: what it is worth is what the hold of that sum in a sandbox is worth. -/
noncomputable def Tryz.pinned : Pinned := { name := "ytcpebhdbpkhhiaagreat", sum := "ab4210744c86ed834885a3560bfa39f3689dacef42a113f779fe2fa4c31bd109", checked := Tryz.checked }
namespace Rows
def none {H : Type} : Left H := { results := [], args := [] }

/-- 'moorsomlaw02.BoundCloses': WHATEVER THE INPUT: true; the input reads as it did. -/
def boundClosesSpec : ChangeSpec := { name := "boundCloses", fn := fun _ => fun
  | [d1, d2, d3] => { results := [.lit (.bool true)], args := [d1, d2, d3] }
  | _ => none }
def boundClosesRow : OpenClaim := { program := "ytcpebhdbpkhhiaagreat", sum := "ab4210744c86ed834885a3560bfa39f3689dacef42a113f779fe2fa4c31bd109", func := "moorsom/moorsomlaw02.BoundCloses", spec := "boundCloses", unfollowed := true, recurses := true, apart := false }
def BoundClosesSaid : Prop := boundClosesRow.holds Tryz.pinned (OpenSpec.ofChange boundClosesSpec)

/-- ITS FALSE NEIGHBOUR: 'it returns false'. Refute it at one input. -/
def boundClosesWrong : ChangeSpec := { name := "boundCloses", fn := fun _ => fun
  | [d1, d2, d3] => { results := [.lit (.bool false)], args := [d1, d2, d3] }
  | _ => none }
def BoundClosesWrongFalsely : Prop := boundClosesRow.holds Tryz.pinned (OpenSpec.ofChange boundClosesWrong)

/-- 'moorsomlaw02.BoundEither': WHATEVER THE INPUT: true; the input reads as it did. -/
def boundEitherSpec : ChangeSpec := { name := "boundEither", fn := fun _ => fun
  | [d1, d2, d3] => { results := [.lit (.bool true)], args := [d1, d2, d3] }
  | _ => none }
def boundEitherRow : OpenClaim := { program := "ytcpebhdbpkhhiaagreat", sum := "ab4210744c86ed834885a3560bfa39f3689dacef42a113f779fe2fa4c31bd109", func := "moorsom/moorsomlaw02.BoundEither", spec := "boundEither", unfollowed := true, recurses := true, apart := false }
def BoundEitherSaid : Prop := boundEitherRow.holds Tryz.pinned (OpenSpec.ofChange boundEitherSpec)

/-- ITS FALSE NEIGHBOUR: 'it returns false'. Refute it at one input. -/
def boundEitherWrong : ChangeSpec := { name := "boundEither", fn := fun _ => fun
  | [d1, d2, d3] => { results := [.lit (.bool false)], args := [d1, d2, d3] }
  | _ => none }
def BoundEitherWrongFalsely : Prop := boundEitherRow.holds Tryz.pinned (OpenSpec.ofChange boundEitherWrong)

/- THE SECOND FORM. 'bulk': how many values and letters a reading holds, each counted each time it is reached (what is shared counts as often as it is met; a slice's spare places count too). A statement '..UptoSaid' is the law's where the arguments, and the package variables that the reading takes, are together of bulk at most 1048576: NARROWER than '..Said'. Prove '..Said' where nothing that the law and all that it calls make is longer than what came in: it says more and counts as full. Else prove '..UptoSaid'. A law counts once. -/
mutual
def uptoBulk {H : Type} : DataW H → Nat
  | .lit (.string bytes) => bytes.length + 1
  | .lit _ => 1
  | .nil => 1
  | .ptr d => uptoBulk d + 1
  | .slice elems spare => uptoBulkAll elems + uptoBulkAll spare + 1
  | .agg parts => uptoBulkAll parts + 1
  | .iface _ d => uptoBulk d + 1
  | .map entries => uptoBulkEntries entries + 1
  | .held _ => 1
def uptoBulkAll {H : Type} : List (DataW H) → Nat
  | [] => 0
  | d :: r => uptoBulk d + uptoBulkAll r
def uptoBulkEntries {H : Type} : List (Lit × DataW H) → Nat
  | [] => 0
  | x :: r => uptoBulkEntry x + uptoBulkEntries r
def uptoBulkEntry {H : Type} : Lit × DataW H → Nat
  | (.string bytes, d) => bytes.length + uptoBulk d + 1
  | (_, d) => uptoBulk d + 1
 end
def uptoSmall : (H : Type) → List (DataW H) → Bool := fun _ ds => decide (uptoBulkAll ds ≤ 1048576)
def OpenSpec.upto (s : _root_.Go.ChangeSpec) : _root_.Go.OpenSpec := { _root_.Go.OpenSpec.ofChange s with cond := some uptoSmall }

/-- 'moorsomlaw02.BoundCloses', WHERE WHAT IT READS IS OF BULK AT MOST 1048576: true; the input reads as it did. -/
def boundClosesUptoRow : OpenClaim := { program := "ytcpebhdbpkhhiaagreat", sum := "ab4210744c86ed834885a3560bfa39f3689dacef42a113f779fe2fa4c31bd109", func := "moorsom/moorsomlaw02.BoundCloses", spec := "boundCloses", unfollowed := true, recurses := true, apart := false, narrowed := true }
def BoundClosesUptoSaid : Prop := boundClosesUptoRow.holds Tryz.pinned (OpenSpec.upto boundClosesSpec)

/-- 'moorsomlaw02.BoundEither', WHERE WHAT IT READS IS OF BULK AT MOST 1048576: true; the input reads as it did. -/
def boundEitherUptoRow : OpenClaim := { program := "ytcpebhdbpkhhiaagreat", sum := "ab4210744c86ed834885a3560bfa39f3689dacef42a113f779fe2fa4c31bd109", func := "moorsom/moorsomlaw02.BoundEither", spec := "boundEither", unfollowed := true, recurses := true, apart := false, narrowed := true }
def BoundEitherUptoSaid : Prop := boundEitherUptoRow.holds Tryz.pinned (OpenSpec.upto boundEitherSpec)

end Rows
end Go.Proofs.YtcpebhdbpkhhiaaGreat
