import Derived.Test.YtoeklhdklcpllaaZc08
import Derived.Test.YtoeklhdklcpllaaZc06
import Derived.KernelRfl
set_option linter.unusedVariables false
set_option linter.unusedSimpArgs false
namespace Go.Proofs.Ytoeklhdklcpllaa
open Go Go.RowKit
namespace Ev
set_option maxRecDepth 1000000 in
theorem sane_yes : yesK Try.prog tabw 3000 12 = true := by kernel_rfl
end Ev
theorem sane_w (w : World) : Calls Try.prog 12 #[] w fun e w' => e = .returned (.bool true) /\ Below w.heap.size w w' := Ev.yes_ok Ev.tabw_holds Ev.sane_yes w
end Go.Proofs.Ytoeklhdklcpllaa
