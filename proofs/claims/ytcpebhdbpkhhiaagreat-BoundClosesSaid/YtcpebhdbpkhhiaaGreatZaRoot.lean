import Derived.Test.YtcpebhdbpkhhiaaGreatZa11
import Derived.KernelRfl
set_option linter.unusedVariables false
set_option linter.unusedSimpArgs false
/- The law package's examples hold in every world: by the evaluator, whose run the kernel makes. -/
namespace Go.Proofs.YtcpebhdbpkhhiaaGreat
open Go Go.RowKit
namespace Ev
set_option maxRecDepth 1000000 in
theorem sane_yes : yesK Tryz.prog tab 3000 17 = true := by kernel_rfl
end Ev
theorem sane_w (w : World) : Calls Tryz.prog 17 #[] w fun e w' => e = .returned (.bool true) ∧ Below w.heap.size w w' := Ev.yes_ok Ev.tab_holds Ev.sane_yes w
end Go.Proofs.YtcpebhdbpkhhiaaGreat
