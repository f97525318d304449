import Derived.Test.YtbkdffjdeplcgaaRpt
import Derived.Lib.AppendZerosOnto
set_option linter.unusedVariables false
set_option linter.unusedSimpArgs false
namespace Go.Proofs.Ytbkdffjdeplcgaa
open Go.RowKit

set_option maxRecDepth 100000 in
set_option maxHeartbeats 2000000 in
/-- Room for n numbers, from nothing. -/
theorem grow_w (n : Nat) (w : World) (_h0 : 1 ≤ n) (_h1 : n ≤ 1000) :
    Calls Try.prog 91 #[.slice none 0 0, .int .i64 n] w fun e w' => ∃ g cap, e = .returned (.slice (some ⟨g, 0, none⟩) 0 cap) ∧ Own w.heap.size w' (.slice (some ⟨g, 0, none⟩) 0 cap) [] ∧ Below w.heap.size w w' := by
  have hge := grownCap_ge w n 0 3
  have hle := grownCap_le_maxLen w n 0 3 (by unfold maxLen; omega)
  have hc : grownCap w n 0 3 = (Question.appendCap n 0 3).cut (w.tape w.drawn (Question.appendCap n 0 3)) := rfl
  rw [hc] at hge hle
  clear hc
  have HGE := hide hge; have HLE := hide hle
  clear hge hle
  have hb8 : Try.t3.bytes = 8 := rfl
  have hns : Builtin.nextslicecap n 0 = n := by unfold Builtin.nextslicecap; split <;> omega
  have hb9 : ¬ (281474976710656 < (n : Int) * 8) := by omega
  have hb10 : ¬ (281474976710656 < n * 8) := by omega
  have hn0 : ¬ n = 0 := by omega
  have hp : (0 : Int) < n := by omega
  go_enter Try.func91, Try.ntmps91
  go_wp2
  go_ret
  refine ⟨_, _, rfl, ?_, by first | exact (Below.drew (Below.refl _ _)).alloc (Nat.le_refl _) _ | exact Below.drew ((Below.refl _ _).alloc (Nat.le_refl _) _)⟩
  exact World.ownsRow_made (base := w.heap.size) (e := 3) (size := 1) w _ _ (Nat.le_refl _) HLE.out (by rw [Array.size_append, size_zeroCells, size_zeroCells]; have := HGE.out; simp; omega)
end Go.Proofs.Ytbkdffjdeplcgaa
