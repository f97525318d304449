/- The program's function WeighVolumes, called with any arguments that the row allows, returns true, ends in any run, and changes nothing that was there before the call. Conditions: those of the row itself (the machine of the checked program), and no other. -/
import Derived.Test.YtbkdffjdeplcgaaRows
import Derived.Test.YtbkdffjdeplcgaaArr
import Derived.Test.YtbkdffjdeplcgaaLvm
import Derived.WalkKit
import Derived.ProofKit
import Derived.OpenShut
import Derived.ShutString
import Derived.ChangeOld
import Derived.Below
import Derived.Lib.SmallJoins
set_option linter.unusedVariables false
set_option linter.unusedSimpArgs false
namespace Go.Proofs.Ytbkdffjdeplcgaa.weighVolumes
open Go.ChangeShapes Go.WideShapes Go.ChangeAt Go.RowKit
open Go.ChangeMaps (open_string shut_string)
set_option linter.unusedVariables false
open Go.Joins

theorem cellsS3 : Try.prog.cellsOf 67 = 3 := by kernel_rfl
theorem cellsLS3 : Try.prog.cellsOf 38 = 1 := by kernel_rfl
theorem open_S3 {H : Type} {enc : TypeId × Value → H} {W : World} {r : Reach} {b0 : Nat} {v : Value} {d : DataW H} {p : List MemPlace} (hv : Value.okWide Try.prog W r b0 67 v) (h : DataW.Trod enc Try.prog W 0 (fun _ => true) true 67 v d p) (hz : ∀ x ∈ DataW.weights Try.prog 67 d, x ≤ reachBytes) :
    ∃ a0 n0 c0 y0 a1 n1 c1 y1 a2 n2 c2 y2, v = .agg #[.slice a0 n0 c0, .slice a1 n1 c1, .slice a2 n2 c2] ∧ IsL W (.slice a0 n0 c0) y0 ∧ y0.length ≤ 1000000000000000000 ∧ IsL W (.slice a1 n1 c1) y1 ∧ y1.length ≤ 1000000000000000000 ∧ IsL W (.slice a2 n2 c2) y2 ∧ y2.length ≤ 1000000000000000000 := by
  simp only [Value.okWide, Try.underlying67] at hv
  obtain ⟨cs, rfl, h2, _⟩ := hv
  obtain ⟨fuel, hf⟩ := h
  obtain ⟨hl, he⟩ := arr_each (cs := cs.toList) cellsLS3 Try.underlying67 cellsS3 hf
  obtain ⟨s0, d0, p0, m0, hs0, ht0, hw0⟩ := he 0 (by decide)
  obtain ⟨a0, n0, c0, y0, rfl, hL0, hB0⟩ := row_cell ht0 (fun x hx => hz x (hw0 x hx))
  obtain ⟨s1, d1, p1, m1, hs1, ht1, hw1⟩ := he 1 (by decide)
  obtain ⟨a1, n1, c1, y1, rfl, hL1, hB1⟩ := row_cell ht1 (fun x hx => hz x (hw1 x hx))
  obtain ⟨s2, d2, p2, m2, hs2, ht2, hw2⟩ := he 2 (by decide)
  obtain ⟨a2, n2, c2, y2, rfl, hL2, hB2⟩ := row_cell ht2 (fun x hx => hz x (hw2 x hx))
  refine ⟨a0, n0, c0, y0, a1, n1, c1, y1, a2, n2, c2, y2, ?_, hL0, hB0, hL1, hB1, hL2, hB2⟩
  have e : cs = (cs.toList).toArray := by simp
  have hcs : cs.toList = [.slice a0 n0 c0, .slice a1 n1 c1, .slice a2 n2 c2] := by
    apply List.ext_getElem?
    intro i
    match i with
    | 0 => simpa using hs0
    | 1 => simpa using hs1
    | 2 => simpa using hs2
    | i + 3 => rw [List.getElem?_eq_none (by omega), List.getElem?_eq_none (by simp)]
  rw [e, hcs]

set_option maxRecDepth 100000 in
theorem lifted (os : Os) (started : os.Started) (H : Type) (enc : TypeId × Value → H) :
    ReturnsInHanded {} Try.checked os 11 .any (Rows.weighVolumesSpec.pre6 enc Try.prog Try.f11 Rows.weighVolumesRow.domain false) (Rows.weighVolumesSpec.post enc Try.prog Try.f11 false true false false) := by
  refine returnsInHanded_of_change_sized (C := Try.checked) own started (by kernel_rfl) Try.func11
    (ChangeSpec.witness6 (enc := enc) (C := Try.checked) false ⟨#[], #[.agg #[.slice none 0 0, .slice none 0 0, .slice none 0 0], .int .i64 0], []⟩ 8 (by kernel_rfl) (by kernel_rfl) (by kernel_rfl) (by kernel_rfl)) ?_
  intro W base args ds gs before hval0 hW hcnd hsz0 _
  have hval : ∀ (j : Nat) t v, Try.f11.params[j]? = some t → args[j]? = some v → Value.okWide Try.prog W .any base t v := hval0
  have hsz : (DataW.weightsEach Try.prog (Try.f11.params.toList ++ Rows.weighVolumesSpec.plain.varTypes Try.prog) (ds ++ gs)).all (· ≤ reachBytes) = true := hsz0
  have hW' := hW
  obtain ⟨p, q, hA0, hV, rfl, hfz, hnd⟩ := hW
  have hA : DataW.TrodAll enc Try.prog W 0 (fun _ => true) true Try.f11.params.toList args.toList ds p := hA0
  rw [Try.params11] at hA hval hsz
  obtain ⟨v0, vs0, d0, ds0, p0, q0, hargs, rfl, rfl, h0, r0⟩ := trodAll_cons hA
  obtain ⟨v1, vs1, d1, ds1, p1, q1, rfl, rfl, rfl, h1, r1⟩ := trodAll_cons r0
  obtain ⟨rfl, rfl, rfl⟩ := trodAll_nil r1
  obtain rfl : args = #[v0, v1] := by cases args; simp_all
  obtain ⟨rfl, rfl⟩ := trodVars_none hV
  have k0 := h0; have k1 := h1
  have lt0 : ∀ x ∈ p0, x.block < W.heap.size := by obtain ⟨m, hm⟩ := k0; exact DataW.trod_lt m _ _ _ hm
  have lt1 : ∀ x ∈ p1, x.block < W.heap.size := by obtain ⟨m, hm⟩ := k1; exact DataW.trod_lt m _ _ _ hm
  obtain ⟨a0_0, n0_0, c0_0, y0_0, a0_1, n0_1, c0_1, y0_1, a0_2, n0_2, c0_2, y0_2, rfl, w0_0, bz0_0, w0_1, bz0_1, w0_2, bz0_2⟩ := open_S3 (hval 0 67 v0 rfl rfl) h0 (weights_at hsz (j := 0) rfl rfl)
  obtain ⟨a1, rfl, rfl, rfl, w1⟩ := open_int Try.underlying3 (hval 1 3 v1 rfl rfl) h1
  clear hA0 hval0
  refine (lawVolumes_w W a0_0 n0_0 c0_0 y0_0 a0_1 n0_1 c0_1 y0_1 a0_2 n0_2 c0_2 y0_2 w0_0 bz0_0 w0_1 bz0_1 w0_2 bz0_2 a1 (wf_FB w1)).mono fun e W' ⟨he, bel⟩ => ?_
  subst he
  exact ⟨_, rfl, _, _, _, [], _, [], hW', trodAll_mk1 (shut_bool Try.underlying4 _), (trodAll_cons_mk (Below.trod laidOut (by kernel_rfl) (of_decide_eq_true (by kernel_rfl)) k0 bel lt0) (trodAll_cons_mk (shut_int Try.underlying3 w1) trodAll_mk0)), rfl, bel.frame _, fun h => by cases h⟩

theorem over : Rows.weighVolumesRow.holds Try.pinned (OpenSpec.ofChange Rows.weighVolumesSpec) :=
  OpenClaim.holds_of_wide 11 Try.f11 rfl rfl rfl rfl rfl rfl rfl ⟨rfl, rfl, rfl, rfl, rfl⟩ rfl rfl rfl rfl rfl (by kernel_rfl) Try.func11 (by kernel_rfl)
    (of_decide_eq_true (by kernel_rfl)) (by unfold Func.isWrapper; first | (rw [if_pos (by decide +kernel)]; kernel_rfl) | (rw [if_neg (by decide +kernel)]; exact ⟨rfl, rfl⟩))
    (fun os started H enc _ => lifted os started H enc)

theorem proved : Rows.WeighVolumesSaid := over
#print axioms proved
end Go.Proofs.Ytbkdffjdeplcgaa.weighVolumes
