/- The program's function WeighSums, called with any arguments that the row allows, returns true, ends in any run, and changes nothing that was there before the call. Conditions: those of the row itself (the machine of the checked program), and no other. -/
import Derived.Test.YtlpoenoijmifdaaRows
import Derived.Test.YtlpoenoijmifdaaArr
import Derived.Test.YtlpoenoijmifdaaLsu
import Derived.WalkKit
import Derived.ProofKit
import Derived.OpenShut
import Derived.ShutString
import Derived.ChangeOld
import Derived.Below
import Derived.Lib.SmallJoins
set_option linter.unusedVariables false
set_option linter.unusedSimpArgs false
namespace Go.Proofs.Ytlpoenoijmifdaa.weighSums
open Go.ChangeShapes Go.WideShapes Go.ChangeAt Go.RowKit
open Go.ChangeMaps (open_string shut_string)
set_option linter.unusedVariables false
open Go.Joins

theorem cellsA4 : Try.prog.cellsOf 63 = 4 := by kernel_rfl
theorem open_A4 {H : Type} {enc : TypeId × Value → H} {W : World} {r : Reach} {base b0 : Nat} {sp : Nat → Bool} {held : Bool} {v : Value} {d : DataW H} {p : List MemPlace} (hv : Value.okWide Try.prog W r b0 63 v) (h : DataW.Trod enc Try.prog W base sp held 63 v d p) :
    ∃ x0 x1 x2 x3 : Int, v = .agg #[.int .i64 x0, .int .i64 x1, .int .i64 x2, .int .i64 x3] ∧ FB x0 ∧ FB x1 ∧ FB x2 ∧ FB x3 := by
  simp only [Value.okWide, Try.underlying63] at hv
  obtain ⟨cs, rfl, h2, _⟩ := hv
  obtain ⟨fuel, hf⟩ := h
  obtain ⟨zs, hl, hz, hfb⟩ := arr_ints (cs := cs.toList) cellsI' Try.underlying3 Try.underlying63 cellsA4 hf
  match zs, hl with
  | [x0, x1, x2, x3], _ =>
    refine ⟨x0, x1, x2, x3, ?_, hfb _ (by simp), hfb _ (by simp), hfb _ (by simp), hfb _ (by simp)⟩
    have : cs = (cs.toList).toArray := by simp
    rw [this, hz]; rfl
theorem cellsS2 : Try.prog.cellsOf 62 = 2 := by kernel_rfl
theorem cellsLS2 : Try.prog.cellsOf 38 = 1 := by kernel_rfl
theorem open_S2 {H : Type} {enc : TypeId × Value → H} {W : World} {r : Reach} {b0 : Nat} {v : Value} {d : DataW H} {p : List MemPlace} (hv : Value.okWide Try.prog W r b0 62 v) (h : DataW.Trod enc Try.prog W 0 (fun _ => true) true 62 v d p) (hz : ∀ x ∈ DataW.weights Try.prog 62 d, x ≤ reachBytes) :
    ∃ a0 n0 c0 y0 a1 n1 c1 y1, v = .agg #[.slice a0 n0 c0, .slice a1 n1 c1] ∧ IsL W (.slice a0 n0 c0) y0 ∧ y0.length ≤ 1000000000000000000 ∧ IsL W (.slice a1 n1 c1) y1 ∧ y1.length ≤ 1000000000000000000 := by
  simp only [Value.okWide, Try.underlying62] at hv
  obtain ⟨cs, rfl, h2, _⟩ := hv
  obtain ⟨fuel, hf⟩ := h
  obtain ⟨hl, he⟩ := arr_each (cs := cs.toList) cellsLS2 Try.underlying62 cellsS2 hf
  obtain ⟨s0, d0, p0, m0, hs0, ht0, hw0⟩ := he 0 (by decide)
  obtain ⟨a0, n0, c0, y0, rfl, hL0, hB0⟩ := row_cell ht0 (fun x hx => hz x (hw0 x hx))
  obtain ⟨s1, d1, p1, m1, hs1, ht1, hw1⟩ := he 1 (by decide)
  obtain ⟨a1, n1, c1, y1, rfl, hL1, hB1⟩ := row_cell ht1 (fun x hx => hz x (hw1 x hx))
  refine ⟨a0, n0, c0, y0, a1, n1, c1, y1, ?_, hL0, hB0, hL1, hB1⟩
  have e : cs = (cs.toList).toArray := by simp
  have hcs : cs.toList = [.slice a0 n0 c0, .slice a1 n1 c1] := by
    apply List.ext_getElem?
    intro i
    match i with
    | 0 => simpa using hs0
    | 1 => simpa using hs1
    | i + 2 => rw [List.getElem?_eq_none (by omega), List.getElem?_eq_none (by simp)]
  rw [e, hcs]

set_option maxRecDepth 100000 in
theorem lifted (os : Os) (started : os.Started) (H : Type) (enc : TypeId × Value → H) :
    ReturnsInHanded {} Try.checked os 9 .any (Rows.weighSumsSpec.pre6 enc Try.prog Try.f9 Rows.weighSumsRow.domain false) (Rows.weighSumsSpec.post enc Try.prog Try.f9 false true false false) := by
  refine returnsInHanded_of_change_sized (C := Try.checked) own started (by kernel_rfl) Try.func9
    (ChangeSpec.witness6 (enc := enc) (C := Try.checked) false ⟨#[], #[.slice none 0 0, .agg #[.slice none 0 0, .slice none 0 0], .agg #[.int .i64 0, .int .i64 0, .int .i64 0, .int .i64 0]], []⟩ 8 (by kernel_rfl) (by kernel_rfl) (by kernel_rfl) (by kernel_rfl)) ?_
  intro W base args ds gs before hval0 hW hcnd hsz0 _
  have hval : ∀ (j : Nat) t v, Try.f9.params[j]? = some t → args[j]? = some v → Value.okWide Try.prog W .any base t v := hval0
  have hsz : (DataW.weightsEach Try.prog (Try.f9.params.toList ++ Rows.weighSumsSpec.plain.varTypes Try.prog) (ds ++ gs)).all (· ≤ reachBytes) = true := hsz0
  have hW' := hW
  obtain ⟨p, q, hA0, hV, rfl, hfz, hnd⟩ := hW
  have hA : DataW.TrodAll enc Try.prog W 0 (fun _ => true) true Try.f9.params.toList args.toList ds p := hA0
  rw [Try.params9] at hA hval hsz
  obtain ⟨v0, vs0, d0, ds0, p0, q0, hargs, rfl, rfl, h0, r0⟩ := trodAll_cons hA
  obtain ⟨v1, vs1, d1, ds1, p1, q1, rfl, rfl, rfl, h1, r1⟩ := trodAll_cons r0
  obtain ⟨v2, vs2, d2, ds2, p2, q2, rfl, rfl, rfl, h2, r2⟩ := trodAll_cons r1
  obtain ⟨rfl, rfl, rfl⟩ := trodAll_nil r2
  obtain rfl : args = #[v0, v1, v2] := by cases args; simp_all
  obtain ⟨rfl, rfl⟩ := trodVars_none hV
  have k0 := h0; have k1 := h1; have k2 := h2
  have lt0 : ∀ x ∈ p0, x.block < W.heap.size := by obtain ⟨m, hm⟩ := k0; exact DataW.trod_lt m _ _ _ hm
  have lt1 : ∀ x ∈ p1, x.block < W.heap.size := by obtain ⟨m, hm⟩ := k1; exact DataW.trod_lt m _ _ _ hm
  have lt2 : ∀ x ∈ p2, x.block < W.heap.size := by obtain ⟨m, hm⟩ := k2; exact DataW.trod_lt m _ _ _ hm
  obtain ⟨a0, len0, cap0, z0, rfl, w0, bz0⟩ := row_of (hval 0 38 v0 rfl rfl) h0 (weights_at hsz (j := 0) rfl rfl)
  obtain ⟨a1_0, n1_0, c1_0, y1_0, a1_1, n1_1, c1_1, y1_1, rfl, w1_0, bz1_0, w1_1, bz1_1⟩ := open_S2 (hval 1 62 v1 rfl rfl) h1 (weights_at hsz (j := 1) rfl rfl)
  obtain ⟨x2_0, x2_1, x2_2, x2_3, rfl, b2_0, b2_1, b2_2, b2_3⟩ := open_A4 (hval 2 63 v2 rfl rfl) h2
  clear hA0 hval0
  refine (lawSums_w W a0 len0 cap0 z0 w0 bz0 a1_0 n1_0 c1_0 y1_0 a1_1 n1_1 c1_1 y1_1 w1_0 bz1_0 w1_1 bz1_1 x2_0 x2_1 x2_2 x2_3 b2_0 b2_1 b2_2 b2_3).mono fun e W' ⟨he, bel⟩ => ?_
  subst he
  exact ⟨_, rfl, _, _, _, [], _, [], hW', trodAll_mk1 (shut_bool Try.underlying4 _), (trodAll_cons_mk (Below.trod laidOut (by kernel_rfl) (of_decide_eq_true (by kernel_rfl)) k0 bel lt0) (trodAll_cons_mk (Below.trod laidOut (by kernel_rfl) (of_decide_eq_true (by kernel_rfl)) k1 bel lt1) (trodAll_cons_mk (Below.trod laidOut (by kernel_rfl) (of_decide_eq_true (by kernel_rfl)) k2 bel lt2) trodAll_mk0))), rfl, bel.frame _, fun h => by cases h⟩

theorem over : Rows.weighSumsRow.holds Try.pinned (OpenSpec.ofChange Rows.weighSumsSpec) :=
  OpenClaim.holds_of_wide 9 Try.f9 rfl rfl rfl rfl rfl rfl rfl ⟨rfl, rfl, rfl, rfl, rfl⟩ rfl rfl rfl rfl rfl (by kernel_rfl) Try.func9 (by kernel_rfl)
    (of_decide_eq_true (by kernel_rfl)) (by unfold Func.isWrapper; first | (rw [if_pos (by decide +kernel)]; kernel_rfl) | (rw [if_neg (by decide +kernel)]; exact ⟨rfl, rfl⟩))
    (fun os started H enc _ => lifted os started H enc)

theorem proved : Rows.WeighSumsSaid := over
#print axioms proved
end Go.Proofs.Ytlpoenoijmifdaa.weighSums
