/- The program's function FormLines, called with any arguments that the row allows, returns true, ends in any run, and changes nothing that was there before the call. Conditions: those of the row itself (the machine of the checked program), and no other. -/
import Derived.Test.YtonbhokaeodmdaaGreatRows
import Derived.Test.YtonbhokaeodmdaaGreatZb09
import Derived.Test.YtonbhokaeodmdaaGreatZb10
import Derived.Test.YtonbhokaeodmdaaGreatZaRoot
import Derived.WalkKit
import Derived.ProofKit
import Derived.OpenShut
import Derived.ShutString
import Derived.ChangeOld
import Derived.Below
import Derived.Lib.SmallJoins
set_option linter.unusedVariables false
set_option linter.unusedSimpArgs false
namespace Go.Proofs.YtonbhokaeodmdaaGreat.formLines
open Go.ChangeShapes Go.WideShapes Go.ChangeAt Go.RowKit
open Go.ChangeMaps (open_string shut_string)
set_option linter.unusedVariables false
open Go.Joins
open Go.Proofs.YtonbhokaeodmdaaGreat.Ev (NiceS RowsE I64)

theorem own : ownKnob Tryz.prog.godebug = none := by kernel_rfl
theorem laidOut : laidOutB Tryz.prog = true := by kernel_rfl

theorem law_w (W : World) (a1 : Option Addr) (n1 c1 : Nat) (r1 : List (List Int)) (b0 n0 : Int) (hn1 : r1.length = n1) (hN1 : NiceS W a1 n1 c1) (hR1 : RowsE (Ev.wst W) 1 a1 r1) :
    Calls Tryz.prog 4 #[.slice a1 n1 c1, .int .i64 b0, .int .i64 n0] W fun e w' => e = .returned (.bool true) ∧ Below W.heap.size W w' := by
  obtain ⟨l1, hl1, e1⟩ : ∃ l, Ev.IntsE (Ev.wst W) a1 l ∧ l.length = n1 := ⟨_, Ev.ints_of hR1, by rw [List.length_map]; exact hn1⟩
  subst e1
  exact Ev.law_open Ev.tabw_holds (Ev.known_ok (c := _) Ev.code5_is sane_w) (Ev.FormLines_s 28147497671065600 a1 c1 l1 b0 n0 (Ev.wst W) (Ev.wst_wf W) (by omega) hl1)
    (Ev.LR.cons hN1.vr (Ev.LR.cons (Ev.VR.int _ _) (Ev.LR.cons (Ev.VR.int _ _) Ev.LR.nil)))

set_option maxRecDepth 100000 in
theorem lifted (os : Os) (started : os.Started) (H : Type) (enc : TypeId × Value → H) :
    ReturnsInHanded {} Tryz.checked os 4 .any (Rows.formLinesSpec.pre6 enc Tryz.prog Tryz.f4 Rows.formLinesRow.domain false) (Rows.formLinesSpec.post enc Tryz.prog Tryz.f4 false true false false) := by
  refine returnsInHanded_of_change_sized (C := Tryz.checked) own started (by kernel_rfl) Tryz.func4
    (ChangeSpec.witness6 (enc := enc) (C := Tryz.checked) false ⟨#[], #[.slice none 0 0, .int .i64 0, .int .i64 0], []⟩ 8 (by kernel_rfl) (by kernel_rfl) (by kernel_rfl) (by kernel_rfl)) ?_
  intro W base args ds gs before hval0 hW hcnd hsz0 _
  have hval : ∀ (j : Nat) t v, Tryz.f4.params[j]? = some t → args[j]? = some v → Value.okWide Tryz.prog W .any base t v := hval0
  have hsz : (DataW.weightsEach Tryz.prog (Tryz.f4.params.toList ++ Rows.formLinesSpec.plain.varTypes Tryz.prog) (ds ++ gs)).all (· ≤ reachBytes) = true := hsz0
  have hW' := hW
  obtain ⟨p, q, hA0, hV, rfl, hfz, hnd⟩ := hW
  have hA : DataW.TrodAll enc Tryz.prog W 0 (fun _ => true) true Tryz.f4.params.toList args.toList ds p := hA0
  rw [Tryz.params4] at hA hval hsz
  obtain ⟨v0, vs0, d0, ds0, p0, q0, hargs, rfl, rfl, h0, r0⟩ := trodAll_cons hA
  obtain ⟨v1, vs1, d1, ds1, p1, q1, rfl, rfl, rfl, h1, r1⟩ := trodAll_cons r0
  obtain ⟨v2, vs2, d2, ds2, p2, q2, rfl, rfl, rfl, h2, r2⟩ := trodAll_cons r1
  obtain ⟨rfl, rfl, rfl⟩ := trodAll_nil r2
  obtain rfl : args = #[v0, v1, v2] := by cases args; simp_all
  obtain ⟨rfl, rfl⟩ := trodVars_none hV
  have k0 := h0; have k1 := h1; have k2 := h2
  have lt0 : ∀ x ∈ p0, x.block < W.heap.size := by obtain ⟨m, hm⟩ := k0; exact DataW.trod_lt m _ _ _ hm
  have lt1 : ∀ x ∈ p1, x.block < W.heap.size := by obtain ⟨m, hm⟩ := k1; exact DataW.trod_lt m _ _ _ hm
  have lt2 : ∀ x ∈ p2, x.block < W.heap.size := by obtain ⟨m, hm⟩ := k2; exact DataW.trod_lt m _ _ _ hm
  obtain ⟨a1, n1, c1, y1, rfl, hn1, hN1, hR1⟩ := Ev.open_islice (hval 0 22 v0 rfl rfl) h0 (Ev.weights_at2 hsz (j := 0) rfl rfl)
  obtain ⟨b0, rfl⟩ := Ev.open_int h1 (hval 1 3 v1 rfl rfl)
  obtain ⟨n0, rfl⟩ := Ev.open_int h2 (hval 2 3 v2 rfl rfl)
  clear hA0 hval0
  refine (law_w W a1 n1 c1 y1 b0 n0 hn1 hN1 hR1).mono fun e W' ⟨he, bel⟩ => ?_
  subst he
  exact ⟨_, rfl, _, _, _, [], _, [], hW', trodAll_mk1 (shut_bool Tryz.underlying4 _), (trodAll_cons_mk (Below.trod laidOut (by kernel_rfl) (of_decide_eq_true (by kernel_rfl)) k0 bel lt0) (trodAll_cons_mk (Below.trod laidOut (by kernel_rfl) (of_decide_eq_true (by kernel_rfl)) k1 bel lt1) (trodAll_cons_mk (Below.trod laidOut (by kernel_rfl) (of_decide_eq_true (by kernel_rfl)) k2 bel lt2) trodAll_mk0))), rfl, bel.frame _, fun h => by cases h⟩

theorem over : Rows.formLinesRow.holds Tryz.pinned (OpenSpec.ofChange Rows.formLinesSpec) :=
  OpenClaim.holds_of_wide 4 Tryz.f4 rfl rfl rfl rfl rfl rfl rfl ⟨rfl, rfl, rfl, rfl, rfl⟩ rfl rfl rfl rfl rfl (by kernel_rfl) Tryz.func4 (by kernel_rfl)
    (of_decide_eq_true (by kernel_rfl)) (by unfold Func.isWrapper; first | (rw [if_pos (by decide +kernel)]; kernel_rfl) | (rw [if_neg (by decide +kernel)]; exact ⟨rfl, rfl⟩))
    (fun os started H enc _ => lifted os started H enc)

theorem proved : Rows.FormLinesSaid := over
end Go.Proofs.YtonbhokaeodmdaaGreat.formLines
