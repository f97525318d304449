/- The program's function BoundConflicts, called with any arguments that the row allows, returns true, ends in any run, and changes nothing that was there before the call. Conditions: those of the row itself (the machine of the checked program), and no other. -/
import Derived.Test.YtoeklhdklcpllaaRows
import Derived.Test.YtoeklhdklcpllaaZc14
import Derived.Test.YtoeklhdklcpllaaZc15
import Derived.WalkKit
import Derived.ProofKit
import Derived.OpenShut
import Derived.ShutString
import Derived.ChangeOld
import Derived.Below
import Derived.Lib.SmallJoins
set_option linter.unusedVariables false
set_option linter.unusedSimpArgs false
namespace Go.Proofs.Ytoeklhdklcpllaa.boundConflicts
open Go.ChangeShapes Go.WideShapes Go.ChangeAt Go.RowKit
open Go.ChangeMaps (open_string shut_string)
set_option linter.unusedVariables false
open Go.Joins
open Go.Proofs.Ytoeklhdklcpllaa.Ev (NiceS RowsE I64)

theorem own : ownKnob Try.prog.godebug = none := by kernel_rfl
theorem laidOut : laidOutB Try.prog = true := by kernel_rfl

theorem law_w (W : World) (r0 : Int) (ar : Option Addr) (nr cr : Nat) (rs : List (List Int)) (a1 : Option Addr) (n1 c1 : Nat) (y1 : List (List Int))
    (hnr : rs.length = nr) (hNr : NiceS W ar nr cr) (hRr : RowsE (Ev.wst W) 4 ar rs) (hn1 : y1.length = n1) (hN1 : NiceS W a1 n1 c1) (hR1 : RowsE (Ev.wst W) 1 a1 y1) :
    Calls Try.prog 6 #[.agg #[.int .i64 r0, .slice ar nr cr], .slice a1 n1 c1] W fun e w' => e = .returned (.bool true) ∧ Below W.heap.size W w' := by
  obtain ⟨l1, hl1, e1⟩ : ∃ l, Ev.IntsE (Ev.wst W) a1 l ∧ l.length = n1 := ⟨_, Ev.ints_of hR1, by rw [List.length_map]; exact hn1⟩
  subst e1; subst hnr
  exact Ev.law_open Ev.tabw_holds (Ev.KnownOk.or (Ev.known_ok (c := _) Ev.bw12_is sane_w) (Ev.rise_ok (cf := _) Ev.bw46_is rise_world)) (Ev.BoundConflicts_s 28147497671065600 r0 ar cr rs a1 c1 l1 (Ev.wst W) (Ev.wst_wf W) (by omega) hRr hl1)
    (Ev.LR.cons (Ev.VR.agg (Ev.LR.cons (Ev.VR.int _ _) (Ev.LR.cons hNr.vr Ev.LR.nil))) (Ev.LR.cons hN1.vr Ev.LR.nil))

set_option maxRecDepth 100000 in
theorem lifted (os : Os) (started : os.Started) (H : Type) (enc : TypeId × Value → H) :
    ReturnsInHanded {} Try.checked os 6 .any (Rows.boundConflictsSpec.pre6 enc Try.prog Try.f6 Rows.boundConflictsRow.domain false) (Rows.boundConflictsSpec.post enc Try.prog Try.f6 false true false false) := by
  refine returnsInHanded_of_change_sized (C := Try.checked) own started (by kernel_rfl) Try.func6
    (ChangeSpec.witness6 (enc := enc) (C := Try.checked) false ⟨#[], #[.agg #[.int .i64 0, .slice none 0 0], .slice none 0 0], []⟩ 8 (by kernel_rfl) (by kernel_rfl) (by kernel_rfl) (by kernel_rfl)) ?_
  intro W base args ds gs before hval0 hW hcnd hsz0 _
  have hval : ∀ (j : Nat) t v, Try.f6.params[j]? = some t → args[j]? = some v → Value.okWide Try.prog W .any base t v := hval0
  have hsz : (DataW.weightsEach Try.prog (Try.f6.params.toList ++ Rows.boundConflictsSpec.plain.varTypes Try.prog) (ds ++ gs)).all (· ≤ reachBytes) = true := hsz0
  have hW' := hW
  obtain ⟨p, q, hA0, hV, rfl, hfz, hnd⟩ := hW
  have hA : DataW.TrodAll enc Try.prog W 0 (fun _ => true) true Try.f6.params.toList args.toList ds p := hA0
  rw [Try.params6] at hA hval hsz
  obtain ⟨v0, vs0, d0, ds0, p0, q0, hargs, rfl, rfl, h0, r0⟩ := trodAll_cons hA
  obtain ⟨v1, vs1, d1, ds1, p1, q1, rfl, rfl, rfl, h1, r1⟩ := trodAll_cons r0
  obtain ⟨rfl, rfl, rfl⟩ := trodAll_nil r1
  obtain rfl : args = #[v0, v1] := by cases args; simp_all
  obtain ⟨rfl, rfl⟩ := trodVars_none hV
  have k0 := h0; have k1 := h1
  have lt0 : ∀ x ∈ p0, x.block < W.heap.size := by obtain ⟨m, hm⟩ := k0; exact DataW.trod_lt m _ _ _ hm
  have lt1 : ∀ x ∈ p1, x.block < W.heap.size := by obtain ⟨m, hm⟩ := k1; exact DataW.trod_lt m _ _ _ hm
  obtain ⟨z0, a1, n1, c1, y1, rfl, hn1, hN1, hR1⟩ := Ev.open_raw (hval 0 24 v0 rfl rfl) h0 (Ev.weights_at2 hsz (j := 0) rfl rfl)
  obtain ⟨a2, n2, c2, y2, rfl, hn2, hN2, hR2⟩ := Ev.open_islice (hval 1 25 v1 rfl rfl) h1 (Ev.weights_at2 hsz (j := 1) rfl rfl)
  clear hA0 hval0
  refine (law_w W z0 a1 n1 c1 y1 a2 n2 c2 y2 hn1 hN1 hR1 hn2 hN2 hR2).mono fun e W' ⟨he, bel⟩ => ?_
  subst he
  exact ⟨_, rfl, _, _, _, [], _, [], hW', trodAll_mk1 (shut_bool Try.underlying4 _), (trodAll_cons_mk (Below.trod laidOut (by kernel_rfl) (of_decide_eq_true (by kernel_rfl)) k0 bel lt0) (trodAll_cons_mk (Below.trod laidOut (by kernel_rfl) (of_decide_eq_true (by kernel_rfl)) k1 bel lt1) trodAll_mk0)), rfl, bel.frame _, fun h => by cases h⟩

theorem over : Rows.boundConflictsRow.holds Try.pinned (OpenSpec.ofChange Rows.boundConflictsSpec) :=
  OpenClaim.holds_of_wide 6 Try.f6 rfl rfl rfl rfl rfl rfl rfl ⟨rfl, rfl, rfl, rfl, rfl⟩ rfl rfl rfl rfl rfl (by kernel_rfl) Try.func6 (by kernel_rfl)
    (of_decide_eq_true (by kernel_rfl)) (by unfold Func.isWrapper; first | (rw [if_pos (by decide +kernel)]; kernel_rfl) | (rw [if_neg (by decide +kernel)]; exact ⟨rfl, rfl⟩))
    (fun os started H enc _ => lifted os started H enc)

theorem proved : Rows.BoundConflictsSaid := over
end Go.Proofs.Ytoeklhdklcpllaa.boundConflicts
