/- The program's function MarkHeights, called with any arguments that the row allows, returns true, ends in any run, and changes nothing that was there before the call. Conditions: those of the row itself (the machine of the checked program), and no other. -/
import Derived.Test.YtgbfnonfecpajaaGreatRows
import Derived.Test.YtgbfnonfecpajaaGreatZd09
import Derived.Test.YtgbfnonfecpajaaGreatZaRoot
import Derived.WalkKit
import Derived.ProofKit
import Derived.OpenShut
import Derived.ShutString
import Derived.ChangeOld
import Derived.Below
import Derived.Lib.SmallJoins
set_option linter.unusedVariables false
set_option linter.unusedSimpArgs false
namespace Go.Proofs.YtgbfnonfecpajaaGreat.markHeights
open Go.ChangeShapes Go.WideShapes Go.ChangeAt Go.RowKit
open Go.ChangeMaps (open_string shut_string)
set_option linter.unusedVariables false
open Go.Joins
open Go.Proofs.YtgbfnonfecpajaaGreat.Ev (NiceS RowsE I64)

theorem own : ownKnob Tryz.prog.godebug = none := by kernel_rfl
theorem laidOut : laidOutB Tryz.prog = true := by kernel_rfl

theorem law_w (W : World) (L D : Int) (a c : Option Addr) (n cap n2 cap2 : Nat) (rs ss : List (List Int)) (hn : rs.length = n) (hN : NiceS W a n cap) (hR : RowsE (Ev.wst W) 2 a rs) (hn2 : ss.length = n2) (hN2 : NiceS W c n2 cap2) (hS : RowsE (Ev.wst W) 4 c ss) (zone d : Int) :
    Calls Tryz.prog 4 #[.agg #[.int .i64 L, .int .i64 D, .slice a n cap, .slice c n2 cap2], .agg #[.int .i64 zone, .int .i64 d]] W fun e w' => e = .returned (.bool true) ∧ Below W.heap.size W w' := by
  subst hn; subst hn2
  exact Ev.law_open Ev.tabm_holds (Ev.known_ok (c := _) Ev.code6_is sane_w) (Ev.MarkHeights_s 281474976710656 L D a c cap cap2 rs ss zone d (Ev.wst W) (Ev.wst_wf W) (by omega) hR hS)
    (Ev.LR.cons (Ev.VR.agg (Ev.LR.cons (Ev.VR.int _ _) (Ev.LR.cons (Ev.VR.int _ _) (Ev.LR.cons hN.vr (Ev.LR.cons hN2.vr Ev.LR.nil))))) (Ev.LR.cons (Ev.VR.agg (Ev.LR.cons (Ev.VR.int _ _) (Ev.LR.cons (Ev.VR.int _ _) Ev.LR.nil))) Ev.LR.nil))

set_option maxRecDepth 100000 in
theorem lifted (os : Os) (started : os.Started) (H : Type) (enc : TypeId × Value → H) :
    ReturnsInHanded {} Tryz.checked os 4 .any (Rows.markHeightsSpec.pre6 enc Tryz.prog Tryz.f4 Rows.markHeightsRow.domain false) (Rows.markHeightsSpec.post enc Tryz.prog Tryz.f4 false true false false) := by
  refine returnsInHanded_of_change_sized (C := Tryz.checked) own started (by kernel_rfl) Tryz.func4
    (ChangeSpec.witness6 (enc := enc) (C := Tryz.checked) false ⟨#[], #[.agg #[.int .i64 0, .int .i64 0, .slice none 0 0, .slice none 0 0], .agg #[.int .i64 0, .int .i64 0]], []⟩ 8 (by kernel_rfl) (by kernel_rfl) (by kernel_rfl) (by kernel_rfl)) ?_
  intro W base args ds gs before hval0 hW hcnd hsz0 _
  have hval : ∀ (j : Nat) t v, Tryz.f4.params[j]? = some t → args[j]? = some v → Value.okWide Tryz.prog W .any base t v := hval0
  have hsz : (DataW.weightsEach Tryz.prog (Tryz.f4.params.toList ++ Rows.markHeightsSpec.plain.varTypes Tryz.prog) (ds ++ gs)).all (· ≤ reachBytes) = true := hsz0
  have hW' := hW
  obtain ⟨p, q, hA0, hV, rfl, hfz, hnd⟩ := hW
  have hA : DataW.TrodAll enc Tryz.prog W 0 (fun _ => true) true Tryz.f4.params.toList args.toList ds p := hA0
  rw [Tryz.params4] at hA hval hsz
  obtain ⟨v0, vs0, d0, ds0, p0, q0, hargs, rfl, rfl, h0, r0⟩ := trodAll_cons hA
  obtain ⟨v1, vs1, d1, ds1, p1, q1, rfl, rfl, rfl, h1, r1⟩ := trodAll_cons r0
  obtain ⟨rfl, rfl, rfl⟩ := trodAll_nil r1
  obtain rfl : args = #[v0, v1] := by cases args; simp_all
  obtain ⟨rfl, rfl⟩ := trodVars_none hV
  have k0 := h0; have k1 := h1
  have lt0 : ∀ x ∈ p0, x.block < W.heap.size := by obtain ⟨m, hm⟩ := k0; exact DataW.trod_lt m _ _ _ hm
  have lt1 : ∀ x ∈ p1, x.block < W.heap.size := by obtain ⟨m, hm⟩ := k1; exact DataW.trod_lt m _ _ _ hm
  obtain ⟨L, D, a, n, cap, rs, c, n2, cap2, ss, rfl, hn, hN, hR, hn2, hN2, hS⟩ := Ev.open_lines (hval 0 25 v0 rfl rfl) h0 (Ev.weights_at2 hsz (j := 0) rfl rfl)
  obtain ⟨zone, d, rfl⟩ := Ev.open_two (hval 1 34 v1 rfl rfl) h1
  clear hA0 hval0
  refine (law_w W L D a c n cap n2 cap2 rs ss hn hN hR hn2 hN2 hS zone d).mono fun e W' ⟨he, bel⟩ => ?_
  subst he
  exact ⟨_, rfl, _, _, _, [], _, [], hW', trodAll_mk1 (shut_bool Tryz.underlying4 _), (trodAll_cons_mk (Below.trod laidOut (by kernel_rfl) (of_decide_eq_true (by kernel_rfl)) k0 bel lt0) (trodAll_cons_mk (Below.trod laidOut (by kernel_rfl) (of_decide_eq_true (by kernel_rfl)) k1 bel lt1) trodAll_mk0)), rfl, bel.frame _, fun h => by cases h⟩

theorem over : Rows.markHeightsRow.holds Tryz.pinned (OpenSpec.ofChange Rows.markHeightsSpec) :=
  OpenClaim.holds_of_wide 4 Tryz.f4 rfl rfl rfl rfl rfl rfl rfl ⟨rfl, rfl, rfl, rfl, rfl⟩ rfl rfl rfl rfl rfl (by kernel_rfl) Tryz.func4 (by kernel_rfl)
    (of_decide_eq_true (by kernel_rfl)) (by unfold Func.isWrapper; first | (rw [if_pos (by decide +kernel)]; kernel_rfl) | (rw [if_neg (by decide +kernel)]; exact ⟨rfl, rfl⟩))
    (fun os started H enc _ => lifted os started H enc)

theorem proved : Rows.MarkHeightsSaid := over
end Go.Proofs.YtgbfnonfecpajaaGreat.markHeights
