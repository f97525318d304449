/- The program's function BoundEnds, called with any arguments that the row allows, returns true, ends in any run, and changes nothing that was there before the call. Conditions: those of the row itself (the machine of the checked program), and no other. -/
import Derived.Test.YtoeklhdklcpllaaGreatRows
import Derived.Test.YtoeklhdklcpllaaGreatZe19
import Derived.WalkKit
import Derived.ProofKit
import Derived.OpenShut
import Derived.ShutString
import Derived.ChangeOld
import Derived.Below
import Derived.Lib.SmallJoins
set_option linter.unusedVariables false
set_option linter.unusedSimpArgs false
namespace Go.Proofs.YtoeklhdklcpllaaGreat.boundEnds
open Go.ChangeShapes Go.WideShapes Go.ChangeAt Go.RowKit
open Go.ChangeMaps (open_string shut_string)
set_option linter.unusedVariables false
open Go.Joins
open Go.Proofs.YtoeklhdklcpllaaGreat.Ev (NiceS RowsE I64)

theorem own : ownKnob Tryz.prog.godebug = none := by kernel_rfl
theorem laidOut : laidOutB Tryz.prog = true := by kernel_rfl

theorem cell_leS {P : Program} {W : World} {r : Reach} {b0 : Nat} {t e : TypeId} {a : Option Addr} {n c : Nat} (ht : P.underlying t = some (.slice e)) (h : Cell.okWide P W r b0 t (.slice a n c)) : n ≤ c := by
  simp only [Cell.okWide, ht] at h
  unfold Cell.ok at h
  rw [ht] at h
  split at h
  all_goals first
    | exact absurd h id
    | (rename_i h1; cases h1; done)
    | (rename_i h1 h2; cases h1; done)
    | (rename_i h1 h2; cases h2; exact Nat.le_refl _)
    | (rename_i h1 h2; cases h2; exact h.1)
    | exact h.1
    | skip
  all_goals first
    | (simp_all; done)
    | (simp_all; omega)
theorem law_w (W : World) (m : Int) (a1 : Option Addr) (n1 c1 : Nat) (r1 : List (List Int)) (a2 : Option Addr) (n2 c2 : Nat) (r2 : List (List Int))
    (hn1 : r1.length = n1) (hN1 : NiceS W a1 n1 c1) (hR1 : RowsE (Ev.wst W) 4 a1 r1) (hn2 : r2.length = n2) (hN2 : NiceS W a2 n2 c2) (hR2 : RowsE (Ev.wst W) 1 a2 r2) (hc2 : n2 ≤ c2) :
    Calls Tryz.prog 3 #[.agg #[.int .i64 m, .slice a1 n1 c1], .slice a2 n2 c2] W fun e w' => e = .returned (.bool true) ∧ Below W.heap.size W w' := by
  obtain ⟨l2, hl2, e2⟩ : ∃ l, Ev.IntsE (Ev.wst W) a2 l ∧ l.length = n2 := ⟨_, Ev.ints_of hR2, by rw [List.length_map]; exact hn2⟩
  subst e2; subst hn1
  have hcl : a1 = none → c1 = 0 := fun q => by
    rcases hN1 with ⟨_, _, z⟩ | ⟨b, o, cs, e, fr, z, _⟩
    · exact z
    · rw [q] at z; cases z
  have hcap : Ev.CapOk (Ev.wst W) a2 l2.length c2 := .inl ⟨by
    rcases hN2 with ⟨_, _, z⟩ | ⟨_, _, _, _, _, _, _, z⟩
    · rw [z]; decide
    · exact z, hc2⟩
  exact Ev.law_open Ev.tabw_holds (Ev.known_ok (c := _) Ev.bw13_is sane_w) (Ev.BoundEnds_s 28147497671065600 m a1 c1 r1 a2 c2 l2 (Ev.wst W) (Ev.wst_wf W) (by omega) hR1 hcl hl2 hcap)
    (Ev.LR.cons (Ev.VR.agg (Ev.LR.cons (Ev.VR.int _ _) (Ev.LR.cons hN1.vr Ev.LR.nil))) (Ev.LR.cons hN2.vr Ev.LR.nil))

set_option maxRecDepth 100000 in
theorem lifted (os : Os) (started : os.Started) (H : Type) (enc : TypeId × Value → H) :
    ReturnsInHanded {} Tryz.checked os 3 .any (Rows.boundEndsSpec.pre6 enc Tryz.prog Tryz.f3 Rows.boundEndsRow.domain false) (Rows.boundEndsSpec.post enc Tryz.prog Tryz.f3 false true false false) := by
  refine returnsInHanded_of_change_sized (C := Tryz.checked) own started (by kernel_rfl) Tryz.func3
    (ChangeSpec.witness6 (enc := enc) (C := Tryz.checked) false ⟨#[], #[.agg #[.int .i64 0, .slice none 0 0], .slice none 0 0], []⟩ 8 (by kernel_rfl) (by kernel_rfl) (by kernel_rfl) (by kernel_rfl)) ?_
  intro W base args ds gs before hval0 hW hcnd hsz0 _
  have hval : ∀ (j : Nat) t v, Tryz.f3.params[j]? = some t → args[j]? = some v → Value.okWide Tryz.prog W .any base t v := hval0
  have hsz : (DataW.weightsEach Tryz.prog (Tryz.f3.params.toList ++ Rows.boundEndsSpec.plain.varTypes Tryz.prog) (ds ++ gs)).all (· ≤ reachBytes) = true := hsz0
  have hW' := hW
  obtain ⟨p, q, hA0, hV, rfl, hfz, hnd⟩ := hW
  have hA : DataW.TrodAll enc Tryz.prog W 0 (fun _ => true) true Tryz.f3.params.toList args.toList ds p := hA0
  rw [Tryz.params3] at hA hval hsz
  obtain ⟨v0, vs0, d0, ds0, p0, q0, hargs, rfl, rfl, h0, r0⟩ := trodAll_cons hA
  obtain ⟨v1, vs1, d1, ds1, p1, q1, rfl, rfl, rfl, h1, r1⟩ := trodAll_cons r0
  obtain ⟨rfl, rfl, rfl⟩ := trodAll_nil r1
  obtain rfl : args = #[v0, v1] := by cases args; simp_all
  obtain ⟨rfl, rfl⟩ := trodVars_none hV
  have k0 := h0; have k1 := h1
  have lt0 : ∀ x ∈ p0, x.block < W.heap.size := by obtain ⟨m, hm⟩ := k0; exact DataW.trod_lt m _ _ _ hm
  have lt1 : ∀ x ∈ p1, x.block < W.heap.size := by obtain ⟨m, hm⟩ := k1; exact DataW.trod_lt m _ _ _ hm
  obtain ⟨m, a1, n1, c1, y1, rfl, hn1, hN1, hR1⟩ := Ev.open_system (hval 0 24 v0 rfl rfl) h0 (Ev.weights_at2 hsz (j := 0) rfl rfl)
  obtain ⟨a2, n2, c2, y2, rfl, hn2, hN2, hR2⟩ := Ev.open_islice (hval 1 25 v1 rfl rfl) h1 (Ev.weights_at2 hsz (j := 1) rfl rfl)
  have hc2 : n2 ≤ c2 := by
    have hv := hval 1 25 (.slice a2 n2 c2) rfl rfl
    simp only [Value.okWide, Tryz.underlying25] at hv
    exact cell_leS Tryz.underlying25 hv
  clear hA0 hval0
  refine (law_w W m a1 n1 c1 y1 a2 n2 c2 y2 hn1 hN1 hR1 hn2 hN2 hR2 hc2).mono fun e W' ⟨he, bel⟩ => ?_
  subst he
  exact ⟨_, rfl, _, _, _, [], _, [], hW', trodAll_mk1 (shut_bool Tryz.underlying4 _), (trodAll_cons_mk (Below.trod laidOut (by kernel_rfl) (of_decide_eq_true (by kernel_rfl)) k0 bel lt0) (trodAll_cons_mk (Below.trod laidOut (by kernel_rfl) (of_decide_eq_true (by kernel_rfl)) k1 bel lt1) trodAll_mk0)), rfl, bel.frame _, fun h => by cases h⟩

theorem over : Rows.boundEndsRow.holds Tryz.pinned (OpenSpec.ofChange Rows.boundEndsSpec) :=
  OpenClaim.holds_of_wide 3 Tryz.f3 rfl rfl rfl rfl rfl rfl rfl ⟨rfl, rfl, rfl, rfl, rfl⟩ rfl rfl rfl rfl rfl (by kernel_rfl) Tryz.func3 (by kernel_rfl)
    (of_decide_eq_true (by kernel_rfl)) (by unfold Func.isWrapper; first | (rw [if_pos (by decide +kernel)]; kernel_rfl) | (rw [if_neg (by decide +kernel)]; exact ⟨rfl, rfl⟩))
    (fun os started H enc _ => lifted os started H enc)

theorem proved : Rows.BoundEndsSaid := over
end Go.Proofs.YtoeklhdklcpllaaGreat.boundEnds
