import Derived.Test.YtlpoenoijmifdaaAre
set_option linter.unusedVariables false
set_option linter.unusedSimpArgs false
namespace Go.Proofs.Ytlpoenoijmifdaa
open Go.RowKit Go.Shelf

def planB (S W : List Int) : Bool := rise 9 100000 S && rise 9 100000 W && decide ((W.length : Int) ≤ 7) && W.all (inB 0 15000)
def planE (S W : List Int) : Int := if planB S W = true then 0 else 12

set_option maxHeartbeats 1000000 in
theorem plan_w (a1 a2 : Option Addr) (n1 n2 c1 c2 : Nat) (S W : List Int) (w : World) (i1 : IsL w (.slice a1 n1 c1) S) (i2 : IsL w (.slice a2 n2 c2) W) :
    Calls Try.prog 92 #[.slice a1 n1 c1, .slice a2 n2 c2] w fun e w' => e = .returned (.int .i64 (planE S W)) ∧ Drew w w' := by
  have hn2 : n2 = W.length := by obtain ⟨_, _, hv, _⟩ := i2; cases hv; rfl
  subst hn2
  have h1 := places_w a1 n1 c1 S w i1
  have h2 := fun k : Nat => places_w a2 W.length c2 W (w.drewN k) (i2.drewN k)
  have h3 := fun k : Nat => within_q a2 W.length c2 W 0 15000 (w.drewN k) (i2.drewN k)
  have H3 := hide h3; clear h3
  cases r1 : rise 9 100000 S with
  | false =>
    have e1 : pl S = 12 := by unfold pl; rw [r1]; rfl
    have E : Hid (planE S W = 12) := by show _ = _; unfold planE planB; rw [r1]; rfl
    rw [e1] at h1
    have H1 := hide h1; clear h1 h2 r1 e1
    go_enter Try.func92, Try.ntmps92
    go_wp2_with fail
    refine H1.out.mono ?_
    rintro e w' ⟨rfl, k, rfl⟩
    go_wp2_with fail
    go_ret
    exact ⟨ret_int E.out.symm, _, rfl⟩
  | true =>
    have e1 : pl S = 0 := by unfold pl; rw [r1]; rfl
    rw [e1] at h1
    have H1 := hide h1; clear h1 e1
    cases r2 : rise 9 100000 W with
    | false =>
      have e2 : pl W = 12 := by unfold pl; rw [r2]; rfl
      have E : Hid (planE S W = 12) := by show _ = _; unfold planE planB; rw [r1, r2]; rfl
      rw [e2] at h2
      have H2 := hide h2; clear h2 r1 r2 e2
      go_enter Try.func92, Try.ntmps92
      go_wp2_with fail
      refine H1.out.mono ?_
      rintro e w' ⟨rfl, k, rfl⟩
      go_wp2_with fail
      refine (H2.out k).mono ?_
      rintro e w' ⟨rfl, k2, rfl⟩
      go_wp2_with fail
      go_ret
      exact ⟨ret_int E.out.symm, (by first | exact ⟨_, rfl⟩ | exact ⟨_, World.drewN_drewN _ _ _⟩)⟩
    | true =>
      have e2 : pl W = 0 := by unfold pl; rw [r2]; rfl
      rw [e2] at h2
      have H2 := hide h2; clear h2 e2
      by_cases hl : (7 : Int) < (W.length : Int)
      · have E : Hid (planE S W = 12) := by show _ = _; unfold planE planB; rw [r1, r2, decide_eq_false (by omega)]; rfl
        clear r1 r2
        go_enter Try.func92, Try.ntmps92
        go_wp2_with fail
        refine H1.out.mono ?_
        rintro e w' ⟨rfl, k, rfl⟩
        go_wp2_with fail
        refine (H2.out k).mono ?_
        rintro e w' ⟨rfl, k2, rfl⟩
        go_wp2_with fail
        go_ret
        exact ⟨ret_int E.out.symm, (by first | exact ⟨_, rfl⟩ | exact ⟨_, World.drewN_drewN _ _ _⟩)⟩
      · cases r3 : W.all (inB 0 15000) with
        | false =>
          have E : Hid (planE S W = 12) := by show _ = _; unfold planE planB; rw [r1, r2, r3, decide_eq_true (by omega)]; rfl
          rw [r3] at H3
          clear r1 r2 r3
          go_enter Try.func92, Try.ntmps92
          go_wp2_with fail
          refine H1.out.mono ?_
          rintro e w' ⟨rfl, k, rfl⟩
          go_wp2_with fail
          refine (H2.out k).mono ?_
          rintro e w' ⟨rfl, k2, rfl⟩
          go_wp2_with (go_at_call 71; refine (H3.out _).mono ?_; rintro e w' ⟨rfl, rfl⟩)
          go_ret
          exact ⟨ret_int E.out.symm, (by first | exact ⟨_, rfl⟩ | exact ⟨_, World.drewN_drewN _ _ _⟩)⟩
        | true =>
          have E : Hid (planE S W = 0) := by show _ = _; unfold planE planB; rw [r1, r2, r3, decide_eq_true (by omega)]; rfl
          rw [r3] at H3
          clear r1 r2 r3
          go_enter Try.func92, Try.ntmps92
          go_wp2_with fail
          refine H1.out.mono ?_
          rintro e w' ⟨rfl, k, rfl⟩
          go_wp2_with fail
          refine (H2.out k).mono ?_
          rintro e w' ⟨rfl, k2, rfl⟩
          go_wp2_with (go_at_call 71; refine (H3.out _).mono ?_; rintro e w' ⟨rfl, rfl⟩)
          go_ret
          exact ⟨ret_int E.out.symm, (by first | exact ⟨_, rfl⟩ | exact ⟨_, World.drewN_drewN _ _ _⟩)⟩

/-- The slice value v reads as rows; row i is the slice value vs[i]. -/
def IsRB (B : Nat) (w : World) (v : Value) (vs : List Value) (rows : List (List Int)) : Prop :=
  vs.length = rows.length ∧ (∀ i, i < rows.length → IsLB B w (vs[i]?.getD undef) (rows[i]?.getD [])) ∧
  ∃ a cap, v = .slice a rows.length cap ∧ rows.length ≤ cap ∧ cap ≤ maxLen ∧
    (rows ≠ [] → ∃ b off, a = some ⟨b, off, none⟩ ∧ b < B ∧ ∀ i, i < rows.length → w.cell? ⟨b, off + i, none⟩ = some (vs[i]?.getD undef))

theorem IsRB.keep {B : Nat} {w w' : World} {v : Value} {vs : List Value} {rows : List (List Int)} (h : IsRB B w v vs rows) (hk : ∀ p : Addr, p.block < B → w'.cell? p = w.cell? p) : IsRB B w' v vs rows := by
  obtain ⟨h0, h1, a, cap, hv, h2, h3, h4⟩ := h
  refine ⟨h0, fun i hi => (h1 i hi).keep hk, a, cap, hv, h2, h3, fun hne => ?_⟩
  obtain ⟨b, off, ha, hlt, hc⟩ := h4 hne
  exact ⟨b, off, ha, hlt, fun i hi => by rw [hk ⟨b, off + i, none⟩ hlt]; exact hc i hi⟩
theorem IsRB.more {B B' : Nat} {w : World} {v : Value} {vs : List Value} {rows : List (List Int)} (h : IsRB B w v vs rows) (hB : B ≤ B') : IsRB B' w v vs rows := by
  obtain ⟨h0, h1, a, cap, hv, h2, h3, h4⟩ := h
  refine ⟨h0, fun i hi => (h1 i hi).more hB, a, cap, hv, h2, h3, fun hne => ?_⟩
  obtain ⟨b, off, ha, hlt, hc⟩ := h4 hne
  exact ⟨b, off, ha, by omega, hc⟩
theorem IsRB.below {B : Nat} {w w' : World} {v : Value} {vs : List Value} {rows : List (List Int)} (h : IsRB B w v vs rows) (hb : Below B w w') : IsRB B w' v vs rows := h.keep fun _ hp => hb.cell hp

def rowB (W r : List Int) : Bool := decide (r.length = W.length) && r.all (inB 0 20000)
def tabB (S W : List Int) (H : List (List Int)) : Bool := planB S W && decide (H.length = S.length) && H.all (rowB W)
def tabE (S W : List Int) (H : List (List Int)) : Int := if tabB S W H = true then 0 else 13
end Go.Proofs.Ytlpoenoijmifdaa
