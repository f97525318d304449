import Derived.Test.YtlpoenoijmifdaaRwt
set_option linter.unusedVariables false
set_option linter.unusedSimpArgs false
namespace Go.Proofs.Ytlpoenoijmifdaa
open Go.RowKit

def wtsE (xs : List Int) : List Int := if rise 9 100000 xs = true then wts xs else []
theorem IsLB.nil (B : Nat) (w : World) : IsLB B w (.slice none 0 0) [] := ⟨none, 0, rfl, Nat.le_refl _, Nat.zero_le _, by simp, fun h => absurd rfl h⟩

set_option maxHeartbeats 400000 in
theorem Weights_w (a : Option Addr) (n cap : Nat) (xs : List Int) (w : World) (h : IsL w (.slice a n cap) xs) :
    Calls Try.prog 35 #[.slice a n cap] w fun e w' => ∃ v, e = .returned (.tuple #[v, .int .i64 (pl xs)]) ∧ IsL w' v (wtsE xs) ∧ Fresh w.heap.size v ∧ Below w.heap.size w w' := by
  have hw := places_w a n cap xs w h
  cases hr : rise 9 100000 xs with
  | true =>
    have hg := fun k : Nat => weightsOf_w a n cap xs (w.drewN k) (h.drewN k) (Pos.of hr)
    have e1 : pl xs = 0 := by unfold pl; rw [hr]; rfl
    have e2 : Hid (wtsE xs = wts xs) := by show wtsE xs = _; unfold wtsE; rw [hr]; rfl
    rw [e1] at hw ⊢
    have HW := hide hw; have HG := hide hg; clear hw hg hr e1 h
    go_enter Try.func35, Try.ntmps35
    go_wp2_with (first | (go_at_call 39; refine HW.out.mono ?_; rintro e w' ⟨rfl, k, rfl⟩) | (go_at_call 69; refine (HG.out _).mono ?_; rintro e w1 ⟨v, rfl, hv, hf, hb⟩))
    go_ret2
    exact ⟨v, rfl, by rw [e2.out]; exact hv, hf, (below_drewN (Below.refl _ _) _).trans hb⟩
  | false =>
    have e1 : pl xs = 12 := by unfold pl; rw [hr]; rfl
    have e2 : Hid (wtsE xs = []) := by show wtsE xs = _; unfold wtsE; rw [hr]; rfl
    rw [e1] at hw ⊢
    have HW := hide hw; clear hw hr e1 h
    go_enter Try.func35, Try.ntmps35
    go_wp2_with (go_at_call 39; refine HW.out.mono ?_; rintro e w' ⟨rfl, k, rfl⟩)
    go_ret2
    exact ⟨_, rfl, by rw [e2.out]; exact IsLB.nil _ _, (fun k hk => by simp [Value.ownBlock] at hk), below_drewN (Below.refl _ _) _⟩

set_option maxHeartbeats 400000 in
theorem rWeights_w (a : Option Addr) (n cap : Nat) (xs : List Int) (w : World) (h : IsL w (.slice a n cap) xs) :
    Calls Try.prog 36 #[.slice a n cap] w fun e w' => ∃ v, e = .returned (.tuple #[v, .int .i64 (pl xs)]) ∧ IsL w' v (wtsE xs) ∧ Fresh w.heap.size v ∧ Below w.heap.size w w' := by
  have hw := rplaces_w a n cap xs w h
  cases hr : rise 9 100000 xs with
  | true =>
    have hg := fun k : Nat => rweights_w a n cap xs (w.drewN k) (h.drewN k) (Pos.of hr)
    have e1 : pl xs = 0 := by unfold pl; rw [hr]; rfl
    have e2 : Hid (wtsE xs = wts xs) := by show wtsE xs = _; unfold wtsE; rw [hr]; rfl
    rw [e1] at hw ⊢
    have HW := hide hw; have HG := hide hg; clear hw hg hr e1 h
    go_enter Try.func36, Try.ntmps36
    go_wp2_with (first | (go_at_call 40; refine HW.out.mono ?_; rintro e w' ⟨rfl, k, rfl⟩) | (go_at_call 70; refine (HG.out _).mono ?_; rintro e w1 ⟨v, rfl, hv, hf, hb⟩))
    go_ret2
    exact ⟨v, rfl, by rw [e2.out]; exact hv, hf, (below_drewN (Below.refl _ _) _).trans hb⟩
  | false =>
    have e1 : pl xs = 12 := by unfold pl; rw [hr]; rfl
    have e2 : Hid (wtsE xs = []) := by show wtsE xs = _; unfold wtsE; rw [hr]; rfl
    rw [e1] at hw ⊢
    have HW := hide hw; clear hw hr e1 h
    go_enter Try.func36, Try.ntmps36
    go_wp2_with (go_at_call 40; refine HW.out.mono ?_; rintro e w' ⟨rfl, k, rfl⟩)
    go_ret2
    exact ⟨_, rfl, by rw [e2.out]; exact IsLB.nil _ _, (fun k hk => by simp [Value.ownBlock] at hk), below_drewN (Below.refl _ _) _⟩
end Go.Proofs.Ytlpoenoijmifdaa
