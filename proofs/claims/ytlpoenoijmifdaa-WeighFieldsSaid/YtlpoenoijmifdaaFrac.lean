import Derived.Test.YtlpoenoijmifdaaNum
set_option linter.unusedVariables false
set_option linter.unusedSimpArgs false
namespace Go.Proofs.Ytlpoenoijmifdaa
open Go.RowKit

theorem bcell {W w1 : World} (hb : Below W.heap.size W w1) : (∀ b o, b < W.heap.size → w1.cell? ⟨b, o, none⟩ = W.cell? ⟨b, o, none⟩) ∧ (∀ b o, b < W.heap.size → w1.frozen? ⟨b, o, none⟩ = W.frozen? ⟨b, o, none⟩) :=
  ⟨fun b o h => hb.cell (p := ⟨b, o, none⟩) h, fun b o h => hb.frozen (p := ⟨b, o, none⟩) h⟩

theorem back {W w1 w : World} (h1 : Below w.heap.size w W) (hb : Below W.heap.size W w1) : Below w.heap.size w w1 := h1.trans (hb.mono h1.size)

def FB (n : Int) : Prop := -9223372036854775808 ≤ n ∧ n ≤ 9223372036854775807

theorem make_c {n d p q r : Int} (hm : Hid (mk n d = (p, q, r))) (w : World) (hn : FB n) (hd : FB d) :
    Calls Try.prog 12 #[.int .i64 n, .int .i64 d] w fun e w' => e = .returned (.tuple #[.agg #[.int .i64 p, .int .i64 q], .int .i64 r]) ∧ Below w.heap.size w w' :=
  (make_w n d w hn.1 hn.2 hd.1 hd.2).mono fun _ _ ⟨he, hw⟩ => ⟨by rw [he, frac, hm.out], hw⟩
theorem rmake_c {n d p q r : Int} (hm : Hid (mk n d = (p, q, r))) (w : World) (hn : FB n) (hd : FB d) :
    Calls Try.prog 13 #[.int .i64 n, .int .i64 d] w fun e w' => e = .returned (.tuple #[.agg #[.int .i64 p, .int .i64 q], .int .i64 r]) ∧ Below w.heap.size w w' :=
  (rmake_w n d w hn.1 hn.2 hd.1 hd.2).mono fun _ _ ⟨he, hw⟩ => ⟨by rw [he, frac, hm.out], hw⟩

set_option maxHeartbeats 400000 in
theorem check_w (n d : Int) (w : World) (hn : FB n) (hd : FB d) :
    Calls Try.prog 28 #[.agg #[.int .i64 n, .int .i64 d]] w fun e w' => e = .returned (.int .i64 (chk n d)) ∧ Below w.heap.size w w' := by
  obtain ⟨p, q, r, hm⟩ : ∃ p q r, Hid (mk n d = (p, q, r)) := ⟨_, _, _, rfl⟩
  go_enter Try.func28, Try.ntmps28
  go_wp2_with (go_at_call 12; refine (make_c hm _ hn hd).mono ?_; rintro e w1 ⟨rfl, hb⟩; obtain ⟨hc, hf⟩ := bcell hb; have hz : w.heap.size < w1.heap.size := by have := hb.size; simp at this; omega)
  all_goals (go_ret; exact ⟨ret_int (by rw [chk_of_mk, hm.out]; simp [*]), (by repeat (first | exact Below.refl _ _ | assumption | refine Below.alloc ?_ (by first | omega | (simp; omega) | simp) _ | refine Below.setCell ?_ (by first | omega | (simp; omega) | simp) _ | refine below_drewN ?_ _ | refine Below.drew ?_ | refine back ?_ (by assumption)))⟩)

theorem chk_r (n d : Int) (h : ¬ (n < -1000000000 ∨ 1000000000 < n ∨ d < 1 ∨ 1000000000 < d)) : chk n d = if Nat.gcd n.natAbs d.natAbs = 1 then 0 else 10 := by
  unfold chk
  split
  · rename_i h'; rw [if_pos h'.2.2.2.2]
  · rename_i h'; rw [if_neg]; intro hg; exact h' ⟨by omega, by omega, by omega, by omega, hg⟩

theorem chk_out (n d : Int) (h : n < -1000000000 ∨ 1000000000 < n ∨ d < 1 ∨ 1000000000 < d) : chk n d = 10 := by
  unfold chk; rw [if_neg]; omega

set_option maxHeartbeats 400000 in
theorem rcheck_w (n d : Int) (w : World) (hn : FB n) (hd : FB d) :
    Calls Try.prog 29 #[.agg #[.int .i64 n, .int .i64 d]] w fun e w' => e = .returned (.int .i64 (chk n d)) ∧ Below w.heap.size w w' := by
  obtain ⟨hn1, hn2⟩ := hn
  obtain ⟨hd1, hd2⟩ := hd
  have qs := fun (a : Int) (w : World) (h1 : -9223372036854775808 ≤ a) (h2 : a ≤ 9223372036854775807) => (rsize_w a w h1 h2).mono (R' := fun e w' => e = .returned (.int .u64 a.natAbs) ∧ w' = w) fun _ _ ⟨x, y⟩ => ⟨x, y.symm⟩
  have QS := hide qs; clear qs
  by_cases h1 : n < -1000000000
  · have d1 : decide (n < -1000000000) = true := by simpa using h1
    go_enter Try.func29, Try.ntmps29
    go_wp2_with fail
    go_quiet (fail)
    go_wp2
    go_ret
    exact ⟨ret_int (chk_out n d (by omega)).symm, (by repeat (first | exact Below.refl _ _ | assumption | refine Below.alloc ?_ (by first | omega | (simp; omega) | simp) _ | refine Below.setCell ?_ (by first | omega | (simp; omega) | simp) _ | refine below_drewN ?_ _ | refine Below.drew ?_ | refine back ?_ (by assumption)))⟩
  have d1 : decide (n < -1000000000) = false := by simpa using h1
  by_cases h2 : 1000000000 < n
  · go_enter Try.func29, Try.ntmps29
    go_wp2_with fail
    go_quiet (fail)
    go_wp2
    go_ret
    exact ⟨ret_int (chk_out n d (by omega)).symm, (by repeat (first | exact Below.refl _ _ | assumption | refine Below.alloc ?_ (by first | omega | (simp; omega) | simp) _ | refine Below.setCell ?_ (by first | omega | (simp; omega) | simp) _ | refine below_drewN ?_ _ | refine Below.drew ?_ | refine back ?_ (by assumption)))⟩
  have d2 : decide (1000000000 < n) = false := by simpa using h2
  by_cases h3 : d < 1
  · go_enter Try.func29, Try.ntmps29
    go_wp2_with fail
    go_quiet (fail)
    go_wp2
    go_ret
    exact ⟨ret_int (chk_out n d (by omega)).symm, (by repeat (first | exact Below.refl _ _ | assumption | refine Below.alloc ?_ (by first | omega | (simp; omega) | simp) _ | refine Below.setCell ?_ (by first | omega | (simp; omega) | simp) _ | refine below_drewN ?_ _ | refine Below.drew ?_ | refine back ?_ (by assumption)))⟩
  have d3 : decide (d < 1) = false := by simpa using h3
  by_cases h4 : 1000000000 < d
  · go_enter Try.func29, Try.ntmps29
    go_wp2_with fail
    go_quiet (fail)
    go_wp2
    go_ret
    exact ⟨ret_int (chk_out n d (by omega)).symm, (by repeat (first | exact Below.refl _ _ | assumption | refine Below.alloc ?_ (by first | omega | (simp; omega) | simp) _ | refine Below.setCell ?_ (by first | omega | (simp; omega) | simp) _ | refine below_drewN ?_ _ | refine Below.drew ?_ | refine back ?_ (by assumption)))⟩
  · have d4 : decide (1000000000 < d) = false := by simpa using h4
    have hc := chk_r n d (by omega)
    have HC := hide hc; clear hc
    go_enter Try.func29, Try.ntmps29
    go_wp2_with fail
    go_quiet (first | (go_at_call 61; exact Calls.quiet_of_same (QS.out _ _ (by omega) (by omega))) | (go_at_call 62; exact Calls.quiet_of (gcd_w _ _ _ (by omega) (by omega))))
    go_wp2
    · have h : ((Nat.gcd n.natAbs d.natAbs : Nat) != (1 : Int)) = true := by assumption
      go_ret
      exact ⟨ret_int (by rw [HC.out, if_neg]; intro h'; rw [h'] at h; simp at h), (by repeat (first | exact Below.refl _ _ | assumption | refine Below.alloc ?_ (by first | omega | (simp; omega) | simp) _ | refine Below.setCell ?_ (by first | omega | (simp; omega) | simp) _ | refine below_drewN ?_ _ | refine Below.drew ?_ | refine back ?_ (by assumption)))⟩
    · have h : ((Nat.gcd n.natAbs d.natAbs : Nat) != (1 : Int)) = false := by assumption
      go_ret
      exact ⟨ret_int (by rw [HC.out, if_pos]; simp at h; omega), (by repeat (first | exact Below.refl _ _ | assumption | refine Below.alloc ?_ (by first | omega | (simp; omega) | simp) _ | refine Below.setCell ?_ (by first | omega | (simp; omega) | simp) _ | refine below_drewN ?_ _ | refine Below.drew ?_ | refine back ?_ (by assumption)))⟩

theorem chk_or (n d : Int) : chk n d = 0 ∨ chk n d = 10 := by unfold chk; split <;> simp

def chk2 (an ad bn bd : Int) : Int := if chk an ad = 0 ∧ chk bn bd = 0 then 0 else 10
theorem chk2_or (an ad bn bd : Int) : chk2 an ad bn bd = 0 ∨ chk2 an ad bn bd = 10 := by unfold chk2; split <;> simp

set_option maxHeartbeats 400000 in
theorem both_w (an ad bn bd : Int) (w : World) (h1 : FB an) (h2 : FB ad) (h3 : FB bn) (h4 : FB bd) :
    Calls Try.prog 63 #[.agg #[.int .i64 an, .int .i64 ad], .agg #[.int .i64 bn, .int .i64 bd]] w fun e w' => e = .returned (.int .i64 (chk2 an ad bn bd)) ∧ Below w.heap.size w w' := by
  rcases chk_or an ad with hA | hA <;> rcases chk_or bn bd with hB | hB <;> (
    go_enter Try.func63, Try.ntmps63
    go_wp2_with (go_at_call 28; refine (check_w _ _ _ (by assumption) (by assumption)).mono ?_; rintro e w1 ⟨rfl, hb⟩; obtain ⟨hc, hf⟩ := bcell hb; have hz := hb.size; (try simp at hz))
    go_ret
    exact ⟨ret_int (by simp [chk2, hA, hB]), (by repeat (first | exact Below.refl _ _ | assumption | refine Below.alloc ?_ (by first | omega | (simp; omega) | simp) _ | refine Below.setCell ?_ (by first | omega | (simp; omega) | simp) _ | refine below_drewN ?_ _ | refine Below.drew ?_ | refine back ?_ (by assumption)))⟩)

set_option maxHeartbeats 400000 in
theorem rboth_w (an ad bn bd : Int) (w : World) (h1 : FB an) (h2 : FB ad) (h3 : FB bn) (h4 : FB bd) :
    Calls Try.prog 64 #[.agg #[.int .i64 an, .int .i64 ad], .agg #[.int .i64 bn, .int .i64 bd]] w fun e w' => e = .returned (.int .i64 (chk2 an ad bn bd)) ∧ Below w.heap.size w w' := by
  rcases chk_or an ad with hA | hA <;> rcases chk_or bn bd with hB | hB <;> (
    go_enter Try.func64, Try.ntmps64
    go_wp2_with (go_at_call 29; refine (rcheck_w _ _ _ (by assumption) (by assumption)).mono ?_; rintro e w1 ⟨rfl, hb⟩; obtain ⟨hc, hf⟩ := bcell hb; have hz := hb.size; (try simp at hz))
    go_ret
    exact ⟨ret_int (by simp [chk2, hA, hB]), (by repeat (first | exact Below.refl _ _ | assumption | refine Below.alloc ?_ (by first | omega | (simp; omega) | simp) _ | refine Below.setCell ?_ (by first | omega | (simp; omega) | simp) _ | refine below_drewN ?_ _ | refine Below.drew ?_ | refine back ?_ (by assumption)))⟩)
end Go.Proofs.Ytlpoenoijmifdaa
