import Derived.Test.YtlpoenoijmifdaaFrac
set_option linter.unusedVariables false
set_option linter.unusedSimpArgs false
namespace Go.Proofs.Ytlpoenoijmifdaa
open Go.RowKit

/-- A calculation with two fractions: the error of both, or n / d in lowest terms. -/
def opF (an ad bn bd n d : Int) : Int × Int × Int := if chk2 an ad bn bd = 0 then mk n d else (0, 0, 10)

theorem chk_bd {n d : Int} (h : chk n d = 0) : -1000000000 ≤ n ∧ n ≤ 1000000000 ∧ 1 ≤ d ∧ d ≤ 1000000000 := by
  unfold chk at h; split at h
  · omega
  · simp at h

theorem mul_bd {x y : Int} (hx : -1000000000 ≤ x ∧ x ≤ 1000000000) (hy : -1000000000 ≤ y ∧ y ≤ 1000000000) : -1000000000000000000 ≤ x * y ∧ x * y ≤ 1000000000000000000 := by
  have h1 : (1000000000 - x) * (1000000000 + y) ≥ 0 := Int.mul_nonneg (by omega) (by omega)
  have h2 : (1000000000 + x) * (1000000000 - y) ≥ 0 := Int.mul_nonneg (by omega) (by omega)
  have h3 : (1000000000 + x) * (1000000000 + y) ≥ 0 := Int.mul_nonneg (by omega) (by omega)
  have h4 : (1000000000 - x) * (1000000000 - y) ≥ 0 := Int.mul_nonneg (by omega) (by omega)
  simp only [Int.sub_mul, Int.add_mul, Int.mul_sub, Int.mul_add] at h1 h2 h3 h4
  omega

theorem chk2_zero {an ad bn bd : Int} (h : chk2 an ad bn bd = 0) : chk an ad = 0 ∧ chk bn bd = 0 := by
  unfold chk2 at h; split at h
  · assumption
  · simp at h

set_option maxHeartbeats 400000 in
theorem add_c {an ad bn bd p q r : Int} (hm : Hid (opF an ad bn bd (an * bd + bn * ad) (ad * bd) = (p, q, r))) (w : World) (h1 : FB an) (h2 : FB ad) (h3 : FB bn) (h4 : FB bd) :
    Calls Try.prog 14 #[.agg #[.int .i64 an, .int .i64 ad], .agg #[.int .i64 bn, .int .i64 bd]] w fun e w' => e = .returned (.tuple #[.agg #[.int .i64 p, .int .i64 q], .int .i64 r]) ∧ Below w.heap.size w w' := by
  rcases chk2_or an ad bn bd with hA | hA
  · have hk : Hid (mk (an * bd + bn * ad) (ad * bd) = (p, q, r)) := by have := hm.out; unfold opF at this; rw [if_pos hA] at this; exact this
    obtain ⟨c1, c2⟩ := chk2_zero hA
    have b1 := chk_bd c1
    have b2 := chk_bd c2
    obtain ⟨b1a, b1b, b1c, b1d⟩ := b1
    obtain ⟨b2a, b2b, b2c, b2d⟩ := b2
    clear c1 c2
    have m0 := mul_bd (x := an) (y := bd) (by omega) (by omega)
    obtain ⟨m0a, m0b⟩ := m0
    have m1 := mul_bd (x := bn) (y := ad) (by omega) (by omega)
    obtain ⟨m1a, m1b⟩ := m1
    have m2 := mul_bd (x := ad) (y := bd) (by omega) (by omega)
    obtain ⟨m2a, m2b⟩ := m2
    go_enter Try.func14, Try.ntmps14
    go_wp2_with (first | (go_at_call 63; refine (both_w _ _ _ _ _ (by assumption) (by assumption) (by assumption) (by assumption)).mono ?_; rintro e w1 ⟨rfl, hb1⟩; obtain ⟨hc1, hf1⟩ := bcell hb1; have hz1 := hb1.size; (try simp at hz1); have hs1_0 : w.heap.size < w1.heap.size := (by omega); have hs1_1 : w.heap.size + 1 < w1.heap.size := (by omega); have hs1_2 : w.heap.size + 1 + 1 < w1.heap.size := (by omega)) | (go_at_call 12; refine (make_c hk _ ⟨by omega, by omega⟩ ⟨by omega, by omega⟩).mono ?_; rintro e w2 ⟨rfl, hb2⟩; obtain ⟨hc2, hf2⟩ := bcell hb2; have hz2 := hb2.size; (try simp at hz2); have hs2_0 : w.heap.size < w2.heap.size := (by omega); have hs2_1 : w.heap.size + 1 < w2.heap.size := (by omega); have hs2_2 : w.heap.size + 1 + 1 < w2.heap.size := (by omega)))
    refine bodyPost_ret (v := .tuple #[.agg #[.int .i64 p, .int .i64 q], .int .i64 r]) (by simp [results, Try.results14, go_sem, hc2, hc1, hs1_0, hs1_1, hs1_2, hs2_0, hs2_1, hs2_2]) rfl ⟨rfl, (by repeat (first | exact Below.refl _ _ | assumption | refine Below.alloc ?_ (by first | omega | (simp; omega) | simp) _ | refine Below.setCell ?_ (by first | omega | (simp; omega) | simp) _ | refine below_drewN ?_ _ | refine Below.drew ?_ | refine back ?_ (by assumption)))⟩
  · have hk : (p, q, r) = ((0 : Int), (0 : Int), (10 : Int)) := by have := hm.out; unfold opF at this; rw [if_neg (by rw [hA]; decide)] at this; exact this.symm
    simp only [Prod.mk.injEq] at hk
    obtain ⟨rfl, rfl, rfl⟩ := hk
    go_enter Try.func14, Try.ntmps14
    go_wp2_with (go_at_call 63; refine (both_w _ _ _ _ _ (by assumption) (by assumption) (by assumption) (by assumption)).mono ?_; rintro e w1 ⟨rfl, hb1⟩; obtain ⟨hc1, hf1⟩ := bcell hb1; have hz1 := hb1.size; (try simp at hz1); have hs1_0 : w.heap.size < w1.heap.size := (by omega); have hs1_1 : w.heap.size + 1 < w1.heap.size := (by omega); have hs1_2 : w.heap.size + 1 + 1 < w1.heap.size := (by omega))
    refine bodyPost_ret (v := .tuple #[.agg #[.int .i64 0, .int .i64 0], .int .i64 10]) (by simp [results, Try.results14, go_sem, hc1, hs1_0, hs1_1, hs1_2]) rfl ⟨rfl, (by repeat (first | exact Below.refl _ _ | assumption | refine Below.alloc ?_ (by first | omega | (simp; omega) | simp) _ | refine Below.setCell ?_ (by first | omega | (simp; omega) | simp) _ | refine below_drewN ?_ _ | refine Below.drew ?_ | refine back ?_ (by assumption)))⟩

set_option maxHeartbeats 400000 in
theorem radd_c {an ad bn bd p q r : Int} (hm : Hid (opF an ad bn bd (an * bd + bn * ad) (ad * bd) = (p, q, r))) (w : World) (h1 : FB an) (h2 : FB ad) (h3 : FB bn) (h4 : FB bd) :
    Calls Try.prog 15 #[.agg #[.int .i64 an, .int .i64 ad], .agg #[.int .i64 bn, .int .i64 bd]] w fun e w' => e = .returned (.tuple #[.agg #[.int .i64 p, .int .i64 q], .int .i64 r]) ∧ Below w.heap.size w w' := by
  rcases chk2_or an ad bn bd with hA | hA
  · have hk : Hid (mk (an * bd + bn * ad) (ad * bd) = (p, q, r)) := by have := hm.out; unfold opF at this; rw [if_pos hA] at this; exact this
    obtain ⟨c1, c2⟩ := chk2_zero hA
    have b1 := chk_bd c1
    have b2 := chk_bd c2
    obtain ⟨b1a, b1b, b1c, b1d⟩ := b1
    obtain ⟨b2a, b2b, b2c, b2d⟩ := b2
    clear c1 c2
    have m0 := mul_bd (x := an) (y := bd) (by omega) (by omega)
    obtain ⟨m0a, m0b⟩ := m0
    have m1 := mul_bd (x := bn) (y := ad) (by omega) (by omega)
    obtain ⟨m1a, m1b⟩ := m1
    have m2 := mul_bd (x := ad) (y := bd) (by omega) (by omega)
    obtain ⟨m2a, m2b⟩ := m2
    go_enter Try.func15, Try.ntmps15
    go_wp2_with (first | (go_at_call 64; refine (rboth_w _ _ _ _ _ (by assumption) (by assumption) (by assumption) (by assumption)).mono ?_; rintro e w1 ⟨rfl, hb1⟩; obtain ⟨hc1, hf1⟩ := bcell hb1; have hz1 := hb1.size; (try simp at hz1); have hs1_0 : w.heap.size < w1.heap.size := (by omega); have hs1_1 : w.heap.size + 1 < w1.heap.size := (by omega); have hs1_2 : w.heap.size + 1 + 1 < w1.heap.size := (by omega)) | (go_at_call 13; refine (rmake_c hk _ ⟨by omega, by omega⟩ ⟨by omega, by omega⟩).mono ?_; rintro e w2 ⟨rfl, hb2⟩; obtain ⟨hc2, hf2⟩ := bcell hb2; have hz2 := hb2.size; (try simp at hz2); have hs2_0 : w.heap.size < w2.heap.size := (by omega); have hs2_1 : w.heap.size + 1 < w2.heap.size := (by omega); have hs2_2 : w.heap.size + 1 + 1 < w2.heap.size := (by omega)))
    refine bodyPost_ret (v := .tuple #[.agg #[.int .i64 p, .int .i64 q], .int .i64 r]) (by simp [results, Try.results15, go_sem, hc2, hc1, hs1_0, hs1_1, hs1_2, hs2_0, hs2_1, hs2_2]) rfl ⟨rfl, (by repeat (first | exact Below.refl _ _ | assumption | refine Below.alloc ?_ (by first | omega | (simp; omega) | simp) _ | refine Below.setCell ?_ (by first | omega | (simp; omega) | simp) _ | refine below_drewN ?_ _ | refine Below.drew ?_ | refine back ?_ (by assumption)))⟩
  · have hk : (p, q, r) = ((0 : Int), (0 : Int), (10 : Int)) := by have := hm.out; unfold opF at this; rw [if_neg (by rw [hA]; decide)] at this; exact this.symm
    simp only [Prod.mk.injEq] at hk
    obtain ⟨rfl, rfl, rfl⟩ := hk
    go_enter Try.func15, Try.ntmps15
    go_wp2_with (go_at_call 64; refine (rboth_w _ _ _ _ _ (by assumption) (by assumption) (by assumption) (by assumption)).mono ?_; rintro e w1 ⟨rfl, hb1⟩; obtain ⟨hc1, hf1⟩ := bcell hb1; have hz1 := hb1.size; (try simp at hz1); have hs1_0 : w.heap.size < w1.heap.size := (by omega); have hs1_1 : w.heap.size + 1 < w1.heap.size := (by omega); have hs1_2 : w.heap.size + 1 + 1 < w1.heap.size := (by omega))
    refine bodyPost_ret (v := .tuple #[.agg #[.int .i64 0, .int .i64 0], .int .i64 10]) (by simp [results, Try.results15, go_sem, hc1, hs1_0, hs1_1, hs1_2]) rfl ⟨rfl, (by repeat (first | exact Below.refl _ _ | assumption | refine Below.alloc ?_ (by first | omega | (simp; omega) | simp) _ | refine Below.setCell ?_ (by first | omega | (simp; omega) | simp) _ | refine below_drewN ?_ _ | refine Below.drew ?_ | refine back ?_ (by assumption)))⟩

set_option maxHeartbeats 400000 in
theorem sub_c {an ad bn bd p q r : Int} (hm : Hid (opF an ad bn bd (an * bd - bn * ad) (ad * bd) = (p, q, r))) (w : World) (h1 : FB an) (h2 : FB ad) (h3 : FB bn) (h4 : FB bd) :
    Calls Try.prog 16 #[.agg #[.int .i64 an, .int .i64 ad], .agg #[.int .i64 bn, .int .i64 bd]] w fun e w' => e = .returned (.tuple #[.agg #[.int .i64 p, .int .i64 q], .int .i64 r]) ∧ Below w.heap.size w w' := by
  rcases chk2_or an ad bn bd with hA | hA
  · have hk : Hid (mk (an * bd - bn * ad) (ad * bd) = (p, q, r)) := by have := hm.out; unfold opF at this; rw [if_pos hA] at this; exact this
    obtain ⟨c1, c2⟩ := chk2_zero hA
    have b1 := chk_bd c1
    have b2 := chk_bd c2
    obtain ⟨b1a, b1b, b1c, b1d⟩ := b1
    obtain ⟨b2a, b2b, b2c, b2d⟩ := b2
    clear c1 c2
    have m0 := mul_bd (x := an) (y := bd) (by omega) (by omega)
    obtain ⟨m0a, m0b⟩ := m0
    have m1 := mul_bd (x := bn) (y := ad) (by omega) (by omega)
    obtain ⟨m1a, m1b⟩ := m1
    have m2 := mul_bd (x := ad) (y := bd) (by omega) (by omega)
    obtain ⟨m2a, m2b⟩ := m2
    go_enter Try.func16, Try.ntmps16
    go_wp2_with (first | (go_at_call 63; refine (both_w _ _ _ _ _ (by assumption) (by assumption) (by assumption) (by assumption)).mono ?_; rintro e w1 ⟨rfl, hb1⟩; obtain ⟨hc1, hf1⟩ := bcell hb1; have hz1 := hb1.size; (try simp at hz1); have hs1_0 : w.heap.size < w1.heap.size := (by omega); have hs1_1 : w.heap.size + 1 < w1.heap.size := (by omega); have hs1_2 : w.heap.size + 1 + 1 < w1.heap.size := (by omega)) | (go_at_call 12; refine (make_c hk _ ⟨by omega, by omega⟩ ⟨by omega, by omega⟩).mono ?_; rintro e w2 ⟨rfl, hb2⟩; obtain ⟨hc2, hf2⟩ := bcell hb2; have hz2 := hb2.size; (try simp at hz2); have hs2_0 : w.heap.size < w2.heap.size := (by omega); have hs2_1 : w.heap.size + 1 < w2.heap.size := (by omega); have hs2_2 : w.heap.size + 1 + 1 < w2.heap.size := (by omega)))
    refine bodyPost_ret (v := .tuple #[.agg #[.int .i64 p, .int .i64 q], .int .i64 r]) (by simp [results, Try.results16, go_sem, hc2, hc1, hs1_0, hs1_1, hs1_2, hs2_0, hs2_1, hs2_2]) rfl ⟨rfl, (by repeat (first | exact Below.refl _ _ | assumption | refine Below.alloc ?_ (by first | omega | (simp; omega) | simp) _ | refine Below.setCell ?_ (by first | omega | (simp; omega) | simp) _ | refine below_drewN ?_ _ | refine Below.drew ?_ | refine back ?_ (by assumption)))⟩
  · have hk : (p, q, r) = ((0 : Int), (0 : Int), (10 : Int)) := by have := hm.out; unfold opF at this; rw [if_neg (by rw [hA]; decide)] at this; exact this.symm
    simp only [Prod.mk.injEq] at hk
    obtain ⟨rfl, rfl, rfl⟩ := hk
    go_enter Try.func16, Try.ntmps16
    go_wp2_with (go_at_call 63; refine (both_w _ _ _ _ _ (by assumption) (by assumption) (by assumption) (by assumption)).mono ?_; rintro e w1 ⟨rfl, hb1⟩; obtain ⟨hc1, hf1⟩ := bcell hb1; have hz1 := hb1.size; (try simp at hz1); have hs1_0 : w.heap.size < w1.heap.size := (by omega); have hs1_1 : w.heap.size + 1 < w1.heap.size := (by omega); have hs1_2 : w.heap.size + 1 + 1 < w1.heap.size := (by omega))
    refine bodyPost_ret (v := .tuple #[.agg #[.int .i64 0, .int .i64 0], .int .i64 10]) (by simp [results, Try.results16, go_sem, hc1, hs1_0, hs1_1, hs1_2]) rfl ⟨rfl, (by repeat (first | exact Below.refl _ _ | assumption | refine Below.alloc ?_ (by first | omega | (simp; omega) | simp) _ | refine Below.setCell ?_ (by first | omega | (simp; omega) | simp) _ | refine below_drewN ?_ _ | refine Below.drew ?_ | refine back ?_ (by assumption)))⟩

set_option maxHeartbeats 400000 in
theorem rsub_c {an ad bn bd p q r : Int} (hm : Hid (opF an ad bn bd (an * bd - bn * ad) (ad * bd) = (p, q, r))) (w : World) (h1 : FB an) (h2 : FB ad) (h3 : FB bn) (h4 : FB bd) :
    Calls Try.prog 17 #[.agg #[.int .i64 an, .int .i64 ad], .agg #[.int .i64 bn, .int .i64 bd]] w fun e w' => e = .returned (.tuple #[.agg #[.int .i64 p, .int .i64 q], .int .i64 r]) ∧ Below w.heap.size w w' := by
  rcases chk2_or an ad bn bd with hA | hA
  · have hk : Hid (mk (an * bd - bn * ad) (ad * bd) = (p, q, r)) := by have := hm.out; unfold opF at this; rw [if_pos hA] at this; exact this
    obtain ⟨c1, c2⟩ := chk2_zero hA
    have b1 := chk_bd c1
    have b2 := chk_bd c2
    obtain ⟨b1a, b1b, b1c, b1d⟩ := b1
    obtain ⟨b2a, b2b, b2c, b2d⟩ := b2
    clear c1 c2
    have m0 := mul_bd (x := an) (y := bd) (by omega) (by omega)
    obtain ⟨m0a, m0b⟩ := m0
    have m1 := mul_bd (x := bn) (y := ad) (by omega) (by omega)
    obtain ⟨m1a, m1b⟩ := m1
    have m2 := mul_bd (x := ad) (y := bd) (by omega) (by omega)
    obtain ⟨m2a, m2b⟩ := m2
    go_enter Try.func17, Try.ntmps17
    go_wp2_with (first | (go_at_call 64; refine (rboth_w _ _ _ _ _ (by assumption) (by assumption) (by assumption) (by assumption)).mono ?_; rintro e w1 ⟨rfl, hb1⟩; obtain ⟨hc1, hf1⟩ := bcell hb1; have hz1 := hb1.size; (try simp at hz1); have hs1_0 : w.heap.size < w1.heap.size := (by omega); have hs1_1 : w.heap.size + 1 < w1.heap.size := (by omega); have hs1_2 : w.heap.size + 1 + 1 < w1.heap.size := (by omega)) | (go_at_call 13; refine (rmake_c hk _ ⟨by omega, by omega⟩ ⟨by omega, by omega⟩).mono ?_; rintro e w2 ⟨rfl, hb2⟩; obtain ⟨hc2, hf2⟩ := bcell hb2; have hz2 := hb2.size; (try simp at hz2); have hs2_0 : w.heap.size < w2.heap.size := (by omega); have hs2_1 : w.heap.size + 1 < w2.heap.size := (by omega); have hs2_2 : w.heap.size + 1 + 1 < w2.heap.size := (by omega)))
    refine bodyPost_ret (v := .tuple #[.agg #[.int .i64 p, .int .i64 q], .int .i64 r]) (by simp [results, Try.results17, go_sem, hc2, hc1, hs1_0, hs1_1, hs1_2, hs2_0, hs2_1, hs2_2]) rfl ⟨rfl, (by repeat (first | exact Below.refl _ _ | assumption | refine Below.alloc ?_ (by first | omega | (simp; omega) | simp) _ | refine Below.setCell ?_ (by first | omega | (simp; omega) | simp) _ | refine below_drewN ?_ _ | refine Below.drew ?_ | refine back ?_ (by assumption)))⟩
  · have hk : (p, q, r) = ((0 : Int), (0 : Int), (10 : Int)) := by have := hm.out; unfold opF at this; rw [if_neg (by rw [hA]; decide)] at this; exact this.symm
    simp only [Prod.mk.injEq] at hk
    obtain ⟨rfl, rfl, rfl⟩ := hk
    go_enter Try.func17, Try.ntmps17
    go_wp2_with (go_at_call 64; refine (rboth_w _ _ _ _ _ (by assumption) (by assumption) (by assumption) (by assumption)).mono ?_; rintro e w1 ⟨rfl, hb1⟩; obtain ⟨hc1, hf1⟩ := bcell hb1; have hz1 := hb1.size; (try simp at hz1); have hs1_0 : w.heap.size < w1.heap.size := (by omega); have hs1_1 : w.heap.size + 1 < w1.heap.size := (by omega); have hs1_2 : w.heap.size + 1 + 1 < w1.heap.size := (by omega))
    refine bodyPost_ret (v := .tuple #[.agg #[.int .i64 0, .int .i64 0], .int .i64 10]) (by simp [results, Try.results17, go_sem, hc1, hs1_0, hs1_1, hs1_2]) rfl ⟨rfl, (by repeat (first | exact Below.refl _ _ | assumption | refine Below.alloc ?_ (by first | omega | (simp; omega) | simp) _ | refine Below.setCell ?_ (by first | omega | (simp; omega) | simp) _ | refine below_drewN ?_ _ | refine Below.drew ?_ | refine back ?_ (by assumption)))⟩

set_option maxHeartbeats 400000 in
theorem mul_c {an ad bn bd p q r : Int} (hm : Hid (opF an ad bn bd (an * bn) (ad * bd) = (p, q, r))) (w : World) (h1 : FB an) (h2 : FB ad) (h3 : FB bn) (h4 : FB bd) :
    Calls Try.prog 18 #[.agg #[.int .i64 an, .int .i64 ad], .agg #[.int .i64 bn, .int .i64 bd]] w fun e w' => e = .returned (.tuple #[.agg #[.int .i64 p, .int .i64 q], .int .i64 r]) ∧ Below w.heap.size w w' := by
  rcases chk2_or an ad bn bd with hA | hA
  · have hk : Hid (mk (an * bn) (ad * bd) = (p, q, r)) := by have := hm.out; unfold opF at this; rw [if_pos hA] at this; exact this
    obtain ⟨c1, c2⟩ := chk2_zero hA
    have b1 := chk_bd c1
    have b2 := chk_bd c2
    obtain ⟨b1a, b1b, b1c, b1d⟩ := b1
    obtain ⟨b2a, b2b, b2c, b2d⟩ := b2
    clear c1 c2
    have m0 := mul_bd (x := an) (y := bn) (by omega) (by omega)
    obtain ⟨m0a, m0b⟩ := m0
    have m1 := mul_bd (x := ad) (y := bd) (by omega) (by omega)
    obtain ⟨m1a, m1b⟩ := m1
    go_enter Try.func18, Try.ntmps18
    go_wp2_with (first | (go_at_call 63; refine (both_w _ _ _ _ _ (by assumption) (by assumption) (by assumption) (by assumption)).mono ?_; rintro e w1 ⟨rfl, hb1⟩; obtain ⟨hc1, hf1⟩ := bcell hb1; have hz1 := hb1.size; (try simp at hz1); have hs1_0 : w.heap.size < w1.heap.size := (by omega); have hs1_1 : w.heap.size + 1 < w1.heap.size := (by omega); have hs1_2 : w.heap.size + 1 + 1 < w1.heap.size := (by omega)) | (go_at_call 12; refine (make_c hk _ ⟨by omega, by omega⟩ ⟨by omega, by omega⟩).mono ?_; rintro e w2 ⟨rfl, hb2⟩; obtain ⟨hc2, hf2⟩ := bcell hb2; have hz2 := hb2.size; (try simp at hz2); have hs2_0 : w.heap.size < w2.heap.size := (by omega); have hs2_1 : w.heap.size + 1 < w2.heap.size := (by omega); have hs2_2 : w.heap.size + 1 + 1 < w2.heap.size := (by omega)))
    refine bodyPost_ret (v := .tuple #[.agg #[.int .i64 p, .int .i64 q], .int .i64 r]) (by simp [results, Try.results18, go_sem, hc2, hc1, hs1_0, hs1_1, hs1_2, hs2_0, hs2_1, hs2_2]) rfl ⟨rfl, (by repeat (first | exact Below.refl _ _ | assumption | refine Below.alloc ?_ (by first | omega | (simp; omega) | simp) _ | refine Below.setCell ?_ (by first | omega | (simp; omega) | simp) _ | refine below_drewN ?_ _ | refine Below.drew ?_ | refine back ?_ (by assumption)))⟩
  · have hk : (p, q, r) = ((0 : Int), (0 : Int), (10 : Int)) := by have := hm.out; unfold opF at this; rw [if_neg (by rw [hA]; decide)] at this; exact this.symm
    simp only [Prod.mk.injEq] at hk
    obtain ⟨rfl, rfl, rfl⟩ := hk
    go_enter Try.func18, Try.ntmps18
    go_wp2_with (go_at_call 63; refine (both_w _ _ _ _ _ (by assumption) (by assumption) (by assumption) (by assumption)).mono ?_; rintro e w1 ⟨rfl, hb1⟩; obtain ⟨hc1, hf1⟩ := bcell hb1; have hz1 := hb1.size; (try simp at hz1); have hs1_0 : w.heap.size < w1.heap.size := (by omega); have hs1_1 : w.heap.size + 1 < w1.heap.size := (by omega); have hs1_2 : w.heap.size + 1 + 1 < w1.heap.size := (by omega))
    refine bodyPost_ret (v := .tuple #[.agg #[.int .i64 0, .int .i64 0], .int .i64 10]) (by simp [results, Try.results18, go_sem, hc1, hs1_0, hs1_1, hs1_2]) rfl ⟨rfl, (by repeat (first | exact Below.refl _ _ | assumption | refine Below.alloc ?_ (by first | omega | (simp; omega) | simp) _ | refine Below.setCell ?_ (by first | omega | (simp; omega) | simp) _ | refine below_drewN ?_ _ | refine Below.drew ?_ | refine back ?_ (by assumption)))⟩

set_option maxHeartbeats 400000 in
theorem rmul_c {an ad bn bd p q r : Int} (hm : Hid (opF an ad bn bd (an * bn) (ad * bd) = (p, q, r))) (w : World) (h1 : FB an) (h2 : FB ad) (h3 : FB bn) (h4 : FB bd) :
    Calls Try.prog 19 #[.agg #[.int .i64 an, .int .i64 ad], .agg #[.int .i64 bn, .int .i64 bd]] w fun e w' => e = .returned (.tuple #[.agg #[.int .i64 p, .int .i64 q], .int .i64 r]) ∧ Below w.heap.size w w' := by
  rcases chk2_or an ad bn bd with hA | hA
  · have hk : Hid (mk (an * bn) (ad * bd) = (p, q, r)) := by have := hm.out; unfold opF at this; rw [if_pos hA] at this; exact this
    obtain ⟨c1, c2⟩ := chk2_zero hA
    have b1 := chk_bd c1
    have b2 := chk_bd c2
    obtain ⟨b1a, b1b, b1c, b1d⟩ := b1
    obtain ⟨b2a, b2b, b2c, b2d⟩ := b2
    clear c1 c2
    have m0 := mul_bd (x := an) (y := bn) (by omega) (by omega)
    obtain ⟨m0a, m0b⟩ := m0
    have m1 := mul_bd (x := ad) (y := bd) (by omega) (by omega)
    obtain ⟨m1a, m1b⟩ := m1
    go_enter Try.func19, Try.ntmps19
    go_wp2_with (first | (go_at_call 64; refine (rboth_w _ _ _ _ _ (by assumption) (by assumption) (by assumption) (by assumption)).mono ?_; rintro e w1 ⟨rfl, hb1⟩; obtain ⟨hc1, hf1⟩ := bcell hb1; have hz1 := hb1.size; (try simp at hz1); have hs1_0 : w.heap.size < w1.heap.size := (by omega); have hs1_1 : w.heap.size + 1 < w1.heap.size := (by omega); have hs1_2 : w.heap.size + 1 + 1 < w1.heap.size := (by omega)) | (go_at_call 13; refine (rmake_c hk _ ⟨by omega, by omega⟩ ⟨by omega, by omega⟩).mono ?_; rintro e w2 ⟨rfl, hb2⟩; obtain ⟨hc2, hf2⟩ := bcell hb2; have hz2 := hb2.size; (try simp at hz2); have hs2_0 : w.heap.size < w2.heap.size := (by omega); have hs2_1 : w.heap.size + 1 < w2.heap.size := (by omega); have hs2_2 : w.heap.size + 1 + 1 < w2.heap.size := (by omega)))
    refine bodyPost_ret (v := .tuple #[.agg #[.int .i64 p, .int .i64 q], .int .i64 r]) (by simp [results, Try.results19, go_sem, hc2, hc1, hs1_0, hs1_1, hs1_2, hs2_0, hs2_1, hs2_2]) rfl ⟨rfl, (by repeat (first | exact Below.refl _ _ | assumption | refine Below.alloc ?_ (by first | omega | (simp; omega) | simp) _ | refine Below.setCell ?_ (by first | omega | (simp; omega) | simp) _ | refine below_drewN ?_ _ | refine Below.drew ?_ | refine back ?_ (by assumption)))⟩
  · have hk : (p, q, r) = ((0 : Int), (0 : Int), (10 : Int)) := by have := hm.out; unfold opF at this; rw [if_neg (by rw [hA]; decide)] at this; exact this.symm
    simp only [Prod.mk.injEq] at hk
    obtain ⟨rfl, rfl, rfl⟩ := hk
    go_enter Try.func19, Try.ntmps19
    go_wp2_with (go_at_call 64; refine (rboth_w _ _ _ _ _ (by assumption) (by assumption) (by assumption) (by assumption)).mono ?_; rintro e w1 ⟨rfl, hb1⟩; obtain ⟨hc1, hf1⟩ := bcell hb1; have hz1 := hb1.size; (try simp at hz1); have hs1_0 : w.heap.size < w1.heap.size := (by omega); have hs1_1 : w.heap.size + 1 < w1.heap.size := (by omega); have hs1_2 : w.heap.size + 1 + 1 < w1.heap.size := (by omega))
    refine bodyPost_ret (v := .tuple #[.agg #[.int .i64 0, .int .i64 0], .int .i64 10]) (by simp [results, Try.results19, go_sem, hc1, hs1_0, hs1_1, hs1_2]) rfl ⟨rfl, (by repeat (first | exact Below.refl _ _ | assumption | refine Below.alloc ?_ (by first | omega | (simp; omega) | simp) _ | refine Below.setCell ?_ (by first | omega | (simp; omega) | simp) _ | refine below_drewN ?_ _ | refine Below.drew ?_ | refine back ?_ (by assumption)))⟩

set_option maxHeartbeats 400000 in
theorem div_c {an ad bn bd p q r : Int} (hm : Hid (opF an ad bn bd (an * bd) (ad * bn) = (p, q, r))) (w : World) (h1 : FB an) (h2 : FB ad) (h3 : FB bn) (h4 : FB bd) :
    Calls Try.prog 20 #[.agg #[.int .i64 an, .int .i64 ad], .agg #[.int .i64 bn, .int .i64 bd]] w fun e w' => e = .returned (.tuple #[.agg #[.int .i64 p, .int .i64 q], .int .i64 r]) ∧ Below w.heap.size w w' := by
  rcases chk2_or an ad bn bd with hA | hA
  · have hk : Hid (mk (an * bd) (ad * bn) = (p, q, r)) := by have := hm.out; unfold opF at this; rw [if_pos hA] at this; exact this
    obtain ⟨c1, c2⟩ := chk2_zero hA
    have b1 := chk_bd c1
    have b2 := chk_bd c2
    obtain ⟨b1a, b1b, b1c, b1d⟩ := b1
    obtain ⟨b2a, b2b, b2c, b2d⟩ := b2
    clear c1 c2
    have m0 := mul_bd (x := an) (y := bd) (by omega) (by omega)
    obtain ⟨m0a, m0b⟩ := m0
    have m1 := mul_bd (x := ad) (y := bn) (by omega) (by omega)
    obtain ⟨m1a, m1b⟩ := m1
    go_enter Try.func20, Try.ntmps20
    go_wp2_with (first | (go_at_call 63; refine (both_w _ _ _ _ _ (by assumption) (by assumption) (by assumption) (by assumption)).mono ?_; rintro e w1 ⟨rfl, hb1⟩; obtain ⟨hc1, hf1⟩ := bcell hb1; have hz1 := hb1.size; (try simp at hz1); have hs1_0 : w.heap.size < w1.heap.size := (by omega); have hs1_1 : w.heap.size + 1 < w1.heap.size := (by omega); have hs1_2 : w.heap.size + 1 + 1 < w1.heap.size := (by omega)) | (go_at_call 12; refine (make_c hk _ ⟨by omega, by omega⟩ ⟨by omega, by omega⟩).mono ?_; rintro e w2 ⟨rfl, hb2⟩; obtain ⟨hc2, hf2⟩ := bcell hb2; have hz2 := hb2.size; (try simp at hz2); have hs2_0 : w.heap.size < w2.heap.size := (by omega); have hs2_1 : w.heap.size + 1 < w2.heap.size := (by omega); have hs2_2 : w.heap.size + 1 + 1 < w2.heap.size := (by omega)))
    refine bodyPost_ret (v := .tuple #[.agg #[.int .i64 p, .int .i64 q], .int .i64 r]) (by simp [results, Try.results20, go_sem, hc2, hc1, hs1_0, hs1_1, hs1_2, hs2_0, hs2_1, hs2_2]) rfl ⟨rfl, (by repeat (first | exact Below.refl _ _ | assumption | refine Below.alloc ?_ (by first | omega | (simp; omega) | simp) _ | refine Below.setCell ?_ (by first | omega | (simp; omega) | simp) _ | refine below_drewN ?_ _ | refine Below.drew ?_ | refine back ?_ (by assumption)))⟩
  · have hk : (p, q, r) = ((0 : Int), (0 : Int), (10 : Int)) := by have := hm.out; unfold opF at this; rw [if_neg (by rw [hA]; decide)] at this; exact this.symm
    simp only [Prod.mk.injEq] at hk
    obtain ⟨rfl, rfl, rfl⟩ := hk
    go_enter Try.func20, Try.ntmps20
    go_wp2_with (go_at_call 63; refine (both_w _ _ _ _ _ (by assumption) (by assumption) (by assumption) (by assumption)).mono ?_; rintro e w1 ⟨rfl, hb1⟩; obtain ⟨hc1, hf1⟩ := bcell hb1; have hz1 := hb1.size; (try simp at hz1); have hs1_0 : w.heap.size < w1.heap.size := (by omega); have hs1_1 : w.heap.size + 1 < w1.heap.size := (by omega); have hs1_2 : w.heap.size + 1 + 1 < w1.heap.size := (by omega))
    refine bodyPost_ret (v := .tuple #[.agg #[.int .i64 0, .int .i64 0], .int .i64 10]) (by simp [results, Try.results20, go_sem, hc1, hs1_0, hs1_1, hs1_2]) rfl ⟨rfl, (by repeat (first | exact Below.refl _ _ | assumption | refine Below.alloc ?_ (by first | omega | (simp; omega) | simp) _ | refine Below.setCell ?_ (by first | omega | (simp; omega) | simp) _ | refine below_drewN ?_ _ | refine Below.drew ?_ | refine back ?_ (by assumption)))⟩

set_option maxHeartbeats 400000 in
theorem rdiv_c {an ad bn bd p q r : Int} (hm : Hid (opF an ad bn bd (an * bd) (ad * bn) = (p, q, r))) (w : World) (h1 : FB an) (h2 : FB ad) (h3 : FB bn) (h4 : FB bd) :
    Calls Try.prog 21 #[.agg #[.int .i64 an, .int .i64 ad], .agg #[.int .i64 bn, .int .i64 bd]] w fun e w' => e = .returned (.tuple #[.agg #[.int .i64 p, .int .i64 q], .int .i64 r]) ∧ Below w.heap.size w w' := by
  rcases chk2_or an ad bn bd with hA | hA
  · have hk : Hid (mk (an * bd) (ad * bn) = (p, q, r)) := by have := hm.out; unfold opF at this; rw [if_pos hA] at this; exact this
    obtain ⟨c1, c2⟩ := chk2_zero hA
    have b1 := chk_bd c1
    have b2 := chk_bd c2
    obtain ⟨b1a, b1b, b1c, b1d⟩ := b1
    obtain ⟨b2a, b2b, b2c, b2d⟩ := b2
    clear c1 c2
    have m0 := mul_bd (x := an) (y := bd) (by omega) (by omega)
    obtain ⟨m0a, m0b⟩ := m0
    have m1 := mul_bd (x := ad) (y := bn) (by omega) (by omega)
    obtain ⟨m1a, m1b⟩ := m1
    go_enter Try.func21, Try.ntmps21
    go_wp2_with (first | (go_at_call 64; refine (rboth_w _ _ _ _ _ (by assumption) (by assumption) (by assumption) (by assumption)).mono ?_; rintro e w1 ⟨rfl, hb1⟩; obtain ⟨hc1, hf1⟩ := bcell hb1; have hz1 := hb1.size; (try simp at hz1); have hs1_0 : w.heap.size < w1.heap.size := (by omega); have hs1_1 : w.heap.size + 1 < w1.heap.size := (by omega); have hs1_2 : w.heap.size + 1 + 1 < w1.heap.size := (by omega)) | (go_at_call 13; refine (rmake_c hk _ ⟨by omega, by omega⟩ ⟨by omega, by omega⟩).mono ?_; rintro e w2 ⟨rfl, hb2⟩; obtain ⟨hc2, hf2⟩ := bcell hb2; have hz2 := hb2.size; (try simp at hz2); have hs2_0 : w.heap.size < w2.heap.size := (by omega); have hs2_1 : w.heap.size + 1 < w2.heap.size := (by omega); have hs2_2 : w.heap.size + 1 + 1 < w2.heap.size := (by omega)))
    refine bodyPost_ret (v := .tuple #[.agg #[.int .i64 p, .int .i64 q], .int .i64 r]) (by simp [results, Try.results21, go_sem, hc2, hc1, hs1_0, hs1_1, hs1_2, hs2_0, hs2_1, hs2_2]) rfl ⟨rfl, (by repeat (first | exact Below.refl _ _ | assumption | refine Below.alloc ?_ (by first | omega | (simp; omega) | simp) _ | refine Below.setCell ?_ (by first | omega | (simp; omega) | simp) _ | refine below_drewN ?_ _ | refine Below.drew ?_ | refine back ?_ (by assumption)))⟩
  · have hk : (p, q, r) = ((0 : Int), (0 : Int), (10 : Int)) := by have := hm.out; unfold opF at this; rw [if_neg (by rw [hA]; decide)] at this; exact this.symm
    simp only [Prod.mk.injEq] at hk
    obtain ⟨rfl, rfl, rfl⟩ := hk
    go_enter Try.func21, Try.ntmps21
    go_wp2_with (go_at_call 64; refine (rboth_w _ _ _ _ _ (by assumption) (by assumption) (by assumption) (by assumption)).mono ?_; rintro e w1 ⟨rfl, hb1⟩; obtain ⟨hc1, hf1⟩ := bcell hb1; have hz1 := hb1.size; (try simp at hz1); have hs1_0 : w.heap.size < w1.heap.size := (by omega); have hs1_1 : w.heap.size + 1 < w1.heap.size := (by omega); have hs1_2 : w.heap.size + 1 + 1 < w1.heap.size := (by omega))
    refine bodyPost_ret (v := .tuple #[.agg #[.int .i64 0, .int .i64 0], .int .i64 10]) (by simp [results, Try.results21, go_sem, hc1, hs1_0, hs1_1, hs1_2]) rfl ⟨rfl, (by repeat (first | exact Below.refl _ _ | assumption | refine Below.alloc ?_ (by first | omega | (simp; omega) | simp) _ | refine Below.setCell ?_ (by first | omega | (simp; omega) | simp) _ | refine below_drewN ?_ _ | refine Below.drew ?_ | refine back ?_ (by assumption)))⟩
end Go.Proofs.Ytlpoenoijmifdaa
