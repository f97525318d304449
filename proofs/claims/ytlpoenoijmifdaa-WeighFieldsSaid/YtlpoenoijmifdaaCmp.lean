import Derived.Test.YtlpoenoijmifdaaOps
set_option linter.unusedVariables false
set_option linter.unusedSimpArgs false
namespace Go.Proofs.Ytlpoenoijmifdaa
open Go.RowKit

def cmpF (an ad bn bd : Int) : Int := if chk2 an ad bn bd = 0 then (if an * bd < bn * ad then -1 else if bn * ad < an * bd then 1 else 0) else 0

/-- Two fractions in lowest terms with one value are one. -/
theorem chk_eq {an ad bn bd : Int} (h1 : chk an ad = 0) (h2 : chk bn bd = 0) (h : an * bd = bn * ad) : an = bn ∧ ad = bd := by
  have v : ∀ n d : Int, chk n d = 0 → 1 ≤ d ∧ Nat.gcd n.natAbs d.natAbs = 1 := by
    intro n d h; unfold chk at h; split at h
    · rename_i h'; exact ⟨h'.2.2.1, h'.2.2.2.2⟩
    · simp at h
  obtain ⟨a1, a2⟩ := v _ _ h1
  obtain ⟨b1, b2⟩ := v _ _ h2
  have hn : an.natAbs * bd.natAbs = bn.natAbs * ad.natAbs := by rw [← Int.natAbs_mul, ← Int.natAbs_mul, h]
  have d1 : ad.natAbs ∣ bd.natAbs := by
    have : ad.natAbs ∣ an.natAbs * bd.natAbs := ⟨bn.natAbs, by rw [hn, Nat.mul_comm]⟩
    exact Nat.Coprime.dvd_of_dvd_mul_left (Nat.Coprime.symm a2) this
  have d2 : bd.natAbs ∣ ad.natAbs := by
    have : bd.natAbs ∣ bn.natAbs * ad.natAbs := ⟨an.natAbs, by rw [← hn, Nat.mul_comm]⟩
    exact Nat.Coprime.dvd_of_dvd_mul_left (Nat.Coprime.symm b2) this
  have hd : ad = bd := by have := Nat.dvd_antisymm d1 d2; omega
  subst hd
  exact ⟨Int.eq_of_mul_eq_mul_right (by omega) h, rfl⟩

set_option maxHeartbeats 400000 in
theorem cmp_w (an ad bn bd : Int) (w : World) (h1 : FB an) (h2 : FB ad) (h3 : FB bn) (h4 : FB bd) :
    Calls Try.prog 30 #[.agg #[.int .i64 an, .int .i64 ad], .agg #[.int .i64 bn, .int .i64 bd]] w fun e w' => e = .returned (.int .i64 (cmpF an ad bn bd)) ∧ Below w.heap.size w w' := by
  rcases chk2_or an ad bn bd with hA | hA
  · obtain ⟨c1, c2⟩ := chk2_zero hA
    have b1 := chk_bd c1
    have b2 := chk_bd c2
    obtain ⟨b1a, b1b, b1c, b1d⟩ := b1
    obtain ⟨b2a, b2b, b2c, b2d⟩ := b2
    have HE := hide (fun h => chk_eq c1 c2 h)
    have HC : Hid (cmpF an ad bn bd = (if an * bd < bn * ad then -1 else if bn * ad < an * bd then 1 else 0)) := by show cmpF _ _ _ _ = _; unfold cmpF; rw [if_pos hA]
    clear c1 c2
    have m0 := mul_bd (x := an) (y := bd) (by omega) (by omega)
    obtain ⟨m0a, m0b⟩ := m0
    have m1 := mul_bd (x := bn) (y := ad) (by omega) (by omega)
    obtain ⟨m1a, m1b⟩ := m1
    have m2 := mul_bd (x := bn) (y := bd) (by omega) (by omega)
    obtain ⟨m2a, m2b⟩ := m2
    go_enter Try.func30, Try.ntmps30
    go_wp2_with (go_at_call 63; refine (both_w _ _ _ _ _ (by assumption) (by assumption) (by assumption) (by assumption)).mono ?_; rintro e w1 ⟨rfl, hb1⟩; obtain ⟨hc1, hf1⟩ := bcell hb1; have hz1 := hb1.size; (try simp at hz1); have hs1_0 : w.heap.size < w1.heap.size := (by omega); have hs1_1 : w.heap.size + 1 < w1.heap.size := (by omega))
    all_goals (go_ret; refine ⟨ret_int ?_, (by repeat (first | exact Below.refl _ _ | assumption | refine Below.alloc ?_ (by first | omega | (simp; omega) | simp) _ | refine Below.setCell ?_ (by first | omega | (simp; omega) | simp) _ | refine below_drewN ?_ _ | refine Below.drew ?_ | refine back ?_ (by assumption)))⟩; rw [HC.out]; have he := HE.out; subst_vars; (repeat' split) <;> omega)
  · have HC : Hid (cmpF an ad bn bd = 0) := by show cmpF _ _ _ _ = _; unfold cmpF; rw [if_neg (by rw [hA]; decide)]
    go_enter Try.func30, Try.ntmps30
    go_wp2_with (go_at_call 63; refine (both_w _ _ _ _ _ (by assumption) (by assumption) (by assumption) (by assumption)).mono ?_; rintro e w1 ⟨rfl, hb1⟩; obtain ⟨hc1, hf1⟩ := bcell hb1; have hz1 := hb1.size; (try simp at hz1); have hs1_0 : w.heap.size < w1.heap.size := (by omega); have hs1_1 : w.heap.size + 1 < w1.heap.size := (by omega))
    go_ret
    exact ⟨ret_int HC.out.symm, (by repeat (first | exact Below.refl _ _ | assumption | refine Below.alloc ?_ (by first | omega | (simp; omega) | simp) _ | refine Below.setCell ?_ (by first | omega | (simp; omega) | simp) _ | refine below_drewN ?_ _ | refine Below.drew ?_ | refine back ?_ (by assumption)))⟩

set_option maxHeartbeats 400000 in
theorem rcmp_w (an ad bn bd : Int) (w : World) (h1 : FB an) (h2 : FB ad) (h3 : FB bn) (h4 : FB bd) :
    Calls Try.prog 31 #[.agg #[.int .i64 an, .int .i64 ad], .agg #[.int .i64 bn, .int .i64 bd]] w fun e w' => e = .returned (.int .i64 (cmpF an ad bn bd)) ∧ Below w.heap.size w w' := by
  rcases chk2_or an ad bn bd with hA | hA
  · obtain ⟨c1, c2⟩ := chk2_zero hA
    have b1 := chk_bd c1
    have b2 := chk_bd c2
    obtain ⟨b1a, b1b, b1c, b1d⟩ := b1
    obtain ⟨b2a, b2b, b2c, b2d⟩ := b2
    have HC : Hid (cmpF an ad bn bd = (if an * bd < bn * ad then -1 else if bn * ad < an * bd then 1 else 0)) := by show cmpF _ _ _ _ = _; unfold cmpF; rw [if_pos hA]
    clear c1 c2
    have m0 := mul_bd (x := an) (y := bd) (by omega) (by omega)
    obtain ⟨m0a, m0b⟩ := m0
    have m1 := mul_bd (x := bn) (y := ad) (by omega) (by omega)
    obtain ⟨m1a, m1b⟩ := m1
    have m2 := mul_bd (x := bn) (y := bd) (by omega) (by omega)
    obtain ⟨m2a, m2b⟩ := m2
    go_enter Try.func31, Try.ntmps31
    go_wp2_with (go_at_call 64; refine (rboth_w _ _ _ _ _ (by assumption) (by assumption) (by assumption) (by assumption)).mono ?_; rintro e w1 ⟨rfl, hb1⟩; obtain ⟨hc1, hf1⟩ := bcell hb1; have hz1 := hb1.size; (try simp at hz1); have hs1_0 : w.heap.size < w1.heap.size := (by omega); have hs1_1 : w.heap.size + 1 < w1.heap.size := (by omega))
    all_goals (go_ret; refine ⟨ret_int ?_, (by repeat (first | exact Below.refl _ _ | assumption | refine Below.alloc ?_ (by first | omega | (simp; omega) | simp) _ | refine Below.setCell ?_ (by first | omega | (simp; omega) | simp) _ | refine below_drewN ?_ _ | refine Below.drew ?_ | refine back ?_ (by assumption)))⟩; rw [HC.out]; (repeat' split) <;> omega)
  · have HC : Hid (cmpF an ad bn bd = 0) := by show cmpF _ _ _ _ = _; unfold cmpF; rw [if_neg (by rw [hA]; decide)]
    go_enter Try.func31, Try.ntmps31
    go_wp2_with (go_at_call 64; refine (rboth_w _ _ _ _ _ (by assumption) (by assumption) (by assumption) (by assumption)).mono ?_; rintro e w1 ⟨rfl, hb1⟩; obtain ⟨hc1, hf1⟩ := bcell hb1; have hz1 := hb1.size; (try simp at hz1); have hs1_0 : w.heap.size < w1.heap.size := (by omega); have hs1_1 : w.heap.size + 1 < w1.heap.size := (by omega))
    go_ret
    exact ⟨ret_int HC.out.symm, (by repeat (first | exact Below.refl _ _ | assumption | refine Below.alloc ?_ (by first | omega | (simp; omega) | simp) _ | refine Below.setCell ?_ (by first | omega | (simp; omega) | simp) _ | refine below_drewN ?_ _ | refine Below.drew ?_ | refine back ?_ (by assumption)))⟩

/-- n / d rounded down, for d above 0. -/
def flo (n d : Int) : Int := n / d

theorem tdiv_neg {n d : Int} (hd : 0 < d) (h : n.tmod d < 0) : n.tdiv d - 1 = n / d := by
  have h1 := Int.tmod_add_mul_tdiv n d
  have h2 := Int.emod_add_mul_ediv n d
  have h3 := Int.emod_nonneg n (show d ≠ 0 by omega)
  have h4 := Int.emod_lt_of_pos n hd
  have h5 := Int.lt_tmod_of_pos n hd
  have : d * (n.tdiv d - 1 - n / d) = n % d - n.tmod d - d := by
    rw [Int.mul_sub, Int.mul_sub]; omega
  have h6 : d * (n.tdiv d - 1 - n / d) < d * 1 := by omega
  have h7 : d * (-1) < d * (n.tdiv d - 1 - n / d) := by omega
  have h8 := Int.lt_of_mul_lt_mul_left h6 (by omega)
  have h9 := Int.lt_of_mul_lt_mul_left h7 (by omega)
  omega

theorem tdiv_pos {n d : Int} (hd : 0 < d) (h : 0 ≤ n.tmod d) : n.tdiv d = n / d := by
  have h1 := Int.tmod_add_mul_tdiv n d
  have h2 := Int.emod_add_mul_ediv n d
  have h3 := Int.emod_nonneg n (show d ≠ 0 by omega)
  have h4 := Int.emod_lt_of_pos n hd
  have h5 := Int.tmod_lt_of_pos n hd
  have : d * (n.tdiv d - n / d) = n % d - n.tmod d := by
    rw [Int.mul_sub]; omega
  have h6 : d * (n.tdiv d - n / d) < d * 1 := by omega
  have h7 : d * (-1) < d * (n.tdiv d - n / d) := by omega
  have h8 := Int.lt_of_mul_lt_mul_left h6 (by omega)
  have h9 := Int.lt_of_mul_lt_mul_left h7 (by omega)
  omega

theorem tdiv_bd {n d : Int} (hd : 0 < d) : (0 ≤ n → 0 ≤ n.tdiv d ∧ n.tdiv d ≤ n) ∧ (n ≤ 0 → n ≤ n.tdiv d ∧ n.tdiv d ≤ 0) := by
  constructor
  · intro h
    exact ⟨Int.tdiv_nonneg h (by omega), by rw [Int.tdiv_eq_ediv_of_nonneg h]; exact Int.ediv_le_self _ h⟩
  · intro h
    have e : n.tdiv d = -((-n).tdiv d) := by rw [Int.neg_tdiv]; omega
    have h1 := Int.tdiv_nonneg (show 0 ≤ -n by omega) (show 0 ≤ d by omega)
    have h2 : (-n).tdiv d ≤ -n := by rw [Int.tdiv_eq_ediv_of_nonneg (by omega)]; exact Int.ediv_le_self _ (by omega)
    omega

theorem flo_bd {n d : Int} (hd : 0 < d) (h1 : -5000000000 ≤ n) (h2 : n ≤ 5000000000) : -5000000000 ≤ flo n d ∧ flo n d ≤ 5000000000 := by
  unfold flo
  have := Int.emod_add_mul_ediv n d
  have h3 := Int.emod_nonneg n (show d ≠ 0 by omega)
  have h4 := Int.emod_lt_of_pos n hd
  constructor
  · refine (Int.le_ediv_iff_mul_le hd).2 ?_
    have : 5000000000 * (d - 1) ≥ 0 := Int.mul_nonneg (by omega) (by omega)
    omega
  · refine Int.le_of_lt_add_one ((Int.ediv_lt_iff_lt_mul hd).2 ?_)
    have : 5000000000 * (d - 1) ≥ 0 := Int.mul_nonneg (by omega) (by omega)
    omega

set_option maxHeartbeats 400000 in
theorem floorDiv_w (n d : Int) (w : World) (_h1 : -9223372036854775807 ≤ n) (_h2 : n ≤ 9223372036854775807) (_h3 : 0 < d) (_h4 : d ≤ 9223372036854775807) :
    Calls Try.prog 65 #[.int .i64 n, .int .i64 d] w fun e w' => e = .returned (.int .i64 (flo n d)) ∧ w = w' := by
  have hne : (d == 0) = false := by simp; omega
  have ht := tdiv_bd (n := n) _h3
  obtain ⟨ht1, ht2⟩ := ht
  have hb : -9223372036854775807 ≤ n.tdiv d ∧ n.tdiv d ≤ 9223372036854775807 := by omega
  obtain ⟨hb1, hb2⟩ := hb
  clear ht1 ht2
  by_cases hm : n.tmod d < 0
  · have HT := hide (tdiv_neg _h3 hm)
    go_enter Try.func65, Try.ntmps65
    go_wp2
    go_ret
    exact ⟨ret_int HT.out, rfl⟩
  · have HT := hide (tdiv_pos (n := n) _h3 (by omega))
    go_enter Try.func65, Try.ntmps65
    go_wp2
    go_ret
    exact ⟨ret_int HT.out, rfl⟩

set_option maxHeartbeats 400000 in
theorem down_w (n d : Int) (w : World) (_h1 : -9223372036854775807 ≤ n) (_h2 : n ≤ 9223372036854775807) (_h3 : 0 < d) (_h4 : d ≤ 9223372036854775807) :
    Calls Try.prog 66 #[.int .i64 n, .int .i64 d] w fun e w' => e = .returned (.int .i64 (flo n d)) ∧ w = w' := by
  have hne : (d == 0) = false := by simp; omega
  have ht := tdiv_bd (n := n) _h3
  obtain ⟨ht1, ht2⟩ := ht
  have hb : -9223372036854775807 ≤ n.tdiv d ∧ n.tdiv d ≤ 9223372036854775807 := by omega
  obtain ⟨hb1, hb2⟩ := hb
  clear ht1 ht2
  by_cases hm : n.tmod d < 0
  · have HT := hide (tdiv_neg _h3 hm)
    go_enter Try.func66, Try.ntmps66
    go_wp2
    go_ret
    exact ⟨ret_int HT.out, rfl⟩
  · have HT := hide (tdiv_pos (n := n) _h3 (by omega))
    go_enter Try.func66, Try.ntmps66
    go_wp2
    go_ret
    exact ⟨ret_int HT.out, rfl⟩

set_option maxHeartbeats 400000 in
theorem floor_w (n d : Int) (w : World) (h1 : FB n) (h2 : FB d) :
    Calls Try.prog 22 #[.agg #[.int .i64 n, .int .i64 d]] w fun e w' => e = .returned (.tuple #[.int .i64 (if chk n d = 0 then flo n d else 0), .int .i64 (chk n d)]) ∧ Below w.heap.size w w' := by
  rcases chk_or n d with hA | hA
  · have b1 := chk_bd hA
    obtain ⟨b1a, b1b, b1c, b1d⟩ := b1
    have fb := flo_bd (n := n) (d := d) (by omega) (by omega) (by omega)
    have fc := flo_bd (n := -n) (d := d) (by omega) (by omega) (by omega)
    have fd := flo_bd (n := 2 * n + d) (d := 2 * d) (by omega) (by omega) (by omega)
    obtain ⟨fb1, fb2⟩ := fb
    obtain ⟨fc1, fc2⟩ := fc
    obtain ⟨fd1, fd2⟩ := fd
    go_enter Try.func22, Try.ntmps22
    go_wp2_with (first | (go_at_call 28; refine (check_w _ _ _ (by assumption) (by assumption)).mono ?_; rintro e w1 ⟨rfl, hb1⟩; obtain ⟨hc1, hf1⟩ := bcell hb1; have hz1 := hb1.size; (try simp at hz1); have hs1_0 : w.heap.size < w1.heap.size := (by omega)) | (go_at_call 65; refine (floorDiv_w _ _ _ (by omega) (by omega) (by omega) (by omega)).mono ?_; rintro e w' ⟨rfl, rfl⟩))
    go_ret2
    exact ⟨by simp [hA], (by repeat (first | exact Below.refl _ _ | assumption | refine Below.alloc ?_ (by first | omega | (simp; omega) | simp) _ | refine Below.setCell ?_ (by first | omega | (simp; omega) | simp) _ | refine below_drewN ?_ _ | refine Below.drew ?_ | refine back ?_ (by assumption)))⟩
  · go_enter Try.func22, Try.ntmps22
    go_wp2_with (go_at_call 28; refine (check_w _ _ _ (by assumption) (by assumption)).mono ?_; rintro e w1 ⟨rfl, hb1⟩; obtain ⟨hc1, hf1⟩ := bcell hb1; have hz1 := hb1.size; (try simp at hz1); have hs1_0 : w.heap.size < w1.heap.size := (by omega))
    go_ret2
    exact ⟨by simp [hA], (by repeat (first | exact Below.refl _ _ | assumption | refine Below.alloc ?_ (by first | omega | (simp; omega) | simp) _ | refine Below.setCell ?_ (by first | omega | (simp; omega) | simp) _ | refine below_drewN ?_ _ | refine Below.drew ?_ | refine back ?_ (by assumption)))⟩

set_option maxHeartbeats 400000 in
theorem rfloor_w (n d : Int) (w : World) (h1 : FB n) (h2 : FB d) :
    Calls Try.prog 23 #[.agg #[.int .i64 n, .int .i64 d]] w fun e w' => e = .returned (.tuple #[.int .i64 (if chk n d = 0 then flo n d else 0), .int .i64 (chk n d)]) ∧ Below w.heap.size w w' := by
  rcases chk_or n d with hA | hA
  · have b1 := chk_bd hA
    obtain ⟨b1a, b1b, b1c, b1d⟩ := b1
    have fb := flo_bd (n := n) (d := d) (by omega) (by omega) (by omega)
    have fc := flo_bd (n := -n) (d := d) (by omega) (by omega) (by omega)
    have fd := flo_bd (n := 2 * n + d) (d := 2 * d) (by omega) (by omega) (by omega)
    obtain ⟨fb1, fb2⟩ := fb
    obtain ⟨fc1, fc2⟩ := fc
    obtain ⟨fd1, fd2⟩ := fd
    go_enter Try.func23, Try.ntmps23
    go_wp2_with (first | (go_at_call 29; refine (rcheck_w _ _ _ (by assumption) (by assumption)).mono ?_; rintro e w1 ⟨rfl, hb1⟩; obtain ⟨hc1, hf1⟩ := bcell hb1; have hz1 := hb1.size; (try simp at hz1); have hs1_0 : w.heap.size < w1.heap.size := (by omega)) | (go_at_call 66; refine (down_w _ _ _ (by omega) (by omega) (by omega) (by omega)).mono ?_; rintro e w' ⟨rfl, rfl⟩))
    go_ret2
    exact ⟨by simp [hA], (by repeat (first | exact Below.refl _ _ | assumption | refine Below.alloc ?_ (by first | omega | (simp; omega) | simp) _ | refine Below.setCell ?_ (by first | omega | (simp; omega) | simp) _ | refine below_drewN ?_ _ | refine Below.drew ?_ | refine back ?_ (by assumption)))⟩
  · go_enter Try.func23, Try.ntmps23
    go_wp2_with (go_at_call 29; refine (rcheck_w _ _ _ (by assumption) (by assumption)).mono ?_; rintro e w1 ⟨rfl, hb1⟩; obtain ⟨hc1, hf1⟩ := bcell hb1; have hz1 := hb1.size; (try simp at hz1); have hs1_0 : w.heap.size < w1.heap.size := (by omega))
    go_ret2
    exact ⟨by simp [hA], (by repeat (first | exact Below.refl _ _ | assumption | refine Below.alloc ?_ (by first | omega | (simp; omega) | simp) _ | refine Below.setCell ?_ (by first | omega | (simp; omega) | simp) _ | refine below_drewN ?_ _ | refine Below.drew ?_ | refine back ?_ (by assumption)))⟩

set_option maxHeartbeats 400000 in
theorem ceil_w (n d : Int) (w : World) (h1 : FB n) (h2 : FB d) :
    Calls Try.prog 24 #[.agg #[.int .i64 n, .int .i64 d]] w fun e w' => e = .returned (.tuple #[.int .i64 (if chk n d = 0 then -flo (-n) d else 0), .int .i64 (chk n d)]) ∧ Below w.heap.size w w' := by
  rcases chk_or n d with hA | hA
  · have b1 := chk_bd hA
    obtain ⟨b1a, b1b, b1c, b1d⟩ := b1
    have fb := flo_bd (n := n) (d := d) (by omega) (by omega) (by omega)
    have fc := flo_bd (n := -n) (d := d) (by omega) (by omega) (by omega)
    have fd := flo_bd (n := 2 * n + d) (d := 2 * d) (by omega) (by omega) (by omega)
    obtain ⟨fb1, fb2⟩ := fb
    obtain ⟨fc1, fc2⟩ := fc
    obtain ⟨fd1, fd2⟩ := fd
    go_enter Try.func24, Try.ntmps24
    go_wp2_with (first | (go_at_call 28; refine (check_w _ _ _ (by assumption) (by assumption)).mono ?_; rintro e w1 ⟨rfl, hb1⟩; obtain ⟨hc1, hf1⟩ := bcell hb1; have hz1 := hb1.size; (try simp at hz1); have hs1_0 : w.heap.size < w1.heap.size := (by omega)) | (go_at_call 65; refine (floorDiv_w _ _ _ (by omega) (by omega) (by omega) (by omega)).mono ?_; rintro e w' ⟨rfl, rfl⟩))
    go_ret2
    exact ⟨by simp [hA], (by repeat (first | exact Below.refl _ _ | assumption | refine Below.alloc ?_ (by first | omega | (simp; omega) | simp) _ | refine Below.setCell ?_ (by first | omega | (simp; omega) | simp) _ | refine below_drewN ?_ _ | refine Below.drew ?_ | refine back ?_ (by assumption)))⟩
  · go_enter Try.func24, Try.ntmps24
    go_wp2_with (go_at_call 28; refine (check_w _ _ _ (by assumption) (by assumption)).mono ?_; rintro e w1 ⟨rfl, hb1⟩; obtain ⟨hc1, hf1⟩ := bcell hb1; have hz1 := hb1.size; (try simp at hz1); have hs1_0 : w.heap.size < w1.heap.size := (by omega))
    go_ret2
    exact ⟨by simp [hA], (by repeat (first | exact Below.refl _ _ | assumption | refine Below.alloc ?_ (by first | omega | (simp; omega) | simp) _ | refine Below.setCell ?_ (by first | omega | (simp; omega) | simp) _ | refine below_drewN ?_ _ | refine Below.drew ?_ | refine back ?_ (by assumption)))⟩

set_option maxHeartbeats 400000 in
theorem rceil_w (n d : Int) (w : World) (h1 : FB n) (h2 : FB d) :
    Calls Try.prog 25 #[.agg #[.int .i64 n, .int .i64 d]] w fun e w' => e = .returned (.tuple #[.int .i64 (if chk n d = 0 then -flo (-n) d else 0), .int .i64 (chk n d)]) ∧ Below w.heap.size w w' := by
  rcases chk_or n d with hA | hA
  · have b1 := chk_bd hA
    obtain ⟨b1a, b1b, b1c, b1d⟩ := b1
    have fb := flo_bd (n := n) (d := d) (by omega) (by omega) (by omega)
    have fc := flo_bd (n := -n) (d := d) (by omega) (by omega) (by omega)
    have fd := flo_bd (n := 2 * n + d) (d := 2 * d) (by omega) (by omega) (by omega)
    obtain ⟨fb1, fb2⟩ := fb
    obtain ⟨fc1, fc2⟩ := fc
    obtain ⟨fd1, fd2⟩ := fd
    go_enter Try.func25, Try.ntmps25
    go_wp2_with (first | (go_at_call 29; refine (rcheck_w _ _ _ (by assumption) (by assumption)).mono ?_; rintro e w1 ⟨rfl, hb1⟩; obtain ⟨hc1, hf1⟩ := bcell hb1; have hz1 := hb1.size; (try simp at hz1); have hs1_0 : w.heap.size < w1.heap.size := (by omega)) | (go_at_call 66; refine (down_w _ _ _ (by omega) (by omega) (by omega) (by omega)).mono ?_; rintro e w' ⟨rfl, rfl⟩))
    go_ret2
    exact ⟨by simp [hA], (by repeat (first | exact Below.refl _ _ | assumption | refine Below.alloc ?_ (by first | omega | (simp; omega) | simp) _ | refine Below.setCell ?_ (by first | omega | (simp; omega) | simp) _ | refine below_drewN ?_ _ | refine Below.drew ?_ | refine back ?_ (by assumption)))⟩
  · go_enter Try.func25, Try.ntmps25
    go_wp2_with (go_at_call 29; refine (rcheck_w _ _ _ (by assumption) (by assumption)).mono ?_; rintro e w1 ⟨rfl, hb1⟩; obtain ⟨hc1, hf1⟩ := bcell hb1; have hz1 := hb1.size; (try simp at hz1); have hs1_0 : w.heap.size < w1.heap.size := (by omega))
    go_ret2
    exact ⟨by simp [hA], (by repeat (first | exact Below.refl _ _ | assumption | refine Below.alloc ?_ (by first | omega | (simp; omega) | simp) _ | refine Below.setCell ?_ (by first | omega | (simp; omega) | simp) _ | refine below_drewN ?_ _ | refine Below.drew ?_ | refine back ?_ (by assumption)))⟩

set_option maxHeartbeats 400000 in
theorem round_w (n d : Int) (w : World) (h1 : FB n) (h2 : FB d) :
    Calls Try.prog 26 #[.agg #[.int .i64 n, .int .i64 d]] w fun e w' => e = .returned (.tuple #[.int .i64 (if chk n d = 0 then flo (2 * n + d) (2 * d) else 0), .int .i64 (chk n d)]) ∧ Below w.heap.size w w' := by
  rcases chk_or n d with hA | hA
  · have b1 := chk_bd hA
    obtain ⟨b1a, b1b, b1c, b1d⟩ := b1
    have fb := flo_bd (n := n) (d := d) (by omega) (by omega) (by omega)
    have fc := flo_bd (n := -n) (d := d) (by omega) (by omega) (by omega)
    have fd := flo_bd (n := 2 * n + d) (d := 2 * d) (by omega) (by omega) (by omega)
    obtain ⟨fb1, fb2⟩ := fb
    obtain ⟨fc1, fc2⟩ := fc
    obtain ⟨fd1, fd2⟩ := fd
    go_enter Try.func26, Try.ntmps26
    go_wp2_with (first | (go_at_call 28; refine (check_w _ _ _ (by assumption) (by assumption)).mono ?_; rintro e w1 ⟨rfl, hb1⟩; obtain ⟨hc1, hf1⟩ := bcell hb1; have hz1 := hb1.size; (try simp at hz1); have hs1_0 : w.heap.size < w1.heap.size := (by omega)) | (go_at_call 65; refine (floorDiv_w _ _ _ (by omega) (by omega) (by omega) (by omega)).mono ?_; rintro e w' ⟨rfl, rfl⟩))
    go_ret2
    exact ⟨by simp [hA], (by repeat (first | exact Below.refl _ _ | assumption | refine Below.alloc ?_ (by first | omega | (simp; omega) | simp) _ | refine Below.setCell ?_ (by first | omega | (simp; omega) | simp) _ | refine below_drewN ?_ _ | refine Below.drew ?_ | refine back ?_ (by assumption)))⟩
  · go_enter Try.func26, Try.ntmps26
    go_wp2_with (go_at_call 28; refine (check_w _ _ _ (by assumption) (by assumption)).mono ?_; rintro e w1 ⟨rfl, hb1⟩; obtain ⟨hc1, hf1⟩ := bcell hb1; have hz1 := hb1.size; (try simp at hz1); have hs1_0 : w.heap.size < w1.heap.size := (by omega))
    go_ret2
    exact ⟨by simp [hA], (by repeat (first | exact Below.refl _ _ | assumption | refine Below.alloc ?_ (by first | omega | (simp; omega) | simp) _ | refine Below.setCell ?_ (by first | omega | (simp; omega) | simp) _ | refine below_drewN ?_ _ | refine Below.drew ?_ | refine back ?_ (by assumption)))⟩

set_option maxHeartbeats 400000 in
theorem rround_w (n d : Int) (w : World) (h1 : FB n) (h2 : FB d) :
    Calls Try.prog 27 #[.agg #[.int .i64 n, .int .i64 d]] w fun e w' => e = .returned (.tuple #[.int .i64 (if chk n d = 0 then flo (2 * n + d) (2 * d) else 0), .int .i64 (chk n d)]) ∧ Below w.heap.size w w' := by
  rcases chk_or n d with hA | hA
  · have b1 := chk_bd hA
    obtain ⟨b1a, b1b, b1c, b1d⟩ := b1
    have fb := flo_bd (n := n) (d := d) (by omega) (by omega) (by omega)
    have fc := flo_bd (n := -n) (d := d) (by omega) (by omega) (by omega)
    have fd := flo_bd (n := 2 * n + d) (d := 2 * d) (by omega) (by omega) (by omega)
    obtain ⟨fb1, fb2⟩ := fb
    obtain ⟨fc1, fc2⟩ := fc
    obtain ⟨fd1, fd2⟩ := fd
    go_enter Try.func27, Try.ntmps27
    go_wp2_with (first | (go_at_call 29; refine (rcheck_w _ _ _ (by assumption) (by assumption)).mono ?_; rintro e w1 ⟨rfl, hb1⟩; obtain ⟨hc1, hf1⟩ := bcell hb1; have hz1 := hb1.size; (try simp at hz1); have hs1_0 : w.heap.size < w1.heap.size := (by omega)) | (go_at_call 66; refine (down_w _ _ _ (by omega) (by omega) (by omega) (by omega)).mono ?_; rintro e w' ⟨rfl, rfl⟩))
    go_ret2
    exact ⟨by simp [hA], (by repeat (first | exact Below.refl _ _ | assumption | refine Below.alloc ?_ (by first | omega | (simp; omega) | simp) _ | refine Below.setCell ?_ (by first | omega | (simp; omega) | simp) _ | refine below_drewN ?_ _ | refine Below.drew ?_ | refine back ?_ (by assumption)))⟩
  · go_enter Try.func27, Try.ntmps27
    go_wp2_with (go_at_call 29; refine (rcheck_w _ _ _ (by assumption) (by assumption)).mono ?_; rintro e w1 ⟨rfl, hb1⟩; obtain ⟨hc1, hf1⟩ := bcell hb1; have hz1 := hb1.size; (try simp at hz1); have hs1_0 : w.heap.size < w1.heap.size := (by omega))
    go_ret2
    exact ⟨by simp [hA], (by repeat (first | exact Below.refl _ _ | assumption | refine Below.alloc ?_ (by first | omega | (simp; omega) | simp) _ | refine Below.setCell ?_ (by first | omega | (simp; omega) | simp) _ | refine below_drewN ?_ _ | refine Below.drew ?_ | refine back ?_ (by assumption)))⟩
end Go.Proofs.Ytlpoenoijmifdaa
