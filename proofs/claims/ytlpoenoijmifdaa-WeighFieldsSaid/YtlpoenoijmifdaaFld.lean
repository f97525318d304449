import Derived.Test.YtlpoenoijmifdaaCmp
set_option linter.unusedVariables false
set_option linter.unusedSimpArgs false
namespace Go.Proofs.Ytlpoenoijmifdaa

theorem chk_of {p q : Int} (h1 : -1000000000 ≤ p) (h2 : p ≤ 1000000000) (h3 : 1 ≤ q) (h4 : q ≤ 1000000000) (h5 : Nat.gcd p.natAbs q.natAbs = 1) : chk p q = 0 := by
  unfold chk; rw [if_pos ⟨h1, h2, h3, h4, h5⟩]

/-- A fraction that was made is one, and is equal to n / d. -/
theorem mk_val {n d p q : Int} (h : mk n d = (p, q, 0)) : chk p q = 0 ∧ p * d = n * q ∧ d ≠ 0 := by
  unfold mk at h
  by_cases h0 : d = 0
  · rw [if_pos h0] at h; simp at h
  rw [if_neg h0] at h
  have hg : 0 < Nat.gcd n.natAbs d.natAbs := Nat.gcd_pos_of_pos_right _ (by omega)
  have c1 := Nat.gcd_div_gcd_div_gcd_of_pos_right (n := n.natAbs) (m := d.natAbs) (by omega)
  have m1 := Nat.div_mul_cancel (Nat.gcd_dvd_left n.natAbs d.natAbs)
  have m2 := Nat.div_mul_cancel (Nat.gcd_dvd_right n.natAbs d.natAbs)
  generalize Nat.gcd n.natAbs d.natAbs = g at *
  generalize n.natAbs / g = a at *
  generalize hb : d.natAbs / g = b at *
  have hb1 : 1 ≤ b := by
    rcases Nat.eq_zero_or_pos b with h | h
    · subst h; simp at m2; omega
    · exact h
  have e1 : (n.natAbs : Int) = a * g := by rw [← m1, Int.natCast_mul]
  have e2 : (d.natAbs : Int) = b * g := by rw [← m2, Int.natCast_mul]
  split at h
  · simp at h
  · rename_i hbig
    split at h
    · rename_i hs
      simp only [Prod.mk.injEq, and_true] at h
      obtain ⟨rfl, rfl⟩ := h
      refine ⟨chk_of (by omega) (by omega) (by omega) (by omega) (by simpa using c1), ?_, h0⟩
      rcases hs with ⟨s1, s2⟩ | ⟨s1, s2⟩
      · have en : n = -(a * g) := by omega
        have ed : d = b * g := by omega
        rw [en, ed]; grind
      · have en : n = a * g := by omega
        have ed : d = -(b * g) := by omega
        rw [en, ed]; grind
    · rename_i hs
      simp only [Prod.mk.injEq, and_true] at h
      obtain ⟨rfl, rfl⟩ := h
      refine ⟨chk_of (by omega) (by omega) (by omega) (by omega) (by simpa using c1), ?_, h0⟩
      by_cases hn : n < 0
      · have en : n = -(a * g) := by omega
        have ed : d = -(b * g) := by omega
        rw [en, ed]; grind
      · have en : n = a * g := by omega
        have ed : d = b * g := by omega
        rw [en, ed]; grind

/-- The fraction that is equal to n / d is what is made. -/
theorem mk_of {n d p q : Int} (hd : d ≠ 0) (hc : chk p q = 0) (h : p * d = n * q) : mk n d = (p, q, 0) := by
  have hbd := chk_bd hc
  have hg1 : Nat.gcd p.natAbs q.natAbs = 1 := by
    unfold chk at hc; split at hc
    · rename_i h'; exact h'.2.2.2.2
    · simp at hc
  have hg : 0 < Nat.gcd n.natAbs d.natAbs := Nat.gcd_pos_of_pos_right _ (by omega)
  have c1 := Nat.gcd_div_gcd_div_gcd_of_pos_right (n := n.natAbs) (m := d.natAbs) (by omega)
  have m1 := Nat.div_mul_cancel (Nat.gcd_dvd_left n.natAbs d.natAbs)
  have m2 := Nat.div_mul_cancel (Nat.gcd_dvd_right n.natAbs d.natAbs)
  have ha : p.natAbs * d.natAbs = n.natAbs * q.natAbs := by rw [← Int.natAbs_mul, ← Int.natAbs_mul, h]
  have hq0 : 0 < q := by omega
  unfold mk
  rw [if_neg hd]
  generalize Nat.gcd n.natAbs d.natAbs = g at *
  generalize n.natAbs / g = a at *
  generalize hb : d.natAbs / g = b at *
  have hcross : p.natAbs * b = a * q.natAbs := by
    have : p.natAbs * b * g = a * q.natAbs * g := by
      calc p.natAbs * b * g = p.natAbs * (b * g) := by rw [Nat.mul_assoc]
        _ = p.natAbs * d.natAbs := by rw [m2]
        _ = n.natAbs * q.natAbs := ha
        _ = a * g * q.natAbs := by rw [m1]
        _ = a * q.natAbs * g := by rw [Nat.mul_assoc, Nat.mul_comm g, ← Nat.mul_assoc]
    exact Nat.eq_of_mul_eq_mul_right hg this
  have d1 : q.natAbs ∣ b := (Nat.Coprime.symm hg1).dvd_of_dvd_mul_left (⟨a, by rw [hcross, Nat.mul_comm]⟩)
  have d2 : b ∣ q.natAbs := (Nat.Coprime.symm c1).dvd_of_dvd_mul_left (⟨p.natAbs, by rw [← hcross, Nat.mul_comm]⟩)
  have eb : b = q.natAbs := Nat.dvd_antisymm d2 d1
  have ea : a = p.natAbs := by
    rw [eb] at hcross
    exact (Nat.eq_of_mul_eq_mul_right (show 0 < q.natAbs by omega) hcross).symm
  rw [ea, eb, if_neg (by omega)]
  have hs : (n < 0 ∧ 0 < d ∨ 0 ≤ n ∧ d < 0) → p ≤ 0 := by
    rintro (⟨s1, s2⟩ | ⟨s1, s2⟩)
    · have : n * q < 0 := Int.mul_neg_of_neg_of_pos s1 hq0
      by_cases hp : p ≤ 0
      · exact hp
      · have : 0 < p * d := Int.mul_pos (by omega) s2
        omega
    · have : 0 ≤ n * q := Int.mul_nonneg s1 (by omega)
      by_cases hp : p ≤ 0
      · exact hp
      · have : p * d < 0 := Int.mul_neg_of_pos_of_neg (by omega) s2
        omega
  have hs' : ¬ (n < 0 ∧ 0 < d ∨ 0 ≤ n ∧ d < 0) → 0 ≤ p := by
    intro hn
    by_cases hp : 0 ≤ p
    · exact hp
    · by_cases s : n < 0
      · have : 0 < p * d := Int.mul_pos_of_neg_of_neg (by omega) (by omega)
        have : n * q < 0 := Int.mul_neg_of_neg_of_pos s hq0
        omega
      · have : p * d < 0 := Int.mul_neg_of_neg_of_pos (by omega) (by omega)
        have : 0 ≤ n * q := Int.mul_nonneg (by omega) (by omega)
        omega
  split
  · rename_i s; have := hs s; simp only [Prod.mk.injEq, and_true]; omega
  · rename_i s; have := hs' s; simp only [Prod.mk.injEq, and_true]; omega

theorem chk2_of {an ad bn bd : Int} (h1 : chk an ad = 0) (h2 : chk bn bd = 0) : chk2 an ad bn bd = 0 := by unfold chk2; rw [if_pos ⟨h1, h2⟩]
theorem opF_ok {an ad bn bd n d : Int} (h1 : chk an ad = 0) (h2 : chk bn bd = 0) : opF an ad bn bd n d = mk n d := by unfold opF; rw [if_pos (chk2_of h1 h2)]
theorem chk2_comm (an ad bn bd : Int) : chk2 an ad bn bd = chk2 bn bd an ad := by unfold chk2; by_cases h1 : chk an ad = 0 <;> by_cases h2 : chk bn bd = 0 <;> simp [h1, h2]

theorem add_comm' (an ad bn bd : Int) : opF bn bd an ad (bn * ad + an * bd) (bd * ad) = opF an ad bn bd (an * bd + bn * ad) (ad * bd) := by
  unfold opF; rw [chk2_comm, Int.add_comm, Int.mul_comm bd ad]
theorem mul_comm' (an ad bn bd : Int) : opF bn bd an ad (bn * an) (bd * ad) = opF an ad bn bd (an * bn) (ad * bd) := by
  unfold opF; rw [chk2_comm, Int.mul_comm bn an, Int.mul_comm bd ad]

theorem opF_val {an ad bn bd n d p q : Int} (h : opF an ad bn bd n d = (p, q, 0)) : chk an ad = 0 ∧ chk bn bd = 0 ∧ chk p q = 0 ∧ p * d = n * q ∧ d ≠ 0 := by
  unfold opF at h
  split at h
  · rename_i hc
    have h12 : chk an ad = 0 ∧ chk bn bd = 0 := by
      unfold chk2 at hc; split at hc
      · assumption
      · simp at hc
    have := mk_val h
    exact ⟨h12.1, h12.2, this⟩
  · simp at h

theorem sub_back {an ad bn bd x y : Int} (h : opF an ad bn bd (an * bd + bn * ad) (ad * bd) = (x, y, 0)) : opF x y bn bd (x * bd - bn * y) (y * bd) = (an, ad, 0) := by
  obtain ⟨c1, c2, c3, e, hd⟩ := opF_val h
  have b1 := chk_bd c1; have b2 := chk_bd c2; have b3 := chk_bd c3
  rw [opF_ok c3 c2]
  refine mk_of (by have := Int.mul_pos (show 0 < y by omega) (show 0 < bd by omega); omega) c1 ?_
  grind

theorem cmp_back {an ad bn bd x y : Int} (h : opF an ad bn bd (an * bd + bn * ad) (ad * bd) = (x, y, 0)) : cmpF x y an ad = cmpF bn bd 0 1 := by
  obtain ⟨c1, c2, c3, e, hd⟩ := opF_val h
  have b1 := chk_bd c1; have b2 := chk_bd c2; have b3 := chk_bd c3
  unfold cmpF
  rw [if_pos (chk2_of c3 c1), if_pos (chk2_of c2 (by decide))]
  have e2 : (x * ad - an * y) * bd = bn * y * ad := by
    have hy : ad * ((x * ad - an * y) * bd) = ad * (bn * y * ad) := by grind
    exact Int.eq_of_mul_eq_mul_left (by omega) hy
  have p1 : 0 < y * ad := Int.mul_pos (by omega) (by omega)
  rcases Int.lt_trichotomy bn 0 with hb | hb | hb
  · have l : x * ad < an * y := by
      by_cases hl : x * ad < an * y
      · exact hl
      · have h1 : 0 ≤ (x * ad - an * y) * bd := Int.mul_nonneg (by omega) (by omega)
        have h2 : bn * (y * ad) < 0 := Int.mul_neg_of_neg_of_pos hb p1
        rw [Int.mul_assoc] at e2; omega
    rw [if_pos l, if_pos (by omega)]
  · subst hb
    have l : x * ad = an * y := by
      have : (x * ad - an * y) * bd = 0 := by rw [e2]; simp
      rcases Int.mul_eq_zero.1 this with h | h <;> omega
    rw [if_neg (by omega), if_neg (by omega), if_neg (by omega), if_neg (by omega)]
  · have l : an * y < x * ad := by
      by_cases hl : an * y < x * ad
      · exact hl
      · have h1 : (an * y - x * ad) * bd ≥ 0 := Int.mul_nonneg (by omega) (by omega)
        have h2 : 0 < bn * (y * ad) := Int.mul_pos hb p1
        have h3 : (an * y - x * ad) * bd = -((x * ad - an * y) * bd) := by grind
        rw [Int.mul_assoc] at e2; omega
    rw [if_neg (by omega), if_pos l, if_neg (by omega), if_pos (by omega)]

theorem div_back {an ad bn bd x y : Int} (h : opF an ad bn bd (an * bn) (ad * bd) = (x, y, 0)) (hb : bn ≠ 0) : opF x y bn bd (x * bd) (y * bn) = (an, ad, 0) := by
  obtain ⟨c1, c2, c3, e, hd⟩ := opF_val h
  have b1 := chk_bd c1; have b2 := chk_bd c2; have b3 := chk_bd c3
  rw [opF_ok c3 c2]
  refine mk_of (by intro h0; rcases Int.mul_eq_zero.1 h0 with h | h <;> omega) c1 ?_
  grind

theorem add_assoc' {an ad bn bd cn cd x y s t u v : Int} (h1 : opF an ad bn bd (an * bd + bn * ad) (ad * bd) = (x, y, 0)) (h2 : opF x y cn cd (x * cd + cn * y) (y * cd) = (s, t, 0))
    (h3 : opF bn bd cn cd (bn * cd + cn * bd) (bd * cd) = (u, v, 0)) : opF an ad u v (an * v + u * ad) (ad * v) = (s, t, 0) := by
  obtain ⟨c1, c2, c3, e1, d1⟩ := opF_val h1
  obtain ⟨_, c5, c6, e2, d2⟩ := opF_val h2
  obtain ⟨_, _, c7, e3, d3⟩ := opF_val h3
  have b1 := chk_bd c1; have b2 := chk_bd c2; have b3 := chk_bd c3; have b5 := chk_bd c5; have b6 := chk_bd c6; have b7 := chk_bd c7
  rw [opF_ok c1 c7]
  refine mk_of (by have := Int.mul_pos (show 0 < ad by omega) (show 0 < v by omega); omega) c6 ?_
  have k : (y * bd * cd) * (s * (ad * v)) = (y * bd * cd) * ((an * v + u * ad) * t) := by grind
  refine Int.eq_of_mul_eq_mul_left ?_ k
  have := Int.mul_pos (Int.mul_pos (show 0 < y by omega) (show 0 < bd by omega)) (show 0 < cd by omega)
  omega

/-- The whole numbers next to a fraction. -/
theorem near (n d : Int) (hd : 1 ≤ d) :
    (flo n d * d ≤ n ∧ n < (flo n d + 1) * d) ∧ (n ≤ -flo (-n) d * d ∧ (-flo (-n) d - 1) * d < n) ∧
    (flo (2 * n + d) (2 * d) = flo n d ∨ flo (2 * n + d) (2 * d) = -flo (-n) d) ∧ 2 * (n - flo (2 * n + d) (2 * d) * d) < d ∧ 2 * (flo (2 * n + d) (2 * d) * d - n) ≤ d := by
  unfold flo
  have a1 := Int.emod_nonneg n (show d ≠ 0 by omega)
  have a2 := Int.emod_lt_of_pos n (show 0 < d by omega)
  have a3 := Int.mul_ediv_add_emod n d
  have b1 := Int.emod_nonneg (-n) (show d ≠ 0 by omega)
  have b2 := Int.emod_lt_of_pos (-n) (show 0 < d by omega)
  have b3 := Int.mul_ediv_add_emod (-n) d
  have c1 := Int.emod_nonneg (2 * n + d) (show 2 * d ≠ 0 by omega)
  have c2 := Int.emod_lt_of_pos (2 * n + d) (show 0 < 2 * d by omega)
  have c3 := Int.mul_ediv_add_emod (2 * n + d) (2 * d)
  generalize n / d = q at *
  generalize n % d = r at *
  generalize (-n) / d = q' at *
  generalize (-n) % d = r' at *
  generalize (2 * n + d) / (2 * d) = m at *
  generalize (2 * n + d) % (2 * d) = s at *
  have e1 : q * d = n - r := by rw [Int.mul_comm]; omega
  have e2 : q' * d = -n - r' := by rw [Int.mul_comm]; omega
  have e3 : 2 * (m * d) = 2 * n + d - s := by rw [← c3]; grind
  have f1 : (q + 1) * d = q * d + d := by grind
  have f2 : (-q' - 1) * d = -(q' * d) - d := by grind
  have f3 : -q' * d = -(q' * d) := by grind
  have k1 : 0 ≤ (m - q) * d + 0 := by
    have : (m - q) * d = m * d - q * d := by grind
    by_cases hm : q ≤ m
    · have := Int.mul_nonneg (show 0 ≤ m - q by omega) (show 0 ≤ d by omega); omega
    · exfalso
      have h : (q - m - 1) * d ≥ 0 := Int.mul_nonneg (by omega) (by omega)
      have : (q - m - 1) * d = q * d - m * d - d := by grind
      omega
  refine ⟨⟨by omega, by omega⟩, ⟨by omega, by omega⟩, ?_, by omega, by omega⟩
  by_cases hm : m = q
  · exact .inl hm
  right
  have hq : q < m := by
    by_cases h : q < m
    · exact h
    · exfalso
      have h' : (q - m - 1) * d ≥ 0 := Int.mul_nonneg (by omega) (by omega)
      have : (q - m - 1) * d = q * d - m * d - d := by grind
      omega
  by_cases h1 : m = -q'
  · exact h1
  exfalso
  rcases Int.lt_or_gt_of_ne h1 with h | h
  · have h' : (-q' - m - 1) * d ≥ 0 := Int.mul_nonneg (by omega) (by omega)
    have e : (-q' - m - 1) * d = -(q' * d) - m * d - d := by grind
    have h2 : (m - q - 1) * d ≥ 0 := Int.mul_nonneg (by omega) (by omega)
    have e4 : (m - q - 1) * d = m * d - q * d - d := by grind
    omega
  · have h' : (m + q' - 1) * d ≥ 0 := Int.mul_nonneg (by omega) (by omega)
    have e : (m + q' - 1) * d = m * d + q' * d - d := by grind
    omega
end Go.Proofs.Ytlpoenoijmifdaa
