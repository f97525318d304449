import Derived.Test.YtlpoenoijmifdaaScl
set_option linter.unusedVariables false
set_option linter.unusedSimpArgs false
/- Plain words: what the weights make of a polynomial is 36 times its integral. No program here. -/
namespace Go.Proofs.Ytlpoenoijmifdaa

def poly (c0 c1 c2 x : Int) : Int := c0 + c1 * x + c2 * x * x
def integ (c0 c1 c2 a b : Int) : Int := 36 * c0 * (b - a) + 18 * c1 * (b * b - a * a) + 12 * c2 * (b * b * b - a * a * a)

theorem integ_add (c0 c1 c2 a b d : Int) : integ c0 c1 c2 a b + integ c0 c1 c2 b d = integ c0 c1 c2 a d := by
  unfold integ; grind
theorem integ_self (c0 c1 c2 a : Int) : integ c0 c1 c2 a a = 0 := by
  unfold integ; simp

/-- Rising, said of each index. -/
def Up (xs : List Int) : Prop := ∀ i, i + 1 < xs.length → at_ xs i < at_ xs (i + 1)

/-- The sum of weights times the values of a polynomial. -/
def sumQ (c0 c1 c2 : Int) (xs : List Int) : List (Nat × Int) → Int
  | [] => 0
  | p :: L => p.2 * poly c0 c1 c2 (at_ xs p.1) + sumQ c0 c1 c2 xs L

theorem sumQ_app (c0 c1 c2 : Int) (xs : List Int) (L M : List (Nat × Int)) : sumQ c0 c1 c2 xs (L ++ M) = sumQ c0 c1 c2 xs L + sumQ c0 c1 c2 xs M := by
  induction L with
  | nil => simp [sumQ]
  | cons p L ih => simp only [List.cons_append, sumQ, ih]; omega

theorem many_two' {xs : List Int} {i : Nat} (h : many xs i = 2) : i + 2 < xs.length ∧ rat (at_ xs (i + 1) - at_ xs i) (at_ xs (i + 2) - at_ xs (i + 1)) ≠ 0 := by
  unfold many at h
  split at h
  · assumption
  · simp at h

theorem rat_vals {a b : Int} (ha : 0 < a) (hb : 0 < b) (h : rat a b ≠ 0) : (rat a b = 1 ∧ a = b) ∨ (rat a b = 2 ∧ a < b ∧ b = 2 * a) ∨ (rat a b = 2 ∧ b < a ∧ a = 2 * b) ∨ (rat a b = 3 ∧ a < b ∧ b = 3 * a) ∨ (rat a b = 3 ∧ b < a ∧ a = 3 * b) := by
  unfold rat at *
  split
  · exact .inl ⟨rfl, by assumption⟩
  · split
    · rename_i h1 h2; rcases h2 with h2 | h2
      · exact .inr (.inl ⟨rfl, by omega, h2⟩)
      · exact .inr (.inr (.inl ⟨rfl, by omega, h2⟩))
    · split
      · rename_i h1 h2 h3; rcases h3 with h3 | h3
        · exact .inr (.inr (.inr (.inl ⟨rfl, by omega, h3⟩)))
        · exact .inr (.inr (.inr (.inr ⟨rfl, by omega, h3⟩)))
      · rename_i h1 h2 h3; rw [if_neg h1, if_neg h2, if_neg h3] at h; exact absurd rfl h

theorem con_exact (c0 c1 c2 : Int) {xs : List Int} (hu : Up xs) {i m : Nat} (hi : i + 1 < xs.length) (hm : m = many xs i) (hc : c2 = 0 ∨ m = 2) :
    sumQ c0 c1 c2 xs (con xs (i, m)) = integ c0 c1 c2 (at_ xs i) (at_ xs (i + m)) := by
  have u0 := hu i hi
  rcases many_or xs i with h | h
  · rw [h] at hm; subst hm
    have hc : c2 = 0 := by omega
    subst hc
    unfold con
    simp only [if_true, sumQ, poly, integ]
    generalize at_ xs i = x at *
    generalize at_ xs (i + 1) = y at *
    grind
  · rw [h] at hm; subst hm
    obtain ⟨h2, hr⟩ := many_two' h
    have u1 := hu (i + 1) h2
    have e1 : at_ xs (i + 1 + 1) = at_ xs (i + 2) := rfl
    rw [e1] at u1
    unfold con
    simp only [show ¬ (2 : Nat) = 1 from by decide, if_false, sumQ, poly, integ]
    generalize at_ xs i = x at *
    generalize at_ xs (i + 1) = y at *
    generalize at_ xs (i + 2) = z at *
    rcases rat_vals (a := y - x) (b := z - y) (by omega) (by omega) hr with ⟨k, h⟩ | ⟨k, l, h⟩ | ⟨k, l, h⟩ | ⟨k, l, h⟩ | ⟨k, l, h⟩ <;> rw [k]
    · obtain rfl : z = 2 * y - x := by omega
      have e : min (y - x) (2 * y - x - y) = y - x := by rw [Int.min_def]; split <;> omega
      rw [e, if_neg (by omega), if_neg (by omega)]
      simp only [show (6 : Int) / 1 = 6 from rfl]
      grind
    · obtain rfl : z = 3 * y - 2 * x := by omega
      have e : min (y - x) (3 * y - 2 * x - y) = y - x := by rw [Int.min_def]; split <;> omega
      rw [e, if_neg (by omega), if_neg (by omega)]
      simp only [show (6 : Int) / 2 = 3 from rfl]
      grind
    · obtain rfl : x = 3 * y - 2 * z := by omega
      have e : min (y - (3 * y - 2 * z)) (z - y) = z - y := by rw [Int.min_def]; split <;> omega
      rw [e, if_pos (by omega), if_pos (by omega)]
      simp only [show (6 : Int) / 2 = 3 from rfl]
      grind
    · obtain rfl : z = 4 * y - 3 * x := by omega
      have e : min (y - x) (4 * y - 3 * x - y) = y - x := by rw [Int.min_def]; split <;> omega
      rw [e, if_neg (by omega), if_neg (by omega)]
      simp only [show (6 : Int) / 3 = 2 from rfl]
      grind
    · obtain rfl : x = 4 * y - 3 * z := by omega
      have e : min (y - (4 * y - 3 * z)) (z - y) = z - y := by rw [Int.min_def]; split <;> omega
      rw [e, if_pos (by omega), if_pos (by omega)]
      simp only [show (6 : Int) / 3 = 2 from rfl]
      grind

/-- With intervals of at most M what a group adds is at most 48 M. -/
theorem con_48 {M : Int} {xs : List Int} {i m : Nat} (hi : i + 1 < xs.length) (hm : m = many xs i) (hM : 0 ≤ M) (hg : ∀ i, i + 1 < xs.length → 1 ≤ at_ xs (i + 1) - at_ xs i ∧ at_ xs (i + 1) - at_ xs i ≤ M) :
    ∀ q ∈ con xs (i, m), -(48 * M) ≤ q.2 ∧ q.2 ≤ 48 * M := by
  have u0 := hg i hi
  rcases many_or xs i with h | h
  · rw [h] at hm; subst hm
    unfold con
    intro q hq
    simp only [if_true, List.mem_cons, List.not_mem_nil, or_false] at hq
    rcases hq with rfl | rfl <;> (simp only; omega)
  · rw [h] at hm; subst hm
    obtain ⟨h2, hr⟩ := many_two' h
    have u1 := hg (i + 1) h2
    have e1 : at_ xs (i + 1 + 1) = at_ xs (i + 2) := rfl
    rw [e1] at u1
    unfold con
    intro q hq
    simp only [show ¬ (2 : Nat) = 1 from by decide, if_false, List.mem_cons, List.not_mem_nil, or_false] at hq
    generalize at_ xs i = x at *
    generalize at_ xs (i + 1) = y at *
    generalize at_ xs (i + 2) = z at *
    rcases rat_vals (a := y - x) (b := z - y) (by omega) (by omega) hr with ⟨k, h⟩ | ⟨k, l, h⟩ | ⟨k, l, h⟩ | ⟨k, l, h⟩ | ⟨k, l, h⟩ <;> rw [k] at hq <;> rw [Int.min_def] at hq <;>
      simp only [show (6 : Int) / 1 = 6 from rfl, show (6 : Int) / 2 = 3 from rfl, show (6 : Int) / 3 = 2 from rfl] at hq <;>
      rcases hq with rfl | rfl | rfl <;> simp only <;> (repeat' split) <;> omega

theorem grF_exact (c0 c1 c2 : Int) {xs : List Int} (hu : Up xs) (f : Nat) : ∀ i, xs.length ≤ i + f → i < xs.length → (c2 = 0 ∨ ∀ g ∈ grF xs f i, g.2 = 2) →
    sumQ c0 c1 c2 xs ((grF xs f i).flatMap (con xs)) = integ c0 c1 c2 (at_ xs i) (at_ xs (xs.length - 1)) := by
  induction f with
  | zero => intro i h1 h2; omega
  | succ f ih =>
    intro i h1 h2 hc
    by_cases h : i + 1 < xs.length
    · have hb := grF_bd xs (f + 1) i
      have ho := many_or xs i
      have hlt : i + many xs i < xs.length := by unfold many; split <;> omega
      unfold grF at hc ⊢
      rw [if_pos h] at hc ⊢
      rw [List.flatMap_cons, sumQ_app, con_exact c0 c1 c2 hu h rfl, ih _ (by omega) hlt, integ_add]
      · rcases hc with hc | hc
        · exact .inl hc
        · exact .inr fun g hg => hc g (List.mem_cons_of_mem _ hg)
      · rcases hc with hc | hc
        · exact .inl hc
        · exact .inr (hc _ List.mem_cons_self)
    · rw [grF_end _ _ _ h]
      obtain rfl : i = xs.length - 1 := by omega
      rw [integ_self]; rfl

theorem cons_exact (c0 c1 c2 : Int) {xs : List Int} (hu : Up xs) (h2 : 1 ≤ xs.length) (hc : c2 = 0 ∨ ∀ g ∈ grs xs, g.2 = 2) : sumQ c0 c1 c2 xs (cons xs) = integ c0 c1 c2 (at_ xs 0) (at_ xs (xs.length - 1)) :=
  grF_exact c0 c1 c2 hu xs.length 0 (by omega) (by omega) hc

/-- The sum over the groups is the sum that a dot gives. -/
theorem dot_sumQ (c0 c1 c2 : Int) (xs vs : List Int) (L : List (Nat × Int)) (h : ∀ p ∈ L, at_ vs p.1 = poly c0 c1 c2 (at_ xs p.1)) : ∀ s, L.foldl (sumP vs) s = s + sumQ c0 c1 c2 xs L := by
  induction L with
  | nil => intro s; simp [sumQ]
  | cons p L ih =>
    intro s
    rw [List.foldl_cons, ih (fun q hq => h q (List.mem_cons_of_mem _ hq))]
    simp only [sumQ, sumP]
    rw [h p List.mem_cons_self]; omega

theorem at_part (xs : List Int) (a m i : Nat) (h : i < m) : at_ ((xs.drop a).take m) i = at_ xs (a + i) := by
  unfold at_; rw [List.getElem?_take_of_lt h, List.getElem?_drop]

theorem grs_two {xs : List Int} (hl : xs.length = 3) (hr : rat (at_ xs 1 - at_ xs 0) (at_ xs 2 - at_ xs 1) ≠ 0) : grs xs = [(0, 2)] := by
  have hm : many xs 0 = 2 := by unfold many; rw [if_pos ⟨by omega, hr⟩]
  unfold grs
  rw [grsFrom_step xs 0 (by omega), hm, grsFrom_end xs _ (by omega)]
end Go.Proofs.Ytlpoenoijmifdaa
