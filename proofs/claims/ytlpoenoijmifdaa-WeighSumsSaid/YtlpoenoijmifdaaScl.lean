import Derived.Test.YtlpoenoijmifdaaMath
set_option linter.unusedVariables false
set_option linter.unusedSimpArgs false
/- Plain words: positions that are moved, or are c times as great: the groups are the same, the weights c times as great. No program here. -/
namespace Go.Proofs.Ytlpoenoijmifdaa

theorem mul_inj {c a b : Int} (hc : 1 ≤ c) : c * a = c * b ↔ a = b :=
  ⟨fun h => Int.eq_of_mul_eq_mul_left (by omega) h, fun h => by rw [h]⟩
theorem mul_lt {c a b : Int} (hc : 1 ≤ c) : c * a < c * b ↔ a < b :=
  ⟨fun h => Int.lt_of_mul_lt_mul_left h (by omega), fun h => Int.mul_lt_mul_of_pos_left h (by omega)⟩

theorem rat_scale {c : Int} (hc : 1 ≤ c) (a b : Int) : rat (c * a) (c * b) = rat a b := by
  have e (k x y : Int) : (c * x = k * (c * y)) = (x = k * y) := by
    rw [show k * (c * y) = c * (k * y) by rw [← Int.mul_assoc, ← Int.mul_assoc, Int.mul_comm k c]]
    exact propext (mul_inj hc)
  unfold rat
  simp only [e, mul_inj hc]

theorem min_scale {c : Int} (hc : 1 ≤ c) (a b : Int) : min (c * a) (c * b) = c * min a b := by
  by_cases h : a ≤ b
  · rw [Int.min_eq_left h, Int.min_eq_left (Int.mul_le_mul_of_nonneg_left h (by omega))]
  · have h1 : c * b ≤ c * a := Int.mul_le_mul_of_nonneg_left (by omega) (by omega)
    rw [Int.min_eq_right h1, Int.min_eq_right (show b ≤ a by omega)]

/-- ys has as many positions as xs, with intervals c times as great. -/
structure Like (c : Int) (xs ys : List Int) : Prop where
  pos : 1 ≤ c
  len : ys.length = xs.length
  gap : ∀ i, i + 1 < xs.length → at_ ys (i + 1) - at_ ys i = c * (at_ xs (i + 1) - at_ xs i)

theorem Like.many {c : Int} {xs ys : List Int} (h : Like c xs ys) (i : Nat) : many ys i = many xs i := by
  unfold Go.Proofs.Ytlpoenoijmifdaa.many
  rw [h.len]
  by_cases hi : i + 2 < xs.length
  · rw [h.gap i (by omega), show i + 2 = i + 1 + 1 from rfl, h.gap (i + 1) hi, rat_scale h.pos]
  · simp only [hi, false_and, if_false]

theorem Like.grF {c : Int} {xs ys : List Int} (h : Like c xs ys) (f : Nat) : ∀ i, grF ys f i = grF xs f i := by
  induction f with
  | zero => intro i; rfl
  | succ f ih =>
    intro i
    unfold Go.Proofs.Ytlpoenoijmifdaa.grF
    rw [h.len, h.many, ih]

theorem Like.grs {c : Int} {xs ys : List Int} (h : Like c xs ys) : grs ys = grs xs := by
  unfold Go.Proofs.Ytlpoenoijmifdaa.grs grsFrom
  rw [h.len, h.grF]

def scP (c : Int) (p : Nat × Int) : Nat × Int := (p.1, c * p.2)

theorem Like.con {c : Int} {xs ys : List Int} (h : Like c xs ys) {g : Nat × Nat} (hg : g ∈ Go.Proofs.Ytlpoenoijmifdaa.grs xs) : con ys g = (con xs g).map (scP c) := by
  obtain ⟨_, h1, h2, _⟩ := grF_bd xs xs.length 0 g hg
  obtain ⟨i, m⟩ := g
  simp only at h1 h2
  unfold Go.Proofs.Ytlpoenoijmifdaa.con
  simp only
  have g0 := h.gap i (by omega)
  rcases h2 with rfl | rfl
  · rw [g0]
    simp only [if_true, List.map_cons, List.map_nil, scP]
    congr 2
    · rw [Int.mul_left_comm]
    · rw [Int.mul_left_comm]
  · have g1 := h.gap (i + 1) h1
    rw [show i + 2 = i + 1 + 1 from rfl, g0, g1, rat_scale h.pos, min_scale h.pos]
    have hc := h.pos
    simp only [mul_lt hc, show ¬ (2 : Nat) = 1 from by decide, if_false, List.map_cons, List.map_nil, scP]
    generalize rat _ _ = k
    generalize (min _ _ : Int) = m
    generalize 6 / k = q
    split <;> simp only [List.cons.injEq, Prod.mk.injEq, true_and, and_true] <;> refine ⟨?_, ?_, ?_⟩ <;> grind

theorem Like.cons {c : Int} {xs ys : List Int} (h : Like c xs ys) : cons ys = (cons xs).map (scP c) := by
  unfold Go.Proofs.Ytlpoenoijmifdaa.cons
  rw [h.grs, List.map_flatMap, List.flatMap, List.flatMap]
  congr 1
  exact List.map_congr_left fun g hg => h.con hg

theorem addW_scale (c : Int) (l : List Int) (p : Nat × Int) : addW (l.map (c * ·)) (scP c p) = (addW l p).map (c * ·) := by
  unfold addW scP at_
  rw [List.map_set]
  congr 1
  simp only [List.getElem?_map]
  cases l[p.1]? with
  | none => simp
  | some x => simp [Int.mul_add]

theorem fold_scale (c : Int) (L : List (Nat × Int)) : ∀ l : List Int, (L.map (scP c)).foldl addW (l.map (c * ·)) = (L.foldl addW l).map (c * ·) := by
  induction L with
  | nil => intro l; rfl
  | cons p L ih => intro l; rw [List.map_cons, List.foldl_cons, List.foldl_cons, addW_scale, ih]

theorem Like.wts {c : Int} {xs ys : List Int} (h : Like c xs ys) : wts ys = (wts xs).map (c * ·) := by
  unfold Go.Proofs.Ytlpoenoijmifdaa.wts
  rw [h.cons, h.len, ← fold_scale]
  congr 1
  simp

theorem at_map (f : Int → Int) (xs : List Int) (i : Nat) (h : i < xs.length) : at_ (xs.map f) i = f (at_ xs i) := by simp [at_, h]

theorem wts_shift (xs : List Int) (by' : Int) : wts (xs.map (· + by')) = wts xs := by
  have h : Like 1 xs (xs.map (· + by')) := ⟨by omega, by simp, fun i hi => by rw [at_map _ _ _ hi, at_map _ _ _ (by omega)]; omega⟩
  rw [h.wts]; simp

theorem wts_scale (xs : List Int) (n : Int) (hn : 1 ≤ n) : wts (xs.map (· * n)) = (wts xs).map (n * ·) := by
  have h : Like n xs (xs.map (· * n)) := ⟨hn, by simp, fun i hi => by rw [at_map _ _ _ hi, at_map _ _ _ (by omega), Int.mul_sub, Int.mul_comm n, Int.mul_comm n]⟩
  exact h.wts
end Go.Proofs.Ytlpoenoijmifdaa
