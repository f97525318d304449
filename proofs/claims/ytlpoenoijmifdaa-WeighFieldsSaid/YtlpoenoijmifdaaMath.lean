set_option linter.unusedVariables false
set_option linter.unusedSimpArgs false
/- Plain words for chapter 1: how intervals are taken together, and the weights. No program here. -/
namespace Go.Proofs.Ytlpoenoijmifdaa

/-- One interval is k times the other one, for k = 1, 2 or 3; otherwise 0. -/
def rat (a b : Int) : Int := if a = b then 1 else if b = 2 * a ∨ a = 2 * b then 2 else if b = 3 * a ∨ a = 3 * b then 3 else 0

/-- The position with an index. -/
def at_ (xs : List Int) (i : Nat) : Int := xs[i]?.getD 0

/-- How many intervals are taken together from the index i on. -/
def many (xs : List Int) (i : Nat) : Nat := if i + 2 < xs.length ∧ rat (at_ xs (i + 1) - at_ xs i) (at_ xs (i + 2) - at_ xs (i + 1)) ≠ 0 then 2 else 1

theorem many_or (xs : List Int) (i : Nat) : many xs i = 1 ∨ many xs i = 2 := by unfold many; split <;> simp

/-- The groups from the index i on. -/
def grF (xs : List Int) : Nat → Nat → List (Nat × Nat)
  | 0, _ => []
  | f + 1, i => if i + 1 < xs.length then (i, many xs i) :: grF xs f (i + many xs i) else []

theorem grF_end (xs : List Int) (f i : Nat) (h : ¬ i + 1 < xs.length) : grF xs f i = [] := by
  cases f with
  | zero => rfl
  | succ f => unfold grF; rw [if_neg h]

theorem grF_fuel (xs : List Int) (f : Nat) : ∀ g i, xs.length ≤ i + f → xs.length ≤ i + g → grF xs f i = grF xs g i := by
  induction f with
  | zero => intro g i hf _; rw [grF_end xs g i (by omega)]; rfl
  | succ f ih =>
    intro g i hf hg
    by_cases h : i + 1 < xs.length
    · obtain ⟨g, rfl⟩ : ∃ k, g = k + 1 := ⟨g - 1, by omega⟩
      have := many_or xs i
      unfold grF
      rw [if_pos h, if_pos h, ih g (i + many xs i) (by omega) (by omega)]
    · rw [grF_end _ _ _ h, grF_end _ _ _ h]

/-- The groups from the index i on, with fuel enough. -/
def grsFrom (xs : List Int) (i : Nat) : List (Nat × Nat) := grF xs xs.length i
def grs (xs : List Int) : List (Nat × Nat) := grsFrom xs 0

theorem grsFrom_step (xs : List Int) (i : Nat) (h : i + 1 < xs.length) : grsFrom xs i = (i, many xs i) :: grsFrom xs (i + many xs i) := by
  unfold grsFrom
  obtain ⟨n, hn⟩ : ∃ n, xs.length = n + 1 := ⟨xs.length - 1, by omega⟩
  have := many_or xs i
  rw [hn]
  rw [grF, if_pos (by omega), grF_fuel xs n (n + 1) (i + many xs i) (by omega) (by omega)]

theorem grsFrom_end (xs : List Int) (i : Nat) (h : ¬ i + 1 < xs.length) : grsFrom xs i = [] := grF_end _ _ _ h

theorem grF_bd (xs : List Int) (f : Nat) : ∀ i, ∀ g ∈ grF xs f i, i ≤ g.1 ∧ g.1 + g.2 < xs.length ∧ (g.2 = 1 ∨ g.2 = 2) ∧ g.2 = many xs g.1 := by
  induction f with
  | zero => intro i g hg; simp [grF] at hg
  | succ f ih =>
    intro i g hg
    unfold grF at hg
    split at hg
    · rename_i h
      rcases List.mem_cons.1 hg with rfl | hg
      · refine ⟨Nat.le_refl _, ?_, many_or xs i, rfl⟩
        show i + many xs i < xs.length
        unfold many; split <;> omega
      · have := ih _ g hg
        exact ⟨by have := many_or xs i; omega, this.2⟩
    · simp at hg

theorem grF_len (xs : List Int) (f : Nat) : ∀ i, (grF xs f i).length ≤ xs.length - 1 - i := by
  induction f with
  | zero => intro i; simp [grF]
  | succ f ih =>
    intro i
    unfold grF
    split
    · rename_i h
      have := ih (i + many xs i)
      have := many_or xs i
      simp only [List.length_cons]; omega
    · simp

/-- What a group adds to the weights: at which index, how much. -/
def con (xs : List Int) (g : Nat × Nat) : List (Nat × Int) :=
  let a := at_ xs (g.1 + 1) - at_ xs g.1
  if g.2 = 1 then [(g.1, 18 * a), (g.1 + 1, 18 * a)]
  else
    let b := at_ xs (g.1 + 2) - at_ xs (g.1 + 1)
    let k := rat a b
    let c := 6 / k * (1 + k) * min a b
    let one := if b < a then c * (2 * k - 1) else c * k * (2 - k)
    let two := if b < a then c * k * (2 - k) else c * (2 * k - 1)
    [(g.1, one), (g.1 + 1, c * (1 + k) * (1 + k)), (g.1 + 2, two)]

def cons (xs : List Int) : List (Nat × Int) := (grs xs).flatMap (con xs)

/-- A weight is added at an index. -/
def addW (l : List Int) (p : Nat × Int) : List Int := l.set p.1 (at_ l p.1 + p.2)
def wts (xs : List Int) : List Int := (cons xs).foldl addW (List.replicate xs.length 0)
/-- The sum of all weights times values. -/
def sumP (vs : List Int) (s : Int) (p : Nat × Int) : Int := s + p.2 * at_ vs p.1
def dot (xs vs : List Int) : Int := (cons xs).foldl (sumP vs) 0
end Go.Proofs.Ytlpoenoijmifdaa
