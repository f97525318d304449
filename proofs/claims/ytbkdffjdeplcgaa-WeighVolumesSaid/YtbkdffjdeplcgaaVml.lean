import Derived.Test.YtbkdffjdeplcgaaLit
import Derived.Test.YtbkdffjdeplcgaaDot
import Derived.Test.YtbkdffjdeplcgaaSpl
import Derived.Test.YtbkdffjdeplcgaaFld
set_option linter.unusedVariables false
set_option linter.unusedSimpArgs false
namespace Go.Proofs.Ytbkdffjdeplcgaa

def sumN (f : Nat → Int) : Nat → Int
  | 0 => 0
  | n + 1 => sumN f n + f n

theorem sumN_congr {f g : Nat → Int} (n : Nat) (h : ∀ i, i < n → f i = g i) : sumN f n = sumN g n := by
  induction n with
  | zero => rfl
  | succ n ih => simp only [sumN, h n (by omega), ih fun i hi => h i (by omega)]
theorem sumN_add (f g : Nat → Int) (n : Nat) : sumN (fun i => f i + g i) n = sumN f n + sumN g n := by
  induction n with
  | zero => rfl
  | succ n ih => simp only [sumN, ih]; omega
theorem sumN_mul (c : Int) (f : Nat → Int) (n : Nat) : sumN (fun i => c * f i) n = c * sumN f n := by
  induction n with
  | zero => simp [sumN]
  | succ n ih => simp only [sumN, ih, Int.mul_add]
theorem sumN_zero (n : Nat) : sumN (fun _ => 0) n = 0 := by
  induction n with
  | zero => rfl
  | succ n ih => simp only [sumN, ih]; rfl
theorem sumN_swap (f : Nat → Nat → Int) (m : Nat) : ∀ n, sumN (fun i => sumN (f i) m) n = sumN (fun k => sumN (fun i => f i k) n) m := by
  intro n
  induction n with
  | zero => simp only [sumN]; exact (sumN_zero m).symm
  | succ n ih => simp only [sumN]; rw [ih, ← sumN_add]
theorem foldr_sumN (f : Nat → Int) (n : Nat) : (List.range n).foldl (addF f) 0 = sumN f n := by
  induction n with
  | zero => rfl
  | succ n ih => rw [List.range_succ, List.foldl_append, ih]; rfl
theorem ipN_sumN (l vs : List Int) (n : Nat) : ipN l vs n = sumN (fun i => at_ l i * at_ vs i) n := by
  induction n with
  | zero => rfl
  | succ n ih => simp only [ipN, sumN, ih]

theorem grid_at {S W : List Int} (i k : Nat) (hi : i < S.length) (hk : k < W.length) : at_ (rowAt (gridL S W) i) k = at_ (wts S) i * at_ (wts W) k := by
  unfold rowAt gridL at_
  rw [List.getElem?_map, List.getElem?_eq_getElem (show i < (wts S).length by rw [wts_len]; exact hi)]
  simp only [Option.map_some, Option.getD_some]
  rw [List.getElem?_map, List.getElem?_eq_getElem (show k < (wts W).length by rw [wts_len]; exact hk)]
  simp

theorem side_sum (S W : List Int) (H : List (List Int)) : sideF (gridL S W) H = sumN (fun i => sumN (fun k => at_ (wts S) i * at_ (wts W) k * at_ (rowAt H i) k) W.length) S.length := by
  unfold sideF
  rw [foldr_sumN, gridL_len]
  refine sumN_congr _ fun i hi => ?_
  unfold rowSum
  rw [foldr_sumN, gridL_row i hi]
  refine sumN_congr _ fun k hk => ?_
  unfold cellP
  rw [grid_at i k hi hk]

/-- A column of the half-breadths. -/
def colL (H : List (List Int)) (n k : Nat) : List Int := (List.range n).map fun i => at_ (rowAt H i) k
theorem colL_at (H : List (List Int)) (n k i : Nat) (h : i < n) : at_ (colL H n k) i = at_ (rowAt H i) k := by simp [colL, at_, h]

theorem vol_rows {S W : List Int} (hW : Pos W) (H : List (List Int)) : 2 * sideF (gridL S W) H = sumN (fun i => 2 * at_ (wts S) i * dot W (rowAt H i)) S.length := by
  rw [side_sum, ← sumN_mul]
  refine sumN_congr _ fun i hi => ?_
  rw [dot_ip _ hW, ipN_sumN, ← sumN_mul, ← sumN_mul]
  refine sumN_congr _ fun k hk => ?_
  grind

theorem vol_cols {S W : List Int} (hS : Pos S) (H : List (List Int)) : 2 * sideF (gridL S W) H = sumN (fun k => 2 * at_ (wts W) k * dot S (colL H S.length k)) W.length := by
  rw [side_sum, sumN_swap, ← sumN_mul]
  refine sumN_congr _ fun k hk => ?_
  rw [dot_ip _ hS, ipN_sumN, ← sumN_mul, ← sumN_mul]
  refine sumN_congr _ fun i hi => ?_
  rw [colL_at _ _ _ _ hi]
  grind

theorem mk_or {n d : Int} (hd : d ≠ 0) : (∃ p q, mk n d = (p, q, 0)) ∨ mk n d = (0, 0, 4) := by
  unfold mk
  rw [if_neg hd]
  split
  · exact .inr rfl
  · split
    · exact .inl ⟨_, _, rfl⟩
    · exact .inl ⟨_, _, rfl⟩

theorem mk_eq {n d n' d' : Int} (hd : d ≠ 0) (hd' : d' ≠ 0) (h : n * d' = n' * d) : mk n d = mk n' d' := by
  rcases mk_or (n := n) hd with ⟨p, q, e⟩ | e
  · obtain ⟨h1, h2, _⟩ := mk_val e
    rw [e]
    refine (mk_of hd' h1 ?_).symm
    refine Int.eq_of_mul_eq_mul_left hd ?_
    grind
  · rcases mk_or (n := n') hd' with ⟨p, q, e'⟩ | e'
    · obtain ⟨h1, h2, _⟩ := mk_val e'
      rw [e']
      refine mk_of hd h1 ?_
      refine Int.eq_of_mul_eq_mul_left hd' ?_
      grind
    · rw [e, e']

/-- The centre of equal ordinates is the middle. -/
theorem cen_mid {S same : List Int} {c : Int} (hu : Up S) (h2 : 2 ≤ S.length) (hc : c ≠ 0) (hs : ∀ i, i < S.length → at_ same i = c) (hl : at_ S 0 < at_ S (S.length - 1)) :
    dot S same ≠ 0 ∧ mk (dot S (levL S same 0)) (dot S same) = mk (at_ S 0 + at_ S (S.length - 1)) 2 := by
  have e1 : dot S same = integ c 0 0 (at_ S 0) (at_ S (S.length - 1)) := by
    unfold dot
    rw [dot_sumQ c 0 0 S same (cons S) (fun p hp => by rw [hs p.1 (cons_lt p hp)]; unfold poly; simp), cons_exact c 0 0 hu (by omega) (.inl rfl)]; omega
  have e2 : dot S (levL S same 0) = integ 0 c 0 (at_ S 0) (at_ S (S.length - 1)) := by
    unfold dot
    rw [dot_sumQ 0 c 0 S (levL S same 0) (cons S) (fun p hp => by rw [levL_at _ _ _ _ (cons_lt p hp)]; unfold lev poly; rw [hs p.1 (cons_lt p hp)]; simp), cons_exact 0 c 0 hu (by omega) (.inl rfl)]; omega
  rw [e1, e2]
  generalize at_ S 0 = a at *
  generalize at_ S (S.length - 1) = b at *
  have hd : integ c 0 0 a b ≠ 0 := by
    unfold integ
    simp only [Int.mul_zero, Int.zero_mul, Int.add_zero]
    intro h
    rcases Int.mul_eq_zero.1 h with h | h <;> omega
  refine ⟨hd, mk_eq hd (by decide) ?_⟩
  unfold integ
  grind
end Go.Proofs.Ytbkdffjdeplcgaa
