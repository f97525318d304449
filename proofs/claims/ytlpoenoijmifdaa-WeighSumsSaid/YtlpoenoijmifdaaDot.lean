import Derived.Test.YtlpoenoijmifdaaWgh
import Derived.Test.YtlpoenoijmifdaaAre
set_option linter.unusedVariables false
set_option linter.unusedSimpArgs false
namespace Go.Proofs.Ytlpoenoijmifdaa
open Go.RowKit

/-- The sum of the first k products of two lists. -/
def ipN (l vs : List Int) : Nat → Int
  | 0 => 0
  | k + 1 => ipN l vs k + at_ l k * at_ vs k

theorem ipN_add (l vs : List Int) (i : Nat) (x : Int) (hi : i < l.length) (k : Nat) : ipN (addW l (i, x)) vs k = ipN l vs k + (if i < k then x * at_ vs i else 0) := by
  induction k with
  | zero => simp [ipN]
  | succ k ih =>
    show ipN (addW l (i, x)) vs k + at_ (addW l (i, x)) k * at_ vs k = ipN l vs k + at_ l k * at_ vs k + _
    rw [ih]
    have e : at_ (addW l (i, x)) k = if k = i ∧ i < l.length then at_ l i + x else at_ l k := at_set l i k _
    rw [e]
    by_cases h : k = i
    · subst h; rw [if_neg (show ¬ k < k by omega), if_pos (show k = k ∧ k < l.length from ⟨rfl, hi⟩), if_pos (show k < k + 1 by omega), Int.add_mul]; omega
    · rw [if_neg (show ¬ (k = i ∧ i < l.length) from fun h' => h h'.1)]
      by_cases h2 : i < k
      · rw [if_pos h2, if_pos (show i < k + 1 by omega)]; omega
      · rw [if_neg h2, if_neg (show ¬ i < k + 1 by omega)]; omega

theorem ipN_fold (vs : List Int) (n : Nat) (L : List (Nat × Int)) : ∀ (l : List Int) (s : Int), l.length = n → (∀ p ∈ L, p.1 < n) → ipN (L.foldl addW l) vs n + s = ipN l vs n + L.foldl (sumP vs) s := by
  induction L with
  | nil => intro l s _ _; rfl
  | cons p L ih =>
    intro l s hl hp
    have h2 := ih (addW l p) (sumP vs s p) (by rw [addW_len]; exact hl) (fun q hq => hp q (List.mem_cons_of_mem _ hq))
    have h1 : ipN (addW l p) vs n = ipN l vs n + p.2 * at_ vs p.1 := by
      have := ipN_add l vs p.1 p.2 (by rw [hl]; exact hp p List.mem_cons_self) n
      rw [if_pos (hp p List.mem_cons_self)] at this
      exact this
    have e : sumP vs s p = s + p.2 * at_ vs p.1 := rfl
    rw [List.foldl_cons, List.foldl_cons]
    omega

theorem ipN_zero (n : Nat) (vs : List Int) (k : Nat) : ipN (List.replicate n 0) vs k = 0 := by
  induction k with
  | zero => rfl
  | succ k ih =>
    show ipN _ vs k + at_ _ k * _ = 0
    have e : at_ (List.replicate n 0) k = 0 := by have := lim_zero n k; omega
    rw [ih, e]; simp

theorem dot_ip {xs : List Int} (vs : List Int) (hp : Pos xs) : dot xs vs = ipN (wts xs) vs xs.length := by
  have h := ipN_fold vs xs.length (cons xs) (List.replicate xs.length 0) 0 (by simp) (fun p h => ((cons_bd hp).2 p h).1)
  rw [ipN_zero] at h
  unfold dot wts; omega

theorem ipN_lim {K V : Int} {l vs : List Int} (hl : Lim K l) (hv : Lim V vs) (k : Nat) : -(K * V * k) ≤ ipN l vs k ∧ ipN l vs k ≤ K * V * k := by
  induction k with
  | zero => simp [ipN]
  | succ k ih =>
    have h := mul_lim (hl k) (hv k)
    have e : K * V * ((k + 1 : Nat) : Int) = K * V * (k : Int) + K * V := by rw [Int.natCast_add, Int.mul_add]; omega
    rw [e]
    have e2 : ipN l vs (k + 1) = ipN l vs k + at_ l k * at_ vs k := rfl
    omega

/-- A step of the sum of weights times ordinates, with all that the arithmetic asks. -/
theorem ip_step {xs ys : List Int} (hp : Pos xs) (hy : Lim 20000 ys) (k : Nat) (hk : k ≤ 9) :
    ipN (wts xs) ys (k + 1) = ipN (wts xs) ys k + at_ (wts xs) k * at_ ys k ∧ (-90000000000000 ≤ ipN (wts xs) ys k ∧ ipN (wts xs) ys k ≤ 90000000000000) ∧ (-9600000000000 ≤ at_ (wts xs) k * at_ ys k ∧ at_ (wts xs) k * at_ ys k ≤ 9600000000000) := by
  have h1 := ipN_lim (wts_lim hp) hy k
  have h2 := mul_lim (wts_lim hp k) (hy k)
  refine ⟨rfl, ⟨by omega, by omega⟩, by omega, by omega⟩

theorem ipm_step {xs ys : List Int} {about : Int} (hp : Pos xs) (hy : Lim 20000 ys) (h0 : 0 ≤ about) (h1 : about ≤ 100000) (k : Nat) (hk : k < 9) (hx : k < xs.length) :
    ipN (wts xs) (levL xs ys about) (k + 1) = ipN (wts xs) (levL xs ys about) k + at_ (wts xs) k * at_ ys k * (at_ xs k - about) ∧
    (-7680000000000000000 ≤ ipN (wts xs) (levL xs ys about) k ∧ ipN (wts xs) (levL xs ys about) k ≤ 7680000000000000000) ∧
    (-9600000000000 ≤ at_ (wts xs) k * at_ ys k ∧ at_ (wts xs) k * at_ ys k ≤ 9600000000000) ∧
    (-960000000000000000 ≤ at_ (wts xs) k * at_ ys k * (at_ xs k - about) ∧ at_ (wts xs) k * at_ ys k * (at_ xs k - about) ≤ 960000000000000000) ∧
    (-100000 ≤ at_ xs k - about ∧ at_ xs k - about ≤ 100000) := by
  have h3 := ipN_lim (wts_lim hp) (levL_lim hp hy h0 h1) k
  have h4 := mul_lim (wts_lim hp k) (hy k)
  have h5 := pos_bd hp k
  have h6 := mul_lim (a := at_ (wts xs) k * at_ ys k) (b := at_ xs k - about) (K := 9600000000000) (V := 100000) (by omega) (by omega)
  refine ⟨?_, ⟨by omega, by omega⟩, ⟨by omega, by omega⟩, ⟨by omega, by omega⟩, by omega, by omega⟩
  show ipN _ _ k + at_ (wts xs) k * at_ (levL xs ys about) k = _
  rw [levL_at _ _ _ _ hx]; unfold lev; rw [Int.mul_assoc]
end Go.Proofs.Ytlpoenoijmifdaa
