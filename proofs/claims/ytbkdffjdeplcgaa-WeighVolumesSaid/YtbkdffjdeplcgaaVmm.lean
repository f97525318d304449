import Derived.Test.YtbkdffjdeplcgaaVml
import Derived.Test.YtbkdffjdeplcgaaStq
set_option linter.unusedVariables false
set_option linter.unusedSimpArgs false
namespace Go.Proofs.Ytbkdffjdeplcgaa

theorem sumN_lim (f : Nat → Int) (M : Int) (hf : ∀ i, -M ≤ f i ∧ f i ≤ M) (n : Nat) : -(M * n) ≤ sumN f n ∧ sumN f n ≤ M * n := by
  induction n with
  | zero => simp [sumN]
  | succ n ih =>
    have h := hf n
    have e : M * ((n + 1 : Nat) : Int) = M * (n : Int) + M := by rw [Int.natCast_add, Int.mul_add]; omega
    rw [e]; simp only [sumN]; omega

/-- A table with small steps. -/
structure Tb (S T : List Int) (H : List (List Int)) : Prop where
  s : Stp 9000 S
  s2 : 2 ≤ S.length
  s9 : S.length ≤ 9
  t : Stp 1800 T
  t2 : 2 ≤ T.length
  t7 : T.length ≤ 7
  hl : H.length = S.length
  hr : ∀ r ∈ H, r.length = T.length ∧ ∀ x ∈ r, 0 ≤ x ∧ x ≤ 20000

theorem Tb.pS {S T : List Int} {H : List (List Int)} (h : Tb S T H) : Pos S := h.s.pos h.s2 h.s9 (by omega) (by omega)
theorem Tb.pT {S T : List Int} {H : List (List Int)} (h : Tb S T H) : Pos T := h.t.pos h.t2 (by have := h.t7; omega) (by omega) (by omega)
theorem Tb.bS {S T : List Int} {H : List (List Int)} (h : Tb S T H) (i : Nat) (hi : i < S.length) : 0 ≤ at_ S i ∧ at_ S i ≤ 72049 := by
  have := h.s.bd i hi; have := h.s9; omega
theorem Tb.bT {S T : List Int} {H : List (List Int)} (h : Tb S T H) (i : Nat) (hi : i < T.length) : 0 ≤ at_ T i ∧ at_ T i ≤ 10849 := by
  have := h.t.bd i hi; have := h.t7; omega
theorem Tb.row {S T : List Int} {H : List (List Int)} (h : Tb S T H) (i : Nat) (hi : i < S.length) : (rowAt H i).length = T.length ∧ ∀ x ∈ rowAt H i, 0 ≤ x ∧ x ≤ 20000 := by
  have hi' : i < H.length := by rw [h.hl]; exact hi
  have : rowAt H i = H[i] := by unfold rowAt; rw [List.getElem?_eq_getElem hi']; rfl
  rw [this]; exact h.hr _ (List.getElem_mem hi')
theorem Tb.cell {S T : List Int} {H : List (List Int)} (h : Tb S T H) (i k : Nat) : 0 ≤ at_ (rowAt H i) k ∧ at_ (rowAt H i) k ≤ 20000 := by
  by_cases hi : i < S.length
  · by_cases hk : k < (rowAt H i).length
    · rw [at_get hk]; exact (h.row i hi).2 _ (List.getElem_mem hk)
    · unfold at_; rw [List.getElem?_eq_none (by omega)]; simp
  · have : rowAt H i = [] := by unfold rowAt; rw [List.getElem?_eq_none (by rw [h.hl]; omega)]; rfl
    rw [this]; simp [at_]

theorem Tb.ok {S T : List Int} {H : List (List Int)} (h : Tb S T H) : tabE S T H = 0 := by
  unfold tabE
  rw [if_pos]
  unfold tabB planB
  simp only [Bool.and_eq_true, decide_eq_true_eq]
  refine ⟨⟨⟨⟨⟨rise_pos h.pS, rise_pos h.pT⟩, by have := h.t7; omega⟩, ?_⟩, h.hl⟩, ?_⟩
  · rw [List.all_eq_true]
    intro x hx
    obtain ⟨i, hi, rfl⟩ := List.mem_iff_getElem.1 hx
    have := h.bT i hi
    rw [at_get hi] at this
    exact inB_t (by omega)
  · rw [List.all_eq_true]
    intro r hr
    have := h.hr r hr
    unfold rowB
    simp only [Bool.and_eq_true, decide_eq_true_eq]
    exact ⟨this.1, by rw [List.all_eq_true]; intro x hx; exact inB_t (this.2 x hx)⟩

theorem ordE_ok {xs ys : List Int} (hp : Pos xs) (hl : ys.length = xs.length) (hb : ∀ x ∈ ys, -20000 ≤ x ∧ x ≤ 20000) : ordE xs ys = 0 := by
  unfold ordE
  rw [if_pos (rise_pos hp), if_pos ⟨hl, by rw [List.all_eq_true]; intro x hx; exact inB_t (hb x hx)⟩]
theorem areaV_ok {xs ys : List Int} (h : ordE xs ys = 0) : areaV xs ys = dot xs ys := by unfold areaV; rw [if_pos h]

def f1 (S T : List Int) (H : List (List Int)) (i : Nat) : Int := 2 * at_ (wts S) i * dot T (rowAt H i)
def f2 (S T : List Int) (H : List (List Int)) (k : Nat) : Int := 2 * at_ (wts T) k * dot S (colL H S.length k)

theorem colL_len (H : List (List Int)) (n k : Nat) : (colL H n k).length = n := by simp [colL]
theorem colL_mem {S T : List Int} {H : List (List Int)} (h : Tb S T H) (n k : Nat) : ∀ x ∈ colL H n k, 0 ≤ x ∧ x ≤ 20000 := by
  intro x hx
  unfold colL at hx
  obtain ⟨i, _, rfl⟩ := List.mem_map.1 hx
  exact h.cell i k

theorem lim_mem {ys : List Int} {M : Int} (hM : 0 ≤ M) (h : ∀ x ∈ ys, -M ≤ x ∧ x ≤ M) : Lim M ys := by
  intro i
  by_cases hi : i < ys.length
  · rw [at_get hi]; exact h _ (List.getElem_mem hi)
  · unfold at_; rw [List.getElem?_eq_none (by omega)]; simp; omega

theorem Tb.wS {S T : List Int} {H : List (List Int)} (h : Tb S T H) : Lim 3458352 (wts S) := wts_tight h.pS 72049 fun i hi => (h.bS i hi).2
theorem Tb.wT {S T : List Int} {H : List (List Int)} (h : Tb S T H) : Lim 520752 (wts T) := wts_tight h.pT 10849 fun i hi => (h.bT i hi).2
theorem Tb.dT {S T : List Int} {H : List (List Int)} (h : Tb S T H) (i : Nat) : -72905280000 ≤ dot T (rowAt H i) ∧ dot T (rowAt H i) ≤ 72905280000 := by
  rw [dot_ip _ h.pT]
  have := ipN_lim h.wT (vs := rowAt H i) (V := 20000) (fun k => by have := h.cell i k; omega) T.length
  have := h.t7; omega
theorem Tb.dS {S T : List Int} {H : List (List Int)} (h : Tb S T H) (k : Nat) : -622503360000 ≤ dot S (colL H S.length k) ∧ dot S (colL H S.length k) ≤ 622503360000 := by
  rw [dot_ip _ h.pS]
  have := ipN_lim h.wS (vs := colL H S.length k) (V := 20000) (lim_mem (by omega) fun x hx => by have := colL_mem h _ _ x hx; omega) S.length
  have := h.s9; omega
theorem Tb.f1b {S T : List Int} {H : List (List Int)} (h : Tb S T H) (i : Nat) : -504264241889280000 ≤ f1 S T H i ∧ f1 S T H i ≤ 504264241889280000 := by
  have := mul_lim (a := 2 * at_ (wts S) i) (b := dot T (rowAt H i)) (K := 6916704) (V := 72905280000) (by have := h.wS i; omega) (h.dT i)
  unfold f1; omega
theorem Tb.f2b {S T : List Int} {H : List (List Int)} (h : Tb S T H) (k : Nat) : -648339739453440000 ≤ f2 S T H k ∧ f2 S T H k ≤ 648339739453440000 := by
  have := mul_lim (a := 2 * at_ (wts T) k) (b := dot S (colL H S.length k)) (K := 1041504) (V := 622503360000) (by have := h.wT k; omega) (h.dS k)
  unfold f2; omega
theorem Tb.s1b {S T : List Int} {H : List (List Int)} (h : Tb S T H) (k : Nat) (hk : k ≤ 9) : -4538378177003520000 ≤ sumN (f1 S T H) k ∧ sumN (f1 S T H) k ≤ 4538378177003520000 := by
  have := sumN_lim (f1 S T H) _ h.f1b k; omega
theorem Tb.s2b {S T : List Int} {H : List (List Int)} (h : Tb S T H) (k : Nat) (hk : k ≤ 7) : -4538378176174080000 ≤ sumN (f2 S T H) k ∧ sumN (f2 S T H) k ≤ 4538378176174080000 := by
  have := sumN_lim (f2 S T H) _ h.f2b k; omega
theorem Tb.v1 {S T : List Int} {H : List (List Int)} (h : Tb S T H) : volE S T H = sumN (f1 S T H) S.length := by
  unfold volE; rw [if_pos h.ok, vol_rows h.pT]; rfl
theorem Tb.v2 {S T : List Int} {H : List (List Int)} (h : Tb S T H) : volE S T H = sumN (f2 S T H) T.length := by
  unfold volE; rw [if_pos h.ok, vol_cols h.pS]; rfl

/-- A half of a small number is a fraction. -/
theorem mk_half {n : Int} (h1 : -1000000000 ≤ n) (h2 : n ≤ 1000000000) : ∃ p q, mk n 2 = (p, q, 0) := by
  unfold mk
  rw [if_neg (by decide)]
  have a1 : n.natAbs / Nat.gcd n.natAbs (2 : Int).natAbs ≤ n.natAbs := Nat.div_le_self _ _
  have a2 : (2 : Int).natAbs / Nat.gcd n.natAbs (2 : Int).natAbs ≤ 2 := Nat.div_le_self _ _
  rw [if_neg (by omega)]
  split
  · exact ⟨_, _, rfl⟩
  · exact ⟨_, _, rfl⟩

theorem near_litre (v : Int) : flo v 1296000000 * 1296000000 ≤ v ∧ v < (flo v 1296000000 + 1) * 1296000000 := (near v 1296000000 (by decide)).1
end Go.Proofs.Ytbkdffjdeplcgaa
