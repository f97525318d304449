import Derived.Test.YtlpoenoijmifdaaItw
set_option linter.unusedVariables false
set_option linter.unusedSimpArgs false
namespace Go.Proofs.Ytlpoenoijmifdaa
open Go.RowKit Go.Shelf

def absS (L : List (Nat × Int)) : Int := L.foldr (fun p s => (p.2.natAbs : Int) + s) 0
theorem absS_nil : absS [] = 0 := rfl
theorem absS_cons (p : Nat × Int) (L : List (Nat × Int)) : absS (p :: L) = (p.2.natAbs : Int) + absS L := rfl
theorem absS_app (L M : List (Nat × Int)) : absS (L ++ M) = absS L + absS M := by
  induction L with
  | nil => simp [absS_nil]
  | cons p L ih => rw [List.cons_append, absS_cons, absS_cons, ih]; omega

theorem foldW_abs (L : List (Nat × Int)) : ∀ (M : Int) (l : List Int), Lim M l → Lim (M + absS L) (L.foldl addW l) := by
  induction L with
  | nil => intro M l h; simpa [absS_nil] using h
  | cons p L ih =>
    intro M l h
    have := ih (M + (p.2.natAbs : Int)) (addW l p) (addW_lim h (by omega) (by omega))
    rw [List.foldl_cons, absS_cons, ← Int.add_assoc]; exact this

theorem con_abs {xs : List Int} (hp : Pos xs) (i : Nat) (hi : i + many xs i < xs.length) : absS (con xs (i, many xs i)) ≤ 48 * (at_ xs (i + many xs i) - at_ xs i) := by
  rcases many_or xs i with h | h
  · rw [h] at hi ⊢
    have u := hp.up i hi
    have e : con xs (i, 1) = [(i, 18 * (at_ xs (i + 1) - at_ xs i)), (i + 1, 18 * (at_ xs (i + 1) - at_ xs i))] := by unfold con; simp
    rw [e]
    simp only [absS_cons, absS_nil]
    omega
  · rw [h] at hi ⊢
    have hr := (many_two h).2
    have u := hp.up i (by omega)
    have v : at_ xs (i + 1) < at_ xs (i + 2) := hp.up (i + 1) hi
    obtain ⟨a, ha⟩ : ∃ a, at_ xs (i + 1) - at_ xs i = a := ⟨_, rfl⟩
    obtain ⟨b, hb⟩ : ∃ b, at_ xs (i + 2) - at_ xs (i + 1) = b := ⟨_, rfl⟩
    rw [ha, hb] at hr
    have hs : at_ xs (i + 2) - at_ xs i = a + b := by omega
    rw [hs]
    by_cases hord : a ≤ b
    · obtain ⟨hk, h1 | h2 | h3⟩ := rat_lt rfl hr hord (by omega)
      · rw [con_two ha hb h1, Int.min_eq_left hord, if_neg (by omega), if_neg (by omega)]; simp only [absS_cons, absS_nil]; omega
      · rw [con_two ha hb h2, Int.min_eq_left hord, if_neg (by omega), if_neg (by omega)]; rw [h2] at hk; simp only [absS_cons, absS_nil]; omega
      · rw [con_two ha hb h3, Int.min_eq_left hord, if_neg (by omega), if_neg (by omega)]; rw [h3] at hk; simp only [absS_cons, absS_nil]; omega
    · obtain ⟨hk, h2 | h3⟩ := rat_gt rfl hr (by omega) (by omega)
      · rw [con_two ha hb h2, Int.min_eq_right (by omega), if_pos (by omega), if_pos (by omega)]; rw [h2] at hk; simp only [absS_cons, absS_nil]; omega
      · rw [con_two ha hb h3, Int.min_eq_right (by omega), if_pos (by omega), if_pos (by omega)]; rw [h3] at hk; simp only [absS_cons, absS_nil]; omega

theorem grF_abs {xs : List Int} (hp : Pos xs) (f : Nat) : ∀ i, i < xs.length → ∃ j, i ≤ j ∧ j < xs.length ∧ absS ((grF xs f i).flatMap (con xs)) ≤ 48 * (at_ xs j - at_ xs i) := by
  induction f with
  | zero => intro i hi; exact ⟨i, Nat.le_refl _, hi, by simp [grF, absS_nil]⟩
  | succ f ih =>
    intro i hi
    unfold grF
    split
    · rename_i h
      have hm : i + many xs i < xs.length := by unfold many; split <;> omega
      have hm1 := many_or xs i
      obtain ⟨j, h1, h2, h3⟩ := ih (i + many xs i) hm
      refine ⟨j, by omega, h2, ?_⟩
      rw [List.flatMap_cons, absS_app]
      have := con_abs hp i hm
      omega
    · exact ⟨i, Nat.le_refl _, hi, by simp [absS_nil]⟩

theorem wts_tight {xs : List Int} (hp : Pos xs) (D : Int) (hD : ∀ i, i < xs.length → at_ xs i ≤ D) : Lim (48 * D) (wts xs) := by
  obtain ⟨j, _, h2, h3⟩ := grF_abs hp xs.length 0 (by have := hp.lo; omega)
  have h4 := foldW_abs (cons xs) 0 (List.replicate xs.length 0) (lim_zero _)
  have h5 := hD j h2
  have h6 := hp.bd 0 (by have := hp.lo; omega)
  intro i
  have := h4 i
  unfold wts
  have h7 : absS (cons xs) ≤ 48 * (at_ xs j - at_ xs 0) := h3
  omega

def rowAt (G : List (List Int)) (i : Nat) : List Int := G[i]?.getD []
def cellP (G H : List (List Int)) (i k : Nat) : Int := at_ (rowAt G i) k * at_ (rowAt H i) k
def addF (f : Nat → Int) (s : Int) (i : Nat) : Int := s + f i
/-- What is added up of a row. -/
def rowSum (G H : List (List Int)) (i : Nat) : Int := (List.range (rowAt G i).length).foldl (addF (cellP G H i)) 0
def sideF (G H : List (List Int)) : Int := (List.range G.length).foldl (addF (rowSum G H)) 0

theorem addF_shift (f : Nat → Int) (L : List Nat) : ∀ s, L.foldl (addF f) s = s + L.foldl (addF f) 0 := by
  induction L with
  | nil => intro s; simp
  | cons a L ih => intro s; rw [List.foldl_cons, List.foldl_cons, ih (addF f s a), ih (addF f 0 a)]; unfold addF; omega

theorem addF_lim (f : Nat → Int) (M : Int) (hM : 0 ≤ M) (hf : ∀ i, -M ≤ f i ∧ f i ≤ M) (L : List Nat) : ∀ s A, -A ≤ s → s ≤ A → -(A + M * L.length) ≤ L.foldl (addF f) s ∧ L.foldl (addF f) s ≤ A + M * L.length := by
  induction L with
  | nil => intro s A h1 h2; simp; omega
  | cons a L ih =>
    intro s A h1 h2
    have := hf a
    have h3 := ih (addF f s a) (A + M) (by unfold addF; omega) (by unfold addF; omega)
    rw [List.foldl_cons, List.length_cons]
    have e : M * ((L.length + 1 : Nat) : Int) = M + M * (L.length : Int) := by rw [Int.natCast_add, Int.mul_add]; omega
    rw [e]; omega

theorem tab_ok {S W : List Int} {H : List (List Int)} (h : tabE S W H = 0) : Pos S ∧ Pos W ∧ W.length ≤ 7 ∧ (∀ i, i < W.length → at_ W i ≤ 15000) ∧ H.length = S.length ∧ (∀ i, i < H.length → (rowAt H i).length = W.length) ∧ ∀ i, Lim 20000 (rowAt H i) := by
  unfold tabE at h; split at h
  · rename_i hh
    unfold tabB planB at hh
    simp only [Bool.and_eq_true, decide_eq_true_eq] at hh
    obtain ⟨⟨⟨⟨⟨h1, h2⟩, h3⟩, h4⟩, h5⟩, h6⟩ := hh
    have hr : ∀ i (hi : i < H.length), rowB W (rowAt H i) = true := fun i hi => by
      have := (List.all_eq_true.1 h6) _ (List.getElem_mem hi)
      unfold rowAt; rw [List.getElem?_eq_getElem hi]; exact this
    refine ⟨Pos.of h1, Pos.of h2, by omega, fun i hi => ?_, h5, fun i hi => ?_, fun i k => ?_⟩
    · have := (List.all_eq_true.1 h4) _ (List.getElem_mem hi)
      rw [at_get hi]; simp [inB] at this; omega
    · have := hr i hi
      unfold rowB at this
      simp only [Bool.and_eq_true, decide_eq_true_eq] at this
      exact this.1
    · by_cases hi : i < H.length
      · have := hr i hi
        unfold rowB at this
        simp only [Bool.and_eq_true, decide_eq_true_eq] at this
        by_cases hk : k < (rowAt H i).length
        · have h7 := (List.all_eq_true.1 this.2) _ (List.getElem_mem hk)
          rw [at_get hk]; simp [inB] at h7; omega
        · unfold at_; rw [List.getElem?_eq_none (by omega)]; simp
      · have e : rowAt H i = [] := by unfold rowAt; rw [List.getElem?_eq_none (by omega)]; rfl
        rw [e]; unfold at_; simp
  · simp at h
theorem tabE_or (S W : List Int) (H : List (List Int)) : tabE S W H = 0 ∨ tabE S W H = 13 := by unfold tabE; split <;> simp

theorem grid_lim {S W : List Int} (hS : Pos S) (hW : Pos W) (hw : ∀ i, i < W.length → at_ W i ≤ 15000) (i : Nat) : Lim 3456000000000 (rowAt (gridL S W) i) := by
  have h1 := wts_tight hS 100000 (fun j hj => (hS.bd j hj).2)
  have h2 := wts_tight hW 15000 hw
  intro k
  unfold rowAt gridL
  by_cases hi : i < (wts S).length
  · rw [List.getElem?_map, List.getElem?_eq_getElem hi]
    simp only [Option.map_some, Option.getD_some]
    by_cases hk : k < (wts W).length
    · have e : at_ ((wts W).map fun b => (wts S)[i] * b) k = (wts S)[i] * at_ (wts W) k := by unfold at_; rw [List.getElem?_map, List.getElem?_eq_getElem hk]; rfl
      rw [e]
      have h3 := h1 i
      rw [at_get hi] at h3
      have := mul_lim (a := (wts S)[i]) (b := at_ (wts W) k) (K := 4800000) (V := 720000) (by omega) (by have := h2 k; omega)
      omega
    · unfold at_; rw [List.getElem?_eq_none (by rw [List.length_map]; omega)]; simp
  · rw [List.getElem?_map, List.getElem?_eq_none (by omega)]; unfold at_; simp

theorem cellP_lim {S W : List Int} {H : List (List Int)} (h : tabE S W H = 0) (i k : Nat) : -69120000000000000 ≤ cellP (gridL S W) H i k ∧ cellP (gridL S W) H i k ≤ 69120000000000000 := by
  obtain ⟨h1, h2, _, h4, _, _, h7⟩ := tab_ok h
  have := mul_lim (grid_lim h1 h2 h4 i k) (h7 i k)
  unfold cellP; omega
theorem gridL_len (S W : List Int) : (gridL S W).length = S.length := by unfold gridL; rw [List.length_map, wts_len]
theorem gridL_row {S W : List Int} (i : Nat) (hi : i < S.length) : (rowAt (gridL S W) i).length = W.length := by
  unfold rowAt gridL; rw [List.getElem?_map, List.getElem?_eq_getElem (by rw [wts_len]; exact hi)]; simp [wts_len]
theorem row_len {S W : List Int} {H : List (List Int)} (h : tabE S W H = 0) (i : Nat) : (rowAt (gridL S W) i).length = (rowAt H i).length ∧ (rowAt (gridL S W) i).length ≤ 7 := by
  obtain ⟨_, _, h3, _, h5, h6, _⟩ := tab_ok h
  by_cases hi : i < S.length
  · exact ⟨by rw [gridL_row i hi, h6 i (by omega)], by rw [gridL_row i hi]; exact h3⟩
  · have e : rowAt (gridL S W) i = [] := by unfold rowAt; rw [List.getElem?_eq_none (by rw [gridL_len]; omega)]; rfl
    refine ⟨?_, by rw [e]; simp⟩
    rw [e]; unfold rowAt
    rw [List.getElem?_eq_none (by omega)]; rfl
theorem rowSum_lim {S W : List Int} {H : List (List Int)} (h : tabE S W H = 0) (i : Nat) : -483840000000000000 ≤ rowSum (gridL S W) H i ∧ rowSum (gridL S W) H i ≤ 483840000000000000 := by
  have := addF_lim (cellP (gridL S W) H i) 69120000000000000 (by omega) (cellP_lim h i) (List.range (rowAt (gridL S W) i).length) 0 0 (by omega) (by omega)
  have h2 := (row_len h i).2
  rw [List.length_range] at this
  unfold rowSum; omega
theorem side_lim {S W : List Int} {H : List (List Int)} (h : tabE S W H = 0) (pre : List Nat) (hl : pre.length ≤ 9) : -4354560000000000000 ≤ pre.foldl (addF (rowSum (gridL S W) H)) 0 ∧ pre.foldl (addF (rowSum (gridL S W) H)) 0 ≤ 4354560000000000000 := by
  have := addF_lim (rowSum (gridL S W) H) 483840000000000000 (by omega) (rowSum_lim h) pre 0 0 (by omega) (by omega)
  omega
theorem addF_snoc (f : Nat → Int) (pre : List Nat) (x : Nat) (s : Int) : (pre ++ [x]).foldl (addF f) s = pre.foldl (addF f) s + f x := by rw [List.foldl_append]; rfl
end Go.Proofs.Ytlpoenoijmifdaa
