import Derived.Test.YtlpoenoijmifdaaSpm
set_option linter.unusedVariables false
set_option linter.unusedSimpArgs false
namespace Go.Proofs.Ytlpoenoijmifdaa
open Go.RowKit

theorem addW_len (l : List Int) (p : Nat × Int) : (addW l p).length = l.length := by simp [addW]
theorem foldW_len (L : List (Nat × Int)) : ∀ l : List Int, (L.foldl addW l).length = l.length := by
  induction L with
  | nil => intro l; rfl
  | cons p L ih => intro l; rw [List.foldl_cons, ih, addW_len]

def Lim (M : Int) (l : List Int) : Prop := ∀ i, -M ≤ at_ l i ∧ at_ l i ≤ M

theorem at_set (l : List Int) (k i : Nat) (x : Int) : at_ (l.set k x) i = if i = k ∧ k < l.length then x else at_ l i := by
  unfold at_
  rw [List.getElem?_set]
  by_cases h : k = i
  · subst h
    by_cases hl : k < l.length
    · simp [hl]
    · simp [hl]
  · rw [if_neg h, if_neg (by intro h'; exact h h'.1.symm)]

theorem addW_lim {M K : Int} {l : List Int} {p : Nat × Int} (h : Lim M l) (hM : 0 ≤ K) (hp : -K ≤ p.2 ∧ p.2 ≤ K) : Lim (M + K) (addW l p) := by
  intro i
  unfold addW
  rw [at_set]
  have h1 := h i
  have h2 := h p.1
  split <;> omega

theorem foldW_lim (K : Int) (hK : 0 ≤ K) (L : List (Nat × Int)) : ∀ (M : Int) (l : List Int), Lim M l → (∀ p ∈ L, -K ≤ p.2 ∧ p.2 ≤ K) → Lim (M + K * L.length) (L.foldl addW l) := by
  induction L with
  | nil => intro M l h _; simpa using h
  | cons p L ih =>
    intro M l h hp
    have := ih (M + K) (addW l p) (addW_lim h hK (hp p List.mem_cons_self)) (fun q hq => hp q (List.mem_cons_of_mem _ hq))
    rw [List.foldl_cons, List.length_cons]
    have e : M + K * ((L.length + 1 : Nat) : Int) = M + K + K * (L.length : Int) := by
      rw [Int.natCast_add, Int.mul_add]; omega
    rw [e]; exact this

theorem lim_zero (n : Nat) : Lim 0 (List.replicate n 0) := by
  intro i; unfold at_; rw [List.getElem?_replicate]; split <;> simp

theorem con_bd {xs : List Int} (hp : Pos xs) {g : Nat × Nat} (hg : g ∈ grs xs) : (con xs g).length ≤ 3 ∧ ∀ p ∈ con xs g, p.1 < xs.length ∧ -20000000 ≤ p.2 ∧ p.2 ≤ 20000000 := by
  obtain ⟨_, h1, h2, h3⟩ := grF_bd xs xs.length 0 g hg
  obtain ⟨i, m⟩ := g
  simp only at h1 h2 h3
  rcases h2 with rfl | rfl
  · have u := hp.up i h1
    have b0 := hp.bd i (by omega)
    have b1 := hp.bd (i + 1) h1
    have e : con xs (i, 1) = [(i, 18 * (at_ xs (i + 1) - at_ xs i)), (i + 1, 18 * (at_ xs (i + 1) - at_ xs i))] := by unfold con; simp
    rw [e]
    refine ⟨by simp, fun p hp => ?_⟩
    simp only [List.mem_cons, List.not_mem_nil, or_false] at hp
    rcases hp with rfl | rfl <;> (simp only; omega)
  · have hr := (many_two h3.symm).2
    have u := hp.up i (by omega)
    have v : at_ xs (i + 1) < at_ xs (i + 2) := hp.up (i + 1) h1
    have b0 := hp.bd i (by omega)
    have b1 := hp.bd (i + 1) (by omega)
    have b2 := hp.bd (i + 2) h1
    obtain ⟨a, ha⟩ : ∃ a, at_ xs (i + 1) - at_ xs i = a := ⟨_, rfl⟩
    obtain ⟨b, hb⟩ : ∃ b, at_ xs (i + 2) - at_ xs (i + 1) = b := ⟨_, rfl⟩
    rw [ha, hb] at hr
    have hm : 1 ≤ min a b ∧ min a b ≤ 100000 := by omega
    obtain ⟨c, hc⟩ : ∃ c, min a b = c := ⟨_, rfl⟩
    rw [hc] at hm
    rcases rat_or a b with h | h | h | h
    · exact absurd h hr
    all_goals
      rw [con_two ha hb h, hc]
      refine ⟨by simp, fun p hp => ?_⟩
      simp only [List.mem_cons, List.not_mem_nil, or_false] at hp
      rcases hp with rfl | rfl | rfl <;> (simp only; (repeat' split) <;> omega)

theorem flat_len (xs : List Int) (gs : List (Nat × Nat)) (h : ∀ g ∈ gs, (con xs g).length ≤ 3) : (gs.flatMap (con xs)).length ≤ 3 * gs.length := by
  induction gs with
  | nil => simp
  | cons g gs ih =>
    rw [List.flatMap_cons, List.length_append, List.length_cons]
    have := ih fun q hq => h q (List.mem_cons_of_mem _ hq)
    have := h g List.mem_cons_self
    omega

theorem cons_bd {xs : List Int} (hp : Pos xs) : (cons xs).length ≤ 24 ∧ ∀ p ∈ cons xs, p.1 < xs.length ∧ -20000000 ≤ p.2 ∧ p.2 ≤ 20000000 := by
  constructor
  · have h1 := flat_len xs (grs xs) fun g hg => (con_bd hp hg).1
    have h2 := grF_len xs xs.length 0
    have h3 := hp.hi
    have h4 : (grs xs).length ≤ xs.length - 1 - 0 := h2
    unfold cons; omega
  · intro p hp'
    unfold cons at hp'
    rw [List.mem_flatMap] at hp'
    obtain ⟨g, hg, hpg⟩ := hp'
    exact (con_bd hp hg).2 p hpg

theorem pre_bd {xs : List Int} (hp : Pos xs) {pre rest : List (Nat × Int)} {p : Nat × Int} (h : cons xs = pre ++ p :: rest) : p.1 < xs.length ∧ -20000000 ≤ p.2 ∧ p.2 ≤ 20000000 ∧ Lim 480000000 (pre.foldl addW (List.replicate xs.length 0)) := by
  obtain ⟨h1, h2⟩ := cons_bd hp
  rw [h] at h1 h2
  have hl : pre.length ≤ 24 := by simp at h1; omega
  obtain ⟨a, b, c⟩ := h2 p (by simp)
  refine ⟨a, b, c, ?_⟩
  have := foldW_lim 20000000 (by omega) pre 0 (List.replicate xs.length 0) (lim_zero _) fun q hq => (h2 q (by simp [hq])).2
  intro i
  have := this i
  omega

theorem wts_lim {xs : List Int} (hp : Pos xs) : Lim 480000000 (wts xs) := by
  obtain ⟨h1, h2⟩ := cons_bd hp
  have := foldW_lim 20000000 (by omega) (cons xs) 0 (List.replicate xs.length 0) (lim_zero _) fun q hq => (h2 q hq).2
  intro i
  have := this i
  unfold wts; omega
theorem wts_len (xs : List Int) : (wts xs).length = xs.length := by unfold wts; rw [foldW_len]; simp

theorem infoI : (Try.prog.info? 3).map (fun i => (i.zero, i.size, i.bytes)) = some (some (.int .i64 0), 1, 8) := by kernel_rfl
end Go.Proofs.Ytlpoenoijmifdaa
