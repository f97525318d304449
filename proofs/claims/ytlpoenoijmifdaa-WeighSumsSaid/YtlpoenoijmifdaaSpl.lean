import Derived.Test.YtlpoenoijmifdaaExa
set_option linter.unusedVariables false
set_option linter.unusedSimpArgs false
/- Plain words: sums of weights times values are linear; where the groups of positions are those of two parts, the sums add up. No program here. -/
namespace Go.Proofs.Ytlpoenoijmifdaa

def sumV (vs : List Int) : List (Nat × Int) → Int
  | [] => 0
  | p :: L => p.2 * at_ vs p.1 + sumV vs L

theorem fold_sumV (vs : List Int) (L : List (Nat × Int)) : ∀ s, L.foldl (sumP vs) s = s + sumV vs L := by
  induction L with
  | nil => intro s; simp [sumV]
  | cons p L ih => intro s; rw [List.foldl_cons, ih]; simp only [sumV, sumP]; omega
theorem dot_sumV (xs vs : List Int) : dot xs vs = sumV vs (cons xs) := by unfold dot; rw [fold_sumV]; omega

theorem sumV_app (vs : List Int) (L M : List (Nat × Int)) : sumV vs (L ++ M) = sumV vs L + sumV vs M := by
  induction L with
  | nil => simp [sumV]
  | cons p L ih => simp only [List.cons_append, sumV, ih]; omega

theorem sumV_congr {vs us : List Int} {L : List (Nat × Int)} (h : ∀ p ∈ L, at_ vs p.1 = at_ us p.1) : sumV vs L = sumV us L := by
  induction L with
  | nil => rfl
  | cons p L ih => simp only [sumV, h p List.mem_cons_self, ih fun q hq => h q (List.mem_cons_of_mem _ hq)]

theorem sumV_lin {vs as bs : List Int} {P Q : Int} {L : List (Nat × Int)} (h : ∀ p ∈ L, at_ vs p.1 = P * at_ as p.1 + Q * at_ bs p.1) : sumV vs L = P * sumV as L + Q * sumV bs L := by
  induction L with
  | nil => simp [sumV]
  | cons p L ih =>
    have := ih fun q hq => h q (List.mem_cons_of_mem _ hq)
    simp only [sumV, h p List.mem_cons_self]
    rw [this]; grind

def shP (a : Nat) (p : Nat × Int) : Nat × Int := (p.1 + a, p.2)
def shG (a : Nat) (g : Nat × Nat) : Nat × Nat := (g.1 + a, g.2)

theorem sumV_shift {vs us : List Int} {a : Nat} {L : List (Nat × Int)} (h : ∀ p ∈ L, at_ vs (p.1 + a) = at_ us p.1) : sumV vs (L.map (shP a)) = sumV us L := by
  induction L with
  | nil => rfl
  | cons p L ih => simp only [List.map_cons, sumV, shP, h p List.mem_cons_self, ih fun q hq => h q (List.mem_cons_of_mem _ hq)]

theorem con_lt {xs : List Int} {g : Nat × Nat} (hg : g ∈ grs xs) : ∀ p ∈ con xs g, p.1 < xs.length := by
  obtain ⟨_, h1, h2, _⟩ := grF_bd xs xs.length 0 g hg
  obtain ⟨i, m⟩ := g
  simp only at h1 h2
  rcases h2 with rfl | rfl
  · intro p hp; unfold con at hp; simp at hp; rcases hp with rfl | rfl <;> (simp only; omega)
  · intro p hp; unfold con at hp; simp at hp; rcases hp with rfl | rfl | rfl <;> (simp only; omega)

theorem cons_lt {xs : List Int} : ∀ p ∈ cons xs, p.1 < xs.length := by
  intro p hp
  obtain ⟨g, hg, h⟩ := List.mem_flatMap.1 hp
  exact con_lt hg p h

theorem at_take (xs : List Int) (m i : Nat) (h : i < m) : at_ (xs.take m) i = at_ xs i := by unfold at_; rw [List.getElem?_take_of_lt h]
theorem at_drop (xs : List Int) (a i : Nat) : at_ (xs.drop a) i = at_ xs (a + i) := by unfold at_; rw [List.getElem?_drop]

theorem con_take {xs : List Int} {m : Nat} {g : Nat × Nat} (hg : g ∈ grs (xs.take m)) : con (xs.take m) g = con xs g := by
  obtain ⟨_, h1, h2, _⟩ := grF_bd (xs.take m) (xs.take m).length 0 g hg
  obtain ⟨i, k⟩ := g
  simp only at h1 h2
  rw [List.length_take] at h1
  unfold con
  simp only
  rw [at_take _ _ _ (show i < m by omega), at_take _ _ _ (show i + 1 < m by omega)]
  rcases h2 with rfl | rfl
  · rfl
  · rw [at_take _ _ _ (show i + 2 < m by omega)]

theorem con_drop (xs : List Int) (a : Nat) (g : Nat × Nat) : con xs (shG a g) = (con (xs.drop a) g).map (shP a) := by
  obtain ⟨i, k⟩ := g
  unfold con shG
  simp only [at_drop, show a + i = i + a by omega, show a + (i + 1) = i + a + 1 by omega, show a + (i + 2) = i + a + 2 by omega]
  by_cases hk : k = 1
  · simp only [hk, if_true, List.map_cons, List.map_nil, shP, show i + 1 + a = i + a + 1 by omega]
  · simp only [hk, if_false, List.map_cons, List.map_nil, shP, show i + 1 + a = i + a + 1 by omega, show i + 2 + a = i + a + 2 by omega]

/-- The groups of the whole are those of both parts, which meet at an index. -/
def Agree (xs : List Int) (a : Nat) : Prop := grs xs = grs (xs.take (a + 1)) ++ (grs (xs.drop a)).map (shG a)

theorem Agree.cons {xs : List Int} {a : Nat} (h : Agree xs a) : cons xs = cons (xs.take (a + 1)) ++ (cons (xs.drop a)).map (shP a) := by
  unfold Go.Proofs.Ytlpoenoijmifdaa.cons
  rw [h, List.flatMap_append]
  congr 1
  · rw [List.flatMap, List.flatMap]; congr 1; exact List.map_congr_left fun g hg => (con_take hg).symm
  · rw [List.map_flatMap, List.flatMap, List.flatMap, List.map_map]; congr 1; exact List.map_congr_left fun g _ => con_drop xs a g

theorem Agree.dot {xs : List Int} {a : Nat} (h : Agree xs a) {vs v1 v2 : List Int} (h1 : ∀ i, i < a + 1 → i < xs.length → at_ v1 i = at_ vs i) (h2 : ∀ i, i + a < xs.length → at_ v2 i = at_ vs (i + a)) :
    dot xs vs = dot (xs.take (a + 1)) v1 + dot (xs.drop a) v2 := by
  rw [dot_sumV, dot_sumV, dot_sumV, h.cons, sumV_app]
  rw [sumV_congr (us := v1) (L := Go.Proofs.Ytlpoenoijmifdaa.cons (xs.take (a + 1))), sumV_shift (us := v2)]
  · intro p hp
    have := cons_lt p hp
    rw [List.length_drop] at this
    exact (h2 p.1 (by omega)).symm
  · intro p hp
    have := cons_lt p hp
    rw [List.length_take] at this
    exact (h1 p.1 (by omega) (by omega)).symm

theorem dot_lin {xs vs as bs : List Int} {P Q : Int} (h : ∀ i, i < xs.length → at_ vs i = P * at_ as i + Q * at_ bs i) : dot xs vs = P * dot xs as + Q * dot xs bs := by
  rw [dot_sumV, dot_sumV, dot_sumV]
  exact sumV_lin fun p hp => h p.1 (cons_lt p hp)

/-- The weights add up to 36 times the length. -/
theorem dot_ones {xs vs : List Int} (hu : Up xs) (h1 : 1 ≤ xs.length) (h : ∀ i, i < xs.length → at_ vs i = 1) : dot xs vs = 36 * (at_ xs (xs.length - 1) - at_ xs 0) := by
  unfold dot
  rw [dot_sumQ 1 0 0 xs vs (Go.Proofs.Ytlpoenoijmifdaa.cons xs) (fun p hp => by rw [h p.1 (cons_lt p hp)]; unfold poly; simp), cons_exact 1 0 0 hu h1 (.inl rfl)]
  unfold integ; simp
end Go.Proofs.Ytlpoenoijmifdaa
