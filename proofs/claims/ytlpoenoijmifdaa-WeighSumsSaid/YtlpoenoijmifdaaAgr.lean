import Derived.Test.YtlpoenoijmifdaaDiv
set_option linter.unusedVariables false
set_option linter.unusedSimpArgs false
namespace Go.Proofs.Ytlpoenoijmifdaa
open Go.RowKit

theorem IsGB.part {B : Nat} {w : World} {b off n cap : Nat} {gs : List (Nat × Nat)} (h : IsGB B w (.slice (some ⟨b, off, none⟩) n cap) gs) {i m c : Nat} (hi : i + m ≤ gs.length) (hm : 0 < m) (hc : m ≤ c) (hc2 : c ≤ maxLen) :
    IsGB B w (.slice (some ⟨b, off + i * 2, none⟩) m c) ((gs.drop i).take m) := by
  obtain ⟨a', cap', hv, h1, h2, h4⟩ := h
  obtain ⟨rfl, rfl, rfl⟩ := Value.slice.inj hv
  have hl : ((gs.drop i).take m).length = m := by rw [List.length_take, List.length_drop]; omega
  obtain ⟨b', off', e, hb, hcell⟩ := h4 (by intro h; rw [h] at hi; simp at hi; omega)
  cases e
  refine ⟨_, c, by rw [hl], by omega, hc2, fun _ => ⟨b, off + i * 2, rfl, hb, fun j hj => ?_⟩⟩
  rw [hl] at hj
  have e : ((gs.drop i).take m)[j]? = gs[i + j]? := by rw [List.getElem?_take_of_lt hj, List.getElem?_drop]
  rw [e, show off + i * 2 + j * 2 = off + (i + j) * 2 by omega]
  exact hcell (i + j) (by omega)

/-- Whether the groups of a list are those of two parts: as the reference asks it. -/
def agB (xs : List Int) (a : Nat) : Bool :=
  decide ((grs xs).length = (grs (xs.take (a + 1))).length + (grs (xs.drop a)).length) &&
  (sameG ((grs xs).take (grs (xs.take (a + 1))).length) (grs (xs.take (a + 1))) 0 && sameG ((grs xs).drop (grs (xs.take (a + 1))).length) (grs (xs.drop a)) a)

theorem sameG_iff (a b : List (Nat × Nat)) (m : Nat) : sameG a b m = true ↔ a = b.map (shG m) := by
  unfold sameG
  rw [Bool.and_eq_true, decide_eq_true_eq]
  constructor
  · rintro ⟨hl, h⟩
    unfold sameTo at h
    rw [List.all_eq_true] at h
    apply List.ext_getElem (by rw [List.length_map]; exact hl)
    intro i h1 h2
    have := h i (List.mem_range.2 h1)
    rw [decide_eq_true_eq] at this
    unfold gAt at this
    rw [List.getElem?_eq_getElem h1, List.getElem?_eq_getElem (by omega)] at this
    simp only [Option.getD_some] at this
    rw [List.getElem_map]
    unfold shG
    exact Prod.ext (by simp only; omega) (by simp only; exact this.2)
  · intro h
    subst h
    refine ⟨by simp, ?_⟩
    unfold sameTo
    rw [List.all_eq_true]
    intro i hi
    have hi' := List.mem_range.1 hi
    rw [List.length_map] at hi'
    rw [decide_eq_true_eq]
    unfold gAt
    rw [List.getElem?_map, List.getElem?_eq_getElem hi']
    simp [shG]

theorem agB_eq (xs : List Int) (a : Nat) (h : (xs.take (a + 1)).length = a + 1) : agB xs a = dvB (xs.take (a + 1)) (xs.drop a) xs := by
  have hm : ∀ l : List (Nat × Nat), l.map (shG 0) = l := by
    intro l; induction l with
    | nil => rfl
    | cons g l ih => rw [List.map_cons, ih]; rfl
  unfold agB dvB eqG
  rw [h, Nat.add_sub_cancel, Bool.eq_iff_iff]
  simp only [Bool.and_eq_true, decide_eq_true_eq]
  rw [show (0 : Int) = ((0 : Nat) : Int) from rfl, sameG_iff, sameG_iff, hm]
  generalize grs xs = all
  generalize grs (xs.take (a + 1)) = A
  generalize grs (xs.drop a) = B
  constructor
  · rintro ⟨_, h1, h2⟩
    rw [← h2]
    conv => lhs; lhs; rw [← h1]
    exact List.take_append_drop _ _
  · intro e
    rw [← e]
    refine ⟨by simp, by simp, by simp⟩

theorem IsLB.front {B : Nat} {w : World} {b off n cap : Nat} {xs : List Int} (h : IsLB B w (.slice (some ⟨b, off, none⟩) n cap) xs) {m : Nat} (hi : m ≤ xs.length) (hm : 0 < m) : IsLB B w (.slice (some ⟨b, off, none⟩) m cap) (xs.take m) := by
  have hc : xs.length ≤ cap ∧ cap ≤ maxLen := by
    obtain ⟨_, _, hv, h1, h2, _⟩ := h
    obtain ⟨rfl, rfl, rfl⟩ := Value.slice.inj hv
    exact ⟨h1, h2⟩
  have := h.part (i := 0) (m := m) (c := cap) (by omega) hm (by omega) hc.2
  simpa using this
theorem IsLB.back' {B : Nat} {w : World} {b off n cap : Nat} {xs : List Int} (h : IsLB B w (.slice (some ⟨b, off, none⟩) n cap) xs) {i : Nat} (hi : i < xs.length) : IsLB B w (.slice (some ⟨b, off + i, none⟩) (xs.length - i) (cap - i)) (xs.drop i) := by
  have hc : xs.length ≤ cap ∧ cap ≤ maxLen := by
    obtain ⟨_, _, hv, h1, h2, _⟩ := h
    obtain ⟨rfl, rfl, rfl⟩ := Value.slice.inj hv
    exact ⟨h1, h2⟩
  have := h.part (i := i) (m := xs.length - i) (c := cap - i) (by omega) (by omega) (by omega) (by omega)
  rwa [List.take_of_length_le (by rw [List.length_drop]; exact Nat.le_refl _)] at this

set_option maxRecDepth 100000 in
set_option maxHeartbeats 2000000 in
theorem agree_w (b off n cap : Nat) (xs : List Int) (a : Nat) (w : World) (h : IsL w (.slice (some ⟨b, off, none⟩) n cap) xs) (hp : Pos xs) (ha1 : 1 ≤ a) (ha2 : a + 2 ≤ xs.length) :
    Calls Try.prog 79 #[.slice (some ⟨b, off, none⟩) n cap, .int .i64 a] w fun e w' => e = .returned (.bool (agB xs a)) ∧ Below w.heap.size w w' := by
  have hc : n = xs.length ∧ xs.length ≤ cap ∧ cap ≤ maxLen := by
    obtain ⟨_, _, hv, h1, h2, _⟩ := h
    obtain ⟨rfl, rfl, rfl⟩ := Value.slice.inj hv
    exact ⟨rfl, h1, h2⟩
  obtain ⟨rfl, hc1, hc2⟩ := hc
  unfold maxLen at hc2
  have h9 := hp.hi
  have pf : Pos (xs.take (a + 1)) := hp.take (by omega) (by omega)
  have pb : Pos (xs.drop a) := hp.drop ha2
  have C1 := fun X (hX : Below w.heap.size w X) => rgroups_w (some ⟨b, off, none⟩) xs.length cap xs X (h.below hX) hp
  have C2 := fun X (hX : Below w.heap.size w X) => rgroups_w (some ⟨b, off, none⟩) (a + 1) cap (xs.take (a + 1)) X (IsLB.front (h.below hX) (by omega) (by omega)) pf
  have C3 := fun X (hX : Below w.heap.size w X) => rgroups_w (some ⟨b, off + a, none⟩) (xs.length - a) (cap - a) (xs.drop a) X (IsLB.back' (h.below hX) (by omega)) pb
  have gA : (grs (xs.take (a + 1))).length ≤ 9 ∧ 0 < (grs (xs.take (a + 1))).length := by
    have h1 := grF_len (xs.take (a + 1)) (xs.take (a + 1)).length 0
    have h2 := grsFrom_step (xs.take (a + 1)) 0 (by have := pf.lo; omega)
    have h3 := pf.hi
    unfold grs
    refine ⟨by unfold grsFrom; omega, by rw [h2]; simp⟩
  have gB : (grs (xs.drop a)).length ≤ 9 ∧ 0 < (grs (xs.drop a)).length := by
    have h1 := grF_len (xs.drop a) (xs.drop a).length 0
    have h2 := grsFrom_step (xs.drop a) 0 (by have := pb.lo; omega)
    have h3 := pb.hi
    unfold grs
    refine ⟨by unfold grsFrom; omega, by rw [h2]; simp⟩
  have gall : (grs xs).length ≤ 9 := by
    have h1 := grF_len xs xs.length 0
    unfold grs grsFrom; omega
  have bA : ∀ i, (gAt (grs (xs.take (a + 1))) i).1 ≤ 1000 := by
    intro i; unfold gAt
    by_cases hi : i < (grs (xs.take (a + 1))).length
    · rw [List.getElem?_eq_getElem hi]
      have := grF_bd (xs.take (a + 1)) (xs.take (a + 1)).length 0 _ (List.getElem_mem hi)
      have := pf.hi
      simp only [Option.getD_some]; omega
    · rw [List.getElem?_eq_none (by omega)]; simp
  have bB : ∀ i, (gAt (grs (xs.drop a)) i).1 ≤ 1000 := by
    intro i; unfold gAt
    by_cases hi : i < (grs (xs.drop a)).length
    · rw [List.getElem?_eq_getElem hi]
      have := grF_bd (xs.drop a) (xs.drop a).length 0 _ (List.getElem_mem hi)
      have := pb.hi
      simp only [Option.getD_some]; omega
    · rw [List.getElem?_eq_none (by omega)]; simp
  obtain ⟨all, hall⟩ : ∃ l, grs xs = l := ⟨_, rfl⟩
  obtain ⟨A, hA⟩ : ∃ l, grs (xs.take (a + 1)) = l := ⟨_, rfl⟩
  obtain ⟨D, hD⟩ : ∃ l, grs (xs.drop a) = l := ⟨_, rfl⟩
  have hag : agB xs a = (decide (all.length = A.length + D.length) && (sameG (all.take A.length) A 0 && sameG (all.drop A.length) D a)) := by unfold agB; rw [hall, hA, hD]
  rw [hall] at C1 gall
  rw [hA] at C2 gA bA
  rw [hD] at C3 gB bB
  obtain ⟨gA1, gA2⟩ := gA
  obtain ⟨gB1, gB2⟩ := gB
  have HC1 := hide C1; have HC2 := hide C2; have HC3 := hide C3; have HAG := hide hag; have HBA := hide bA; have HBB := hide bB
  clear C1 C2 C3 hag bA bB hall hA hD pf pb hp h
  have e1 : ((a : Int) + 1).toNat = a + 1 := by omega
  have e2 : a + 1 ≤ cap := by omega
  have e3 : a < cap := by omega
  have e4 : a < xs.length := by omega
  have e5 : a ≤ xs.length := by omega
  have e6 : a + 1 ≤ xs.length := by omega
  go_enter Try.func79, Try.ntmps79
  go_wp2_with fail
  refine (HC1.out _ (Below.refl _ _)).mono ?_
  rintro e w1 ⟨v1, rfl, hg1, _, hb1⟩
  have HG1 := hide hg1; have HB1 := hide hb1
  clear hg1 hb1
  go_wp2_with fail
  refine (HC2.out _ HB1.out).mono ?_
  rintro e w2 ⟨v2, rfl, hg2, _, hb2⟩
  have HG1' := hide ((HG1.out.keep (w' := w2) fun p hp => hb2.cell hp)); have HG2 := hide hg2; have HB2 := hide (back HB1.out hb2)
  have hz2 := hb2.size
  clear hg2 hb2 HG1
  go_wp2_with fail
  refine (HC3.out _ HB2.out).mono ?_
  rintro e w3 ⟨v3, rfl, hg3, _, hb3⟩
  have HG1 := hide ((HG1'.out.keep (w' := w3) fun p hp => hb3.cell (by omega))); have HG2' := hide ((HG2.out.keep (w' := w3) fun p hp => hb3.cell hp)); have HG3 := hide hg3; have HB3 := hide (back HB2.out hb3)
  have hz3 := hb3.size
  clear hg3 hb3 HG1' HG2
  obtain ⟨q1, k1, rfl, q11, q12, q13⟩ := id HG1.out
  obtain ⟨q2, k2, rfl, _⟩ := id HG2'.out
  obtain ⟨q3, k3, rfl, _⟩ := id HG3.out
  by_cases hl : all.length = A.length + D.length
  · have hl0 : ((all.length : Int) != (A.length : Int) + (D.length : Int)) = false := by simp; omega
    obtain ⟨gb, go, rfl, _, _⟩ := q13 (by intro h; rw [h] at hl; simp at hl; omega)
    have s1 : IsGB w1.heap.size w3 (.slice (some ⟨gb, go, none⟩) A.length k1) (all.take A.length) := by
      have := HG1.out.part (i := 0) (m := A.length) (c := k1) (by omega) gA2 (by omega) q12
      simpa using this
    have s2 : IsGB w1.heap.size w3 (.slice (some ⟨gb, go + A.length * 2, none⟩) D.length (k1 - A.length)) (all.drop A.length) := by
      have := HG1.out.part (i := A.length) (m := D.length) (c := k1 - A.length) (by omega) gB2 (by omega) (by omega)
      rwa [List.take_of_length_le (by rw [List.length_drop]; omega)] at this
    have t1 := fun X (hX : Below w3.heap.size w3 X) => sameGroups_w _ _ (all.take A.length) A 0 X _ _ (s1.keep fun p hp => hX.cell (by omega)) (HG2'.out.keep fun p hp => hX.cell (by omega)) (by omega) (by omega) HBA.out
    have t2 := fun X (hX : Below w3.heap.size w3 X) => sameGroups_w _ _ (all.drop A.length) D (a : Int) X _ _ (s2.keep fun p hp => hX.cell (by omega)) (HG3.out.keep fun p hp => hX.cell hp) (by omega) (by omega) HBB.out
    have HT1 := hide t1; have HT2 := hide t2
    obtain ⟨x, hx⟩ : ∃ x, sameG (all.take A.length) A 0 = x := ⟨_, rfl⟩
    obtain ⟨y, hy⟩ : ∃ x, sameG (all.drop A.length) D (a : Int) = x := ⟨_, rfl⟩
    have hfin : agB xs a = (x && y) := by rw [HAG.out, hx, hy, decide_eq_true hl]; rfl
    rw [hx] at HT1
    rw [hy] at HT2
    have HF := hide hfin
    have f1 : A.length ≤ k1 := by omega
    have f2 : A.length < k1 := by omega
    have f3 : A.length ≤ all.length := by omega
    have f4 : all.length - A.length = D.length := by omega
    clear s1 s2 t1 t2 hx hy hfin
    go_wp2_with fail
    refine (HT1.out _ (Below.refl _ _)).mono ?_
    rintro e w' ⟨rfl, n1, rfl⟩
    go_wp2_with fail
    refine (HT2.out _ (below_drewN (Below.refl _ _) _)).mono ?_
    rintro e w' ⟨rfl, n2, rfl⟩
    cases x <;> cases y <;>
    · go_wp2
      go_ret
      exact ⟨ret_bool HF.out.symm, below_drewN HB3.out _⟩
  · have hl0 : ((all.length : Int) != (A.length : Int) + (D.length : Int)) = true := by simp; omega
    have hfin : agB xs a = false := by rw [HAG.out, decide_eq_false hl]; rfl
    have HF := hide hfin
    clear hfin
    go_wp2
    go_ret
    exact ⟨ret_bool HF.out.symm, HB3.out⟩
end Go.Proofs.Ytlpoenoijmifdaa
