import Derived.Test.YtlpoenoijmifdaaPlc
import Derived.Test.YtlpoenoijmifdaaSan
import Derived.Test.YtlpoenoijmifdaaDot
import Derived.Test.YtlpoenoijmifdaaSpl
set_option linter.unusedVariables false
set_option linter.unusedSimpArgs false
namespace Go.Proofs.Ytlpoenoijmifdaa
open Go.RowKit

theorem rise_pos {xs : List Int} (hp : Pos xs) : rise 9 100000 xs = true := by
  refine rise_of (by have := hp.lo; omega) (by have := hp.hi; omega) ?_ ?_
  · rw [List.all_eq_true]
    intro x hx
    obtain ⟨i, hi, rfl⟩ := List.mem_iff_getElem.1 hx
    have := hp.bd i hi
    rw [at_get hi] at this
    exact inB_t this
  · unfold incTo
    rw [List.all_eq_true]
    intro i hi
    have := hp.up i (by have := List.mem_range.1 hi; omega)
    simpa [at_] using this
theorem pl_pos {xs : List Int} (hp : Pos xs) : pl xs = 0 := by unfold pl; rw [if_pos (rise_pos hp)]
theorem wtsE_pos {xs : List Int} (hp : Pos xs) : wtsE xs = wts xs := by unfold wtsE; rw [if_pos (rise_pos hp)]
theorem grsE_pos {xs : List Int} (hp : Pos xs) : grsE xs = grs xs := by unfold grsE; rw [if_pos (rise_pos hp)]

theorem Stp.pos {M : Int} {xs : List Int} (h : Stp M xs) (h2 : 2 ≤ xs.length) (h9 : xs.length ≤ 9) (hM : 0 ≤ M) (hM2 : M ≤ 9000) : Pos xs :=
  ⟨h2, h9, fun i hi => by
    have := h.bd i hi
    have h3 : M * (i : Int) ≤ M * 8 := Int.mul_le_mul_of_nonneg_left (by omega) hM
    omega, fun i hi => by have := h.gap i hi; omega⟩

theorem Blk.below {w w' : World} {g : Nat} {t : TypeId} {cs : Array Value} (h : Blk w g t cs) (hb : Below w.heap.size w w') : Blk w' g t cs := (hb.block g h.lt).trans h

/-- A sharper bound: with intervals of at most M. -/
theorem wts_48 {M : Int} {xs : List Int} (hp : Pos xs) (hM : 0 ≤ M) (hg : ∀ i, i + 1 < xs.length → 1 ≤ at_ xs (i + 1) - at_ xs i ∧ at_ xs (i + 1) - at_ xs i ≤ M) : Lim (1152 * M) (wts xs) := by
  have hl := (cons_bd hp).1
  have hq : ∀ q ∈ cons xs, -(48 * M) ≤ q.2 ∧ q.2 ≤ 48 * M := by
    intro q hq
    obtain ⟨g, hgm, h⟩ := List.mem_flatMap.1 hq
    obtain ⟨_, h1, h2, h3⟩ := grF_bd xs xs.length 0 g hgm
    exact con_48 (i := g.1) (m := g.2) (by omega) h3 hM hg q h
  have := foldW_lim (48 * M) (by omega) (cons xs) 0 (List.replicate xs.length 0) (lim_zero _) hq
  intro i
  have h1 := this i
  have h2 : 48 * M * ((cons xs).length : Int) ≤ 48 * M * 24 := Int.mul_le_mul_of_nonneg_left (by omega) (by omega)
  have e : 48 * M * 24 = 1152 * M := by omega
  unfold wts; omega

/-- A tail, or a beginning, or a part of positions. -/
theorem Pos.take {xs : List Int} (hp : Pos xs) {m : Nat} (h1 : 2 ≤ m) (h2 : m ≤ xs.length) : Pos (xs.take m) := by
  have hl : (xs.take m).length = m := by rw [List.length_take]; omega
  refine ⟨by omega, by have := hp.hi; omega, fun i hi => ?_, fun i hi => ?_⟩
  · rw [at_take _ _ _ (by omega)]; exact hp.bd i (by omega)
  · rw [at_take _ _ _ (by omega), at_take _ _ _ (by omega)]; exact hp.up i (by omega)
theorem Pos.drop {xs : List Int} (hp : Pos xs) {a : Nat} (h : a + 2 ≤ xs.length) : Pos (xs.drop a) := by
  have hl : (xs.drop a).length = xs.length - a := List.length_drop
  refine ⟨by omega, by have := hp.hi; omega, fun i hi => ?_, fun i hi => ?_⟩
  · rw [at_drop]; exact hp.bd _ (by omega)
  · rw [at_drop, at_drop]; exact hp.up (a + i) (by omega)

/-- A part of a slice is a slice that reads as a part. -/
theorem IsLB.part {B : Nat} {w : World} {b off n cap : Nat} {xs : List Int} (h : IsLB B w (.slice (some ⟨b, off, none⟩) n cap) xs) {i m c : Nat} (hi : i + m ≤ xs.length) (hm : 0 < m) (hc : m ≤ c) (hc2 : c ≤ maxLen) :
    IsLB B w (.slice (some ⟨b, off + i, none⟩) m c) ((xs.drop i).take m) := by
  obtain ⟨a', cap', hv, h1, h2, h3, h4⟩ := h
  cases hv
  have hl : ((xs.drop i).take m).length = m := by rw [List.length_take, List.length_drop]; omega
  obtain ⟨b', off', e, hb, hcell⟩ := h4 (by intro h; subst h; simp at hi; omega)
  cases e
  refine ⟨_, c, by rw [hl], by omega, hc2, fun x hx => h3 x (List.mem_of_mem_drop (List.mem_of_mem_take hx)), fun _ => ⟨b, off + i, rfl, hb, fun j hj => ?_⟩⟩
  rw [hl] at hj
  rw [Nat.add_assoc, hcell (i + j) (by omega), List.getElem?_take_of_lt hj, List.getElem?_drop]
end Go.Proofs.Ytlpoenoijmifdaa
