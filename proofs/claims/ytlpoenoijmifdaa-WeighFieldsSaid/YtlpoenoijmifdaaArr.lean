import Derived.Test.YtlpoenoijmifdaaRow
import Derived.SizedLaws
import Derived.Below
set_option linter.unusedVariables false
set_option linter.unusedSimpArgs false
namespace Go.Proofs.Ytlpoenoijmifdaa
open Go.ChangeShapes Go.WideShapes Go.ChangeAt Go.RowKit

theorem bytesI : Try.prog.bytesOf 3 = 8 := by kernel_rfl
theorem cellsI' : Try.prog.cellsOf 3 = 1 := by kernel_rfl

/-- A slice of integers that came in, within the reach of the form: by its cell. -/
theorem row_cell {H : Type} {enc : TypeId × Value → H} {W : World} {fuel : Nat} {v : Value} {d : DataW H} {p : List MemPlace} (hf : DataW.trod enc Try.prog W 0 (fun _ => true) true fuel 38 [v] = some (d, p))
    (hz : ∀ x ∈ DataW.weights Try.prog 38 d, x ≤ reachBytes) : ∃ a n cap xs, v = .slice a n cap ∧ IsL W (.slice a n cap) xs ∧ xs.length ≤ 1000000000000000000 := by
  rcases open_ints Try.underlying38 Try.underlying3 (by kernel_rfl) hf with ⟨hcs, _⟩ | ⟨x, l, c, zs, hcs, _, hl, hm, hzs, hd, hcell, hwz⟩
  · simp at hcs
    subst hcs
    exact ⟨none, 0, 0, _, rfl, isL_of_row (zs := []) (.inl ⟨rfl, rfl, rfl, rfl⟩), by simp⟩
  · simp at hcs
    subst hcs
    refine ⟨_, _, _, _, rfl, isL_of_row (zs := zs) (.inr ⟨_, rfl, hl, hm, by simpa using hzs, hcell, hwz⟩), ?_⟩
    have hd' : d = .slice (lits .i64 (zs.take l)) (lits .i64 (zs.drop l)) := by simpa using congrArg Prod.fst hd
    subst hd'
    have := hz _ (by simp only [DataW.weights, Try.underlying38]; exact List.mem_cons_self)
    rw [bytesI] at this
    simp only [lits, List.length_map, List.length_take, List.length_drop, reachBytes] at this
    simp only [List.length_take]
    simp at hzs
    omega

/-- A slice of integers that came in, within the reach of the form. -/
theorem row_of {H : Type} {enc : TypeId × Value → H} {W : World} {r : Reach} {b0 : Nat} {v : Value} {d : DataW H} {p : List MemPlace} (hv : Value.okWide Try.prog W r b0 38 v) (h : DataW.Trod enc Try.prog W 0 (fun _ => true) true 38 v d p)
    (hz : ∀ x ∈ DataW.weights Try.prog 38 d, x ≤ reachBytes) : ∃ a n cap xs, v = .slice a n cap ∧ IsL W (.slice a n cap) xs ∧ xs.length ≤ 1000000000000000000 := by
  obtain ⟨a0, len0, cap0, rfl⟩ := okWide_slice Try.underlying38 hv
  obtain ⟨fuel, hf⟩ := h
  exact row_cell hf hz

theorem weights_at {H : Type} {P : Program} : ∀ {ts : List TypeId} {ds : List (DataW H)} (_ : (DataW.weightsEach P ts ds).all (· ≤ reachBytes) = true) {j : Nat} {t : TypeId} {d : DataW H} (_ : ts[j]? = some t) (_ : ds[j]? = some d), ∀ x ∈ DataW.weights P t d, x ≤ reachBytes := by
  intro ts ds h j t d ht hd x hx
  have := List.all_eq_true.1 h x (DataW.weights_mem_each ht hd x hx)
  simpa using this

/-- An array of integers. -/
theorem arr_ints {H : Type} {enc : TypeId × Value → H} {P : Program} {W : World} {base fuel n : Nat} {sp : Nat → Bool} {held : Bool} {t e : TypeId} {cs : List Value} {x : DataW H × List MemPlace} (hC : P.cellsOf e = 1) (he : P.underlying e = some (.int .i64)) (ht : P.underlying t = some (.array n e)) (hT : P.cellsOf t = n)
    (h : DataW.trod enc P W base sp held fuel t cs = some x) : ∃ zs : List Int, zs.length = n ∧ cs = zs.map (Value.int .i64) ∧ ∀ z ∈ zs, FB z := by
  obtain ⟨xs, m, _, _, hcl, hxl, hxi⟩ := DataW.trod_array ht h
  rw [hT] at hcl
  have key : ∀ i, i < n → ∃ z, cs[i]? = some (.int .i64 z) ∧ FB z := by
    intro i hi
    have g := hxi i hi
    rw [hC, Nat.mul_one, List.getElem?_eq_getElem (show i < xs.length by omega)] at g
    have e1 : (cs.drop i).take 1 = [cs[i]'(by omega)] := by
      rw [List.drop_eq_getElem_cons (by omega)]; rfl
    rw [e1] at g
    obtain ⟨z, hz, _, wz⟩ := DataW.trod_int he g
    simp at hz
    exact ⟨z, by rw [List.getElem?_eq_getElem (by omega), hz], wf_FB wz⟩
  have e2 : cs = (cs.map intOf).map (Value.int .i64) := by
    apply List.ext_getElem?
    intro i
    by_cases hi : i < n
    · obtain ⟨z, hz, _⟩ := key i hi
      simp [hz, intOf]
    · rw [List.getElem?_eq_none (by omega), List.getElem?_eq_none (by simp; omega)]
  refine ⟨cs.map intOf, by simp [hcl], e2, ?_⟩
  intro z hz
  obtain ⟨c, hc, rfl⟩ := List.mem_map.1 hz
  obtain ⟨i, hi, rfl⟩ := List.mem_iff_getElem.1 hc
  obtain ⟨z, h1, h2⟩ := key i (by omega)
  rw [List.getElem?_eq_getElem hi] at h1
  cases h1' : cs[i] with
  | int k m => rw [h1'] at h1; simp at h1; obtain ⟨rfl, rfl⟩ := h1; exact h2
  | _ => rw [h1'] at h1; simp at h1

/-- Each part of an array whose elements take one cell. -/
theorem arr_each {H : Type} {enc : TypeId × Value → H} {P : Program} {W : World} {base fuel n : Nat} {sp : Nat → Bool} {held : Bool} {t e : TypeId} {cs : List Value} {d : DataW H} {p : List MemPlace} (hC : P.cellsOf e = 1) (ht : P.underlying t = some (.array n e)) (hT : P.cellsOf t = n)
    (h : DataW.trod enc P W base sp held fuel t cs = some (d, p)) : cs.length = n ∧ ∀ i, i < n → ∃ c d' p' m, cs[i]? = some c ∧ DataW.trod enc P W base sp held m e [c] = some (d', p') ∧ (∀ x ∈ DataW.weights P e d', x ∈ DataW.weights P t d) := by
  obtain ⟨xs, m, _, hx, hcl, hxl, hxi⟩ := DataW.trod_array ht h
  rw [hT] at hcl
  refine ⟨hcl, fun i hi => ?_⟩
  have g := hxi i hi
  rw [hC, Nat.mul_one, List.getElem?_eq_getElem (show i < xs.length by omega)] at g
  have e1 : (cs.drop i).take 1 = [cs[i]'(by omega)] := by
    rw [List.drop_eq_getElem_cons (by omega)]; rfl
  rw [e1] at g
  refine ⟨cs[i]'(by omega), (xs[i]'(by omega)).1, (xs[i]'(by omega)).2, m, List.getElem?_eq_getElem (by omega), g, ?_⟩
  have hd : d = .agg (xs.map (·.1)) := congrArg Prod.fst hx
  subst hd
  intro y hy
  simp only [DataW.weights, ht]
  have hall : ∀ (l : List (DataW H × List MemPlace)) (q : DataW H × List MemPlace), q ∈ l → y ∈ DataW.weights P e q.1 → y ∈ DataW.weightsAll P e (l.map (·.1)) := by
    intro l
    induction l with
    | nil => intro q hq; simp at hq
    | cons a l ih =>
      intro q hq hy
      simp only [List.map_cons, DataW.weightsAll, List.mem_append]
      rcases List.mem_cons.1 hq with rfl | hq
      · exact .inl hy
      · exact .inr (ih q hq hy)
  exact hall xs _ (List.getElem_mem (by omega)) hy
end Go.Proofs.Ytlpoenoijmifdaa
