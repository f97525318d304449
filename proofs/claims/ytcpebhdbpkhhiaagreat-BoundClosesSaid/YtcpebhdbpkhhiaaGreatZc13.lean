import Derived.Test.YtcpebhdbpkhhiaaGreatZc05
import Derived.Test.YtcpebhdbpkhhiaaGreatZc04
import Derived.Test.YtcpebhdbpkhhiaaGreatProg
import Derived.KernelRfl
set_option linter.unusedVariables false
set_option linter.unusedSimpArgs false
/- What a system, a row of ints, and an int, let in. -/
namespace Go.Proofs.YtcpebhdbpkhhiaaGreat.Ev
open Go Go.RowKit Go.ChangeShapes Go.WideShapes Go.ChangeAt Go.Joins
set_option linter.unusedVariables false
noncomputable section
theorem ints_of {s : St} {a : Option Addr} {rs : List (List Int)} (h : RowsE s 1 a rs) : IntsE s a (rs.map fun r => r.getD 0 0) := by
  have hr : ∀ r ∈ rs, r = [r.getD 0 0] := fun r hr => by
    have := h.width r hr
    match r, this with
    | [z], _ => rfl
  refine ⟨h.spot, fun hn => h.addr (by rintro rfl; exact hn rfl), fun b o ha => ?_, fun x hx => ?_, by rw [List.length_map]; exact h.len⟩
  · have key : ∀ (l : List (List Int)) (k : Nat), (∀ i r, l[i]? = some r → Ats s b (o + (k + i) * 1) (r.map (.int .i64))) → (∀ r ∈ l, r = [r.getD 0 0]) → Ats s b (o + k) (ints (l.map fun r => r.getD 0 0)) := by
      intro l
      induction l with
      | nil => intro k _ _; exact trivial
      | cons r l ih =>
        intro k h1 h2
        have q := h1 0 r rfl
        rw [h2 r (by simp)] at q
        refine ⟨?_, ?_⟩
        · have := q.1; simpa using this
        · have := ih (k + 1) (fun i r' hr' => by have := h1 (i + 1) r' (by simpa using hr'); rwa [show k + (i + 1) = k + 1 + i by omega] at this) (fun r' hr' => h2 r' (by simp [hr']))
          rwa [show o + (k + 1) = o + k + 1 by omega] at this
    have := key rs 0 (fun i r hr' => by rw [Nat.zero_add]; exact h.cells b o ha i r hr') hr
    simpa using this
  · obtain ⟨r, h1, rfl⟩ := List.mem_map.1 hx
    have h2 := h.fit r h1
    rw [hr r h1] at h2 ⊢
    exact h2 _ (by simp)
set_option maxRecDepth 100000 in
theorem open_int {H : Type} {enc : TypeId × Value → H} {W : World} {r : Reach} {b0 : Nat} {v : Value} {d : DataW H} {p : List MemPlace} (h : DataW.Trod enc Tryz.prog W 0 (fun _ => true) true 3 v d p) (hv : Value.okWide Tryz.prog W r b0 3 v) : ∃ z, v = .int .i64 z := by
  obtain ⟨fuel, hf⟩ := h
  have hk : v.cells.toList = [v] := by
    simp only [Value.okWide, Tryz.underlying3] at hv
    unfold Cell.okWide at hv
    rw [Tryz.underlying3] at hv
    unfold Cell.ok at hv
    rw [Tryz.underlying3] at hv
    cases v <;> first | rfl | exact absurd hv id
  rw [hk] at hf
  obtain ⟨l, q, ql, _⟩ := intCells_int (P := Tryz.prog) Tryz.underlying3 hf
  match l, ql with
  | [z], _ => exact ⟨z, by simpa using q⟩
set_option maxRecDepth 100000 in
theorem open_islice {H : Type} {enc : TypeId × Value → H} {W : World} {r : Reach} {b0 : Nat} {v : Value} {d : DataW H} {p : List MemPlace} (hv : Value.okWide Tryz.prog W r b0 25 v) (h : DataW.Trod enc Tryz.prog W 0 (fun _ => true) true 25 v d p) (hz : ∀ x ∈ DataW.weights Tryz.prog 25 d, x ≤ reachBytes) :
    ∃ a n c r, v = .slice a n c ∧ r.length = n ∧ NiceS W a n c ∧ RowsE (wst W) 1 a r := by
  obtain ⟨fuel, hf⟩ := h
  simp only [Value.okWide, Tryz.underlying25] at hv
  obtain ⟨a, n, c, rfl, hN⟩ := cell_niceS Tryz.underlying25 hv
  obtain ⟨rs, f, k, _⟩ := rowsW (w := 1) (bytes := 8) Tryz.underlying25 (by kernel_rfl) (by decide) (by kernel_rfl) (by decide) (intCells_int Tryz.underlying3) hN (by simpa [Value.cells] using hf) hz
  exact ⟨a, n, c, rs, rfl, f, hN, k⟩
theorem int_limit {H : Type} {enc : TypeId × Value → H} {W : World} : IntCells H Tryz.prog enc W 55 4 :=
  intCells_struct (ws := [1, 1, 1, 1]) Tryz.underlying55 (by kernel_rfl) (fun i f hf => by
    match i, hf with
    | 0, hf => cases hf; exact ⟨1, rfl, by kernel_rfl, rfl, intCells_int Tryz.underlying3⟩
    | 1, hf => cases hf; exact ⟨1, rfl, by kernel_rfl, rfl, intCells_int Tryz.underlying3⟩
    | 2, hf => cases hf; exact ⟨1, rfl, by kernel_rfl, rfl, intCells_int Tryz.underlying3⟩
    | 3, hf => cases hf; exact ⟨1, rfl, by kernel_rfl, rfl, intCells_int Tryz.underlying3⟩
    | n + 4, hf => simp at hf) rfl
set_option maxRecDepth 100000 in
set_option maxHeartbeats 2000000 in
theorem open_system {H : Type} {enc : TypeId × Value → H} {W : World} {r : Reach} {b0 : Nat} {v : Value} {d : DataW H} {p : List MemPlace} (hv : Value.okWide Tryz.prog W r b0 24 v) (h : DataW.Trod enc Tryz.prog W 0 (fun _ => true) true 24 v d p) (hz : ∀ x ∈ DataW.weights Tryz.prog 24 d, x ≤ reachBytes) :
    ∃ z0 a1 n1 c1 r1, v = .agg #[.int .i64 z0, .slice a1 n1 c1] ∧ r1.length = n1 ∧ NiceS W a1 n1 c1 ∧ RowsE (wst W) 4 a1 r1 := by
  obtain ⟨fuel, hf⟩ := h
  simp only [Value.okWide, Tryz.underlying24] at hv
  obtain ⟨cs, rfl, hsz, ts, hts, _, hc⟩ := hv
  have e2 : Tryz.prog.cellTypes Tryz.prog.depth 24 = some [3, 22] := by kernel_rfl
  rw [e2] at hts
  cases hts
  have e3 : Tryz.prog.cellsOf 24 = 2 := by kernel_rfl
  rw [e3] at hsz
  obtain ⟨l⟩ := cs
  match l, hsz with
  | [x0, x1], _ =>
    have u0 : ∃ t, [3, 22][0]? = some t ∧ Cell.okWide Tryz.prog W r b0 t x0 := by
      obtain ⟨t, h1, h2⟩ := hc 0 x0 rfl
      exact ⟨t, h1, h2⟩
    obtain ⟨t0, e0, w0⟩ := u0
    have : t0 = 3 := by simpa using e0.symm
    subst this
    have u1 : ∃ t, [3, 22][1]? = some t ∧ Cell.okWide Tryz.prog W r b0 t x1 := by
      obtain ⟨t, h1, h2⟩ := hc 1 x1 rfl
      exact ⟨t, h1, h2⟩
    obtain ⟨t1, e1, w1⟩ := u1
    have : t1 = 22 := by simpa using e1.symm
    subst this
    obtain ⟨xs, m, _, hx, _, hlen, hfs⟩ := DataW.trod_struct Tryz.underlying24 hf
    have hd : d = .agg (xs.map (·.1)) := by simpa using congrArg Prod.fst hx
    have g_0 : ∃ y, xs[0]? = some y ∧ DataW.trod enc Tryz.prog W 0 (fun _ => true) true m 3 [x0] = some y := by
      have hy : ∃ y, xs[0]? = some y := ⟨xs[0]'(by rw [hlen]; decide), List.getElem?_eq_getElem _⟩
      obtain ⟨y, hy⟩ := hy
      have h4 := hfs 0 _ rfl
      rw [hy] at h4
      have e4 : Tryz.prog.cellsOf 3 = 1 := by kernel_rfl
      exact ⟨y, hy, by simpa [e4, Value.cells] using h4⟩
    obtain ⟨⟨d_0, p_0⟩, gy_0, g_0⟩ := g_0
    obtain ⟨l_0, q_0, ql_0, _⟩ := intCells_int (P := Tryz.prog) Tryz.underlying3 g_0
    obtain ⟨z0, rfl⟩ : ∃ z, l_0 = [z] := by
      match l_0, ql_0 with
      | [z], _ => exact ⟨z, rfl⟩
    simp at q_0
    subst q_0
    have g_1 : ∃ y, xs[1]? = some y ∧ DataW.trod enc Tryz.prog W 0 (fun _ => true) true m 22 [x1] = some y := by
      have hy : ∃ y, xs[1]? = some y := ⟨xs[1]'(by rw [hlen]; decide), List.getElem?_eq_getElem _⟩
      obtain ⟨y, hy⟩ := hy
      have h4 := hfs 1 _ rfl
      rw [hy] at h4
      have e4 : Tryz.prog.cellsOf 22 = 1 := by kernel_rfl
      exact ⟨y, hy, by simpa [e4, Value.cells] using h4⟩
    obtain ⟨⟨d_1, p_1⟩, gy_1, g_1⟩ := g_1
    obtain ⟨a1, n1, c1, rfl, hN1⟩ := cell_niceS Tryz.underlying22 w1
    have hz_1 : ∀ x ∈ DataW.weights Tryz.prog 22 d_1, x ≤ reachBytes := fun x hx' => hz x (by
      rw [hd]
      simp only [DataW.weights, Tryz.underlying24]
      exact DataW.weights_mem_each (j := 1) (t := 22) rfl (by rw [List.getElem?_map, gy_1]; rfl) x hx')
    obtain ⟨r1, f1, k1, _⟩ := rowsW (w := 4) (bytes := 32) Tryz.underlying22 (by kernel_rfl) (by decide) (by kernel_rfl) (by decide) int_limit hN1 g_1 hz_1
    exact ⟨z0, a1, n1, c1, r1, rfl, f1, hN1, k1⟩
end
end Go.Proofs.YtcpebhdbpkhhiaaGreat.Ev
