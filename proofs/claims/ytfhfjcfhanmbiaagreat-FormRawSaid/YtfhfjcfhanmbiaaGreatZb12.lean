import Derived.Test.YtfhfjcfhanmbiaaGreatZb07
import Derived.Test.YtfhfjcfhanmbiaaGreatZb04
import Derived.Test.YtfhfjcfhanmbiaaGreatProg
import Derived.KernelRfl
set_option linter.unusedVariables false
set_option linter.unusedSimpArgs false
/- What a survey's row lets in. -/
namespace Go.Proofs.YtfhfjcfhanmbiaaGreat.Ev
open Go Go.RowKit Go.ChangeShapes Go.WideShapes Go.ChangeAt Go.Joins
set_option linter.unusedVariables false
noncomputable section
theorem cell_leS {P : Program} {W : World} {r : Reach} {b0 : Nat} {t e : TypeId} {a : Option Addr} {n c : Nat} (ht : P.underlying t = some (.slice e)) (h : Cell.okWide P W r b0 t (.slice a n c)) : n ≤ c := by
  simp only [Cell.okWide, ht] at h
  unfold Cell.ok at h
  rw [ht] at h
  split at h
  all_goals first
    | exact absurd h id
    | (rename_i h1; cases h1; done)
    | (rename_i h1 h2; cases h1; done)
    | (rename_i h1 h2; cases h2; exact Nat.le_refl _)
    | (rename_i h1 h2; cases h2; exact h.1)
    | exact h.1
    | skip
  all_goals first
    | (simp_all; done)
    | (simp_all; omega)
theorem ints_of {s : St} {a : Option Addr} {rs : List (List Int)} (h : RowsE s 1 a rs) : IntsE s a (rs.map fun r => r.getD 0 0) := by
  have hr : ∀ r ∈ rs, r = [r.getD 0 0] := fun r hr => by
    have := h.width r hr
    match r, this with
    | [z], _ => rfl
  refine ⟨h.spot, fun hn => h.addr (by rintro rfl; exact hn rfl), fun b o ha => ?_, fun x hx => ?_, by rw [List.length_map]; exact h.len⟩
  · have key : ∀ (l : List (List Int)) (k : Nat), (∀ i r, l[i]? = some r → Ats s b (o + (k + i) * 1) (r.map (.int .i64))) → (∀ r ∈ l, r = [r.getD 0 0]) → Ats s b (o + k) (ints (l.map fun r => r.getD 0 0)) := by
      intro l
      induction l with
      | nil => intro k _ _; exact trivial
      | cons r l ih =>
        intro k h1 h2
        have q := h1 0 r rfl
        rw [h2 r (by simp)] at q
        refine ⟨?_, ?_⟩
        · have := q.1; simpa using this
        · have := ih (k + 1) (fun i r' hr' => by have := h1 (i + 1) r' (by simpa using hr'); rwa [show k + (i + 1) = k + 1 + i by omega] at this) (fun r' hr' => h2 r' (by simp [hr']))
          rwa [show o + (k + 1) = o + k + 1 by omega] at this
    have := key rs 0 (fun i r hr' => by rw [Nat.zero_add]; exact h.cells b o ha i r hr') hr
    simpa using this
  · obtain ⟨r, h1, rfl⟩ := List.mem_map.1 hx
    have h2 := h.fit r h1
    rw [hr r h1] at h2 ⊢
    exact h2 _ (by simp)
theorem int_reading {H : Type} {enc : TypeId × Value → H} {W : World} : IntCells H Tryz.prog enc W 78 7 :=
  intCells_struct (ws := [1, 1, 1, 1, 1, 1, 1]) Tryz.underlying78 (by kernel_rfl) (fun i f hf => by
    match i, hf with
    | 0, hf => cases hf; exact ⟨1, rfl, by kernel_rfl, rfl, intCells_int Tryz.underlying3⟩
    | 1, hf => cases hf; exact ⟨1, rfl, by kernel_rfl, rfl, intCells_int Tryz.underlying3⟩
    | 2, hf => cases hf; exact ⟨1, rfl, by kernel_rfl, rfl, intCells_int Tryz.underlying3⟩
    | 3, hf => cases hf; exact ⟨1, rfl, by kernel_rfl, rfl, intCells_int Tryz.underlying3⟩
    | 4, hf => cases hf; exact ⟨1, rfl, by kernel_rfl, rfl, intCells_int Tryz.underlying3⟩
    | 5, hf => cases hf; exact ⟨1, rfl, by kernel_rfl, rfl, intCells_int Tryz.underlying3⟩
    | 6, hf => cases hf; exact ⟨1, rfl, by kernel_rfl, rfl, intCells_int Tryz.underlying3⟩
    | n + 7, hf => simp at hf) rfl
theorem int_compare {H : Type} {enc : TypeId × Value → H} {W : World} : IntCells H Tryz.prog enc W 83 6 :=
  intCells_struct (ws := [1, 1, 1, 1, 1, 1]) Tryz.underlying83 (by kernel_rfl) (fun i f hf => by
    match i, hf with
    | 0, hf => cases hf; exact ⟨1, rfl, by kernel_rfl, rfl, intCells_int Tryz.underlying3⟩
    | 1, hf => cases hf; exact ⟨1, rfl, by kernel_rfl, rfl, intCells_int Tryz.underlying3⟩
    | 2, hf => cases hf; exact ⟨1, rfl, by kernel_rfl, rfl, intCells_int Tryz.underlying3⟩
    | 3, hf => cases hf; exact ⟨1, rfl, by kernel_rfl, rfl, intCells_int Tryz.underlying3⟩
    | 4, hf => cases hf; exact ⟨1, rfl, by kernel_rfl, rfl, intCells_int Tryz.underlying3⟩
    | 5, hf => cases hf; exact ⟨1, rfl, by kernel_rfl, rfl, intCells_int Tryz.underlying3⟩
    | n + 6, hf => simp at hf) rfl
set_option maxRecDepth 100000 in
set_option maxHeartbeats 2000000 in
theorem open_survey {H : Type} {enc : TypeId × Value → H} {W : World} {r : Reach} {b0 : Nat} {v : Value} {d : DataW H} {p : List MemPlace} (hv : Value.okWide Tryz.prog W r b0 37 v) (h : DataW.Trod enc Tryz.prog W 0 (fun _ => true) true 37 v d p) (hz : ∀ x ∈ DataW.weights Tryz.prog 37 d, x ≤ reachBytes) :
    ∃ z0 z1 a2 n2 c2 r2 a3 n3 c3 r3 z4 z5 a6 n6 c6 r6 a7 n7 c7 r7, v = .agg #[.int .i64 z0, .int .i64 z1, .slice a2 n2 c2, .slice a3 n3 c3, .int .i64 z4, .int .i64 z5, .slice a6 n6 c6, .slice a7 n7 c7] ∧ r2.length = n2 ∧ NiceS W a2 n2 c2 ∧ RowsE (wst W) 1 a2 r2 ∧ r3.length = n3 ∧ NiceS W a3 n3 c3 ∧ RowsE (wst W) 1 a3 r3 ∧ r6.length = n6 ∧ NiceS W a6 n6 c6 ∧ RowsE (wst W) 7 a6 r6 ∧ r7.length = n7 ∧ NiceS W a7 n7 c7 ∧ RowsE (wst W) 6 a7 r7 := by
  obtain ⟨fuel, hf⟩ := h
  simp only [Value.okWide, Tryz.underlying37] at hv
  obtain ⟨cs, rfl, hsz, ts, hts, _, hc⟩ := hv
  have e2 : Tryz.prog.cellTypes Tryz.prog.depth 37 = some [3, 3, 22, 22, 3, 3, 34, 35] := by kernel_rfl
  rw [e2] at hts
  cases hts
  have e3 : Tryz.prog.cellsOf 37 = 8 := by kernel_rfl
  rw [e3] at hsz
  obtain ⟨l⟩ := cs
  match l, hsz with
  | [x0, x1, x2, x3, x4, x5, x6, x7], _ =>
    have u0 : ∃ t, [3, 3, 22, 22, 3, 3, 34, 35][0]? = some t ∧ Cell.okWide Tryz.prog W r b0 t x0 := by
      obtain ⟨t, h1, h2⟩ := hc 0 x0 rfl
      exact ⟨t, h1, h2⟩
    obtain ⟨t0, e0, w0⟩ := u0
    have : t0 = 3 := by simpa using e0.symm
    subst this
    have u1 : ∃ t, [3, 3, 22, 22, 3, 3, 34, 35][1]? = some t ∧ Cell.okWide Tryz.prog W r b0 t x1 := by
      obtain ⟨t, h1, h2⟩ := hc 1 x1 rfl
      exact ⟨t, h1, h2⟩
    obtain ⟨t1, e1, w1⟩ := u1
    have : t1 = 3 := by simpa using e1.symm
    subst this
    have u2 : ∃ t, [3, 3, 22, 22, 3, 3, 34, 35][2]? = some t ∧ Cell.okWide Tryz.prog W r b0 t x2 := by
      obtain ⟨t, h1, h2⟩ := hc 2 x2 rfl
      exact ⟨t, h1, h2⟩
    obtain ⟨t2, e2, w2⟩ := u2
    have : t2 = 22 := by simpa using e2.symm
    subst this
    have u3 : ∃ t, [3, 3, 22, 22, 3, 3, 34, 35][3]? = some t ∧ Cell.okWide Tryz.prog W r b0 t x3 := by
      obtain ⟨t, h1, h2⟩ := hc 3 x3 rfl
      exact ⟨t, h1, h2⟩
    obtain ⟨t3, e3, w3⟩ := u3
    have : t3 = 22 := by simpa using e3.symm
    subst this
    have u4 : ∃ t, [3, 3, 22, 22, 3, 3, 34, 35][4]? = some t ∧ Cell.okWide Tryz.prog W r b0 t x4 := by
      obtain ⟨t, h1, h2⟩ := hc 4 x4 rfl
      exact ⟨t, h1, h2⟩
    obtain ⟨t4, e4, w4⟩ := u4
    have : t4 = 3 := by simpa using e4.symm
    subst this
    have u5 : ∃ t, [3, 3, 22, 22, 3, 3, 34, 35][5]? = some t ∧ Cell.okWide Tryz.prog W r b0 t x5 := by
      obtain ⟨t, h1, h2⟩ := hc 5 x5 rfl
      exact ⟨t, h1, h2⟩
    obtain ⟨t5, e5, w5⟩ := u5
    have : t5 = 3 := by simpa using e5.symm
    subst this
    have u6 : ∃ t, [3, 3, 22, 22, 3, 3, 34, 35][6]? = some t ∧ Cell.okWide Tryz.prog W r b0 t x6 := by
      obtain ⟨t, h1, h2⟩ := hc 6 x6 rfl
      exact ⟨t, h1, h2⟩
    obtain ⟨t6, e6, w6⟩ := u6
    have : t6 = 34 := by simpa using e6.symm
    subst this
    have u7 : ∃ t, [3, 3, 22, 22, 3, 3, 34, 35][7]? = some t ∧ Cell.okWide Tryz.prog W r b0 t x7 := by
      obtain ⟨t, h1, h2⟩ := hc 7 x7 rfl
      exact ⟨t, h1, h2⟩
    obtain ⟨t7, e7, w7⟩ := u7
    have : t7 = 35 := by simpa using e7.symm
    subst this
    obtain ⟨xs, m, _, hx, _, hlen, hfs⟩ := DataW.trod_struct Tryz.underlying37 hf
    have hd : d = .agg (xs.map (·.1)) := by simpa using congrArg Prod.fst hx
    have g_0 : ∃ y, xs[0]? = some y ∧ DataW.trod enc Tryz.prog W 0 (fun _ => true) true m 33 [x0, x1, x2, x3, x4, x5] = some y := by
      have hy : ∃ y, xs[0]? = some y := ⟨xs[0]'(by rw [hlen]; decide), List.getElem?_eq_getElem _⟩
      obtain ⟨y, hy⟩ := hy
      have h4 := hfs 0 _ rfl
      rw [hy] at h4
      have e4 : Tryz.prog.cellsOf 33 = 6 := by kernel_rfl
      exact ⟨y, hy, by simpa [e4, Value.cells] using h4⟩
    obtain ⟨⟨d_0, p_0⟩, gy_0, g_0⟩ := g_0
    have hz_0 : ∀ x ∈ DataW.weights Tryz.prog 33 d_0, x ≤ reachBytes := fun x hx' => hz x (by
      rw [hd]
      simp only [DataW.weights, Tryz.underlying37]
      exact DataW.weights_mem_each (j := 0) (t := 33) rfl (by rw [List.getElem?_map, gy_0]; rfl) x hx')
    obtain ⟨xs_0, m_0, _, hx_0, _, hlen_0, hfs_0⟩ := DataW.trod_struct Tryz.underlying33 g_0
    have hd_0 : d_0 = .agg (xs_0.map (·.1)) := by simpa using congrArg Prod.fst hx_0
    have g_0_0 : ∃ y, xs_0[0]? = some y ∧ DataW.trod enc Tryz.prog W 0 (fun _ => true) true m_0 3 [x0] = some y := by
      have hy : ∃ y, xs_0[0]? = some y := ⟨xs_0[0]'(by rw [hlen_0]; decide), List.getElem?_eq_getElem _⟩
      obtain ⟨y, hy⟩ := hy
      have h4 := hfs_0 0 _ rfl
      rw [hy] at h4
      have e4 : Tryz.prog.cellsOf 3 = 1 := by kernel_rfl
      exact ⟨y, hy, by simpa [e4, Value.cells] using h4⟩
    obtain ⟨⟨d_0_0, p_0_0⟩, gy_0_0, g_0_0⟩ := g_0_0
    obtain ⟨l_0_0, q_0_0, ql_0_0, _⟩ := intCells_int (P := Tryz.prog) Tryz.underlying3 g_0_0
    obtain ⟨z0, rfl⟩ : ∃ z, l_0_0 = [z] := by
      match l_0_0, ql_0_0 with
      | [z], _ => exact ⟨z, rfl⟩
    simp at q_0_0
    subst q_0_0
    have g_0_1 : ∃ y, xs_0[1]? = some y ∧ DataW.trod enc Tryz.prog W 0 (fun _ => true) true m_0 3 [x1] = some y := by
      have hy : ∃ y, xs_0[1]? = some y := ⟨xs_0[1]'(by rw [hlen_0]; decide), List.getElem?_eq_getElem _⟩
      obtain ⟨y, hy⟩ := hy
      have h4 := hfs_0 1 _ rfl
      rw [hy] at h4
      have e4 : Tryz.prog.cellsOf 3 = 1 := by kernel_rfl
      exact ⟨y, hy, by simpa [e4, Value.cells] using h4⟩
    obtain ⟨⟨d_0_1, p_0_1⟩, gy_0_1, g_0_1⟩ := g_0_1
    obtain ⟨l_0_1, q_0_1, ql_0_1, _⟩ := intCells_int (P := Tryz.prog) Tryz.underlying3 g_0_1
    obtain ⟨z1, rfl⟩ : ∃ z, l_0_1 = [z] := by
      match l_0_1, ql_0_1 with
      | [z], _ => exact ⟨z, rfl⟩
    simp at q_0_1
    subst q_0_1
    have g_0_2 : ∃ y, xs_0[2]? = some y ∧ DataW.trod enc Tryz.prog W 0 (fun _ => true) true m_0 22 [x2] = some y := by
      have hy : ∃ y, xs_0[2]? = some y := ⟨xs_0[2]'(by rw [hlen_0]; decide), List.getElem?_eq_getElem _⟩
      obtain ⟨y, hy⟩ := hy
      have h4 := hfs_0 2 _ rfl
      rw [hy] at h4
      have e4 : Tryz.prog.cellsOf 22 = 1 := by kernel_rfl
      exact ⟨y, hy, by simpa [e4, Value.cells] using h4⟩
    obtain ⟨⟨d_0_2, p_0_2⟩, gy_0_2, g_0_2⟩ := g_0_2
    obtain ⟨a2, n2, c2, rfl, hN2⟩ := cell_niceS Tryz.underlying22 w2
    have hz_0_2 : ∀ x ∈ DataW.weights Tryz.prog 22 d_0_2, x ≤ reachBytes := fun x hx' => hz_0 x (by
      rw [hd_0]
      simp only [DataW.weights, Tryz.underlying33]
      exact DataW.weights_mem_each (j := 2) (t := 22) rfl (by rw [List.getElem?_map, gy_0_2]; rfl) x hx')
    obtain ⟨r2, f2, k2, _⟩ := rowsW (w := 1) (bytes := 8) Tryz.underlying22 (by kernel_rfl) (by decide) (by kernel_rfl) (by decide) (intCells_int Tryz.underlying3) hN2 g_0_2 hz_0_2
    have g_0_3 : ∃ y, xs_0[3]? = some y ∧ DataW.trod enc Tryz.prog W 0 (fun _ => true) true m_0 22 [x3] = some y := by
      have hy : ∃ y, xs_0[3]? = some y := ⟨xs_0[3]'(by rw [hlen_0]; decide), List.getElem?_eq_getElem _⟩
      obtain ⟨y, hy⟩ := hy
      have h4 := hfs_0 3 _ rfl
      rw [hy] at h4
      have e4 : Tryz.prog.cellsOf 22 = 1 := by kernel_rfl
      exact ⟨y, hy, by simpa [e4, Value.cells] using h4⟩
    obtain ⟨⟨d_0_3, p_0_3⟩, gy_0_3, g_0_3⟩ := g_0_3
    obtain ⟨a3, n3, c3, rfl, hN3⟩ := cell_niceS Tryz.underlying22 w3
    have hz_0_3 : ∀ x ∈ DataW.weights Tryz.prog 22 d_0_3, x ≤ reachBytes := fun x hx' => hz_0 x (by
      rw [hd_0]
      simp only [DataW.weights, Tryz.underlying33]
      exact DataW.weights_mem_each (j := 3) (t := 22) rfl (by rw [List.getElem?_map, gy_0_3]; rfl) x hx')
    obtain ⟨r3, f3, k3, _⟩ := rowsW (w := 1) (bytes := 8) Tryz.underlying22 (by kernel_rfl) (by decide) (by kernel_rfl) (by decide) (intCells_int Tryz.underlying3) hN3 g_0_3 hz_0_3
    have g_0_4 : ∃ y, xs_0[4]? = some y ∧ DataW.trod enc Tryz.prog W 0 (fun _ => true) true m_0 31 [x4, x5] = some y := by
      have hy : ∃ y, xs_0[4]? = some y := ⟨xs_0[4]'(by rw [hlen_0]; decide), List.getElem?_eq_getElem _⟩
      obtain ⟨y, hy⟩ := hy
      have h4 := hfs_0 4 _ rfl
      rw [hy] at h4
      have e4 : Tryz.prog.cellsOf 31 = 2 := by kernel_rfl
      exact ⟨y, hy, by simpa [e4, Value.cells] using h4⟩
    obtain ⟨⟨d_0_4, p_0_4⟩, gy_0_4, g_0_4⟩ := g_0_4
    have hz_0_4 : ∀ x ∈ DataW.weights Tryz.prog 31 d_0_4, x ≤ reachBytes := fun x hx' => hz_0 x (by
      rw [hd_0]
      simp only [DataW.weights, Tryz.underlying33]
      exact DataW.weights_mem_each (j := 4) (t := 31) rfl (by rw [List.getElem?_map, gy_0_4]; rfl) x hx')
    obtain ⟨xs_0_4, m_0_4, _, hx_0_4, _, hlen_0_4, hfs_0_4⟩ := DataW.trod_struct Tryz.underlying31 g_0_4
    have hd_0_4 : d_0_4 = .agg (xs_0_4.map (·.1)) := by simpa using congrArg Prod.fst hx_0_4
    have g_0_4_0 : ∃ y, xs_0_4[0]? = some y ∧ DataW.trod enc Tryz.prog W 0 (fun _ => true) true m_0_4 3 [x4] = some y := by
      have hy : ∃ y, xs_0_4[0]? = some y := ⟨xs_0_4[0]'(by rw [hlen_0_4]; decide), List.getElem?_eq_getElem _⟩
      obtain ⟨y, hy⟩ := hy
      have h4 := hfs_0_4 0 _ rfl
      rw [hy] at h4
      have e4 : Tryz.prog.cellsOf 3 = 1 := by kernel_rfl
      exact ⟨y, hy, by simpa [e4, Value.cells] using h4⟩
    obtain ⟨⟨d_0_4_0, p_0_4_0⟩, gy_0_4_0, g_0_4_0⟩ := g_0_4_0
    obtain ⟨l_0_4_0, q_0_4_0, ql_0_4_0, _⟩ := intCells_int (P := Tryz.prog) Tryz.underlying3 g_0_4_0
    obtain ⟨z4, rfl⟩ : ∃ z, l_0_4_0 = [z] := by
      match l_0_4_0, ql_0_4_0 with
      | [z], _ => exact ⟨z, rfl⟩
    simp at q_0_4_0
    subst q_0_4_0
    have g_0_4_1 : ∃ y, xs_0_4[1]? = some y ∧ DataW.trod enc Tryz.prog W 0 (fun _ => true) true m_0_4 3 [x5] = some y := by
      have hy : ∃ y, xs_0_4[1]? = some y := ⟨xs_0_4[1]'(by rw [hlen_0_4]; decide), List.getElem?_eq_getElem _⟩
      obtain ⟨y, hy⟩ := hy
      have h4 := hfs_0_4 1 _ rfl
      rw [hy] at h4
      have e4 : Tryz.prog.cellsOf 3 = 1 := by kernel_rfl
      exact ⟨y, hy, by simpa [e4, Value.cells] using h4⟩
    obtain ⟨⟨d_0_4_1, p_0_4_1⟩, gy_0_4_1, g_0_4_1⟩ := g_0_4_1
    obtain ⟨l_0_4_1, q_0_4_1, ql_0_4_1, _⟩ := intCells_int (P := Tryz.prog) Tryz.underlying3 g_0_4_1
    obtain ⟨z5, rfl⟩ : ∃ z, l_0_4_1 = [z] := by
      match l_0_4_1, ql_0_4_1 with
      | [z], _ => exact ⟨z, rfl⟩
    simp at q_0_4_1
    subst q_0_4_1
    have g_1 : ∃ y, xs[1]? = some y ∧ DataW.trod enc Tryz.prog W 0 (fun _ => true) true m 34 [x6] = some y := by
      have hy : ∃ y, xs[1]? = some y := ⟨xs[1]'(by rw [hlen]; decide), List.getElem?_eq_getElem _⟩
      obtain ⟨y, hy⟩ := hy
      have h4 := hfs 1 _ rfl
      rw [hy] at h4
      have e4 : Tryz.prog.cellsOf 34 = 1 := by kernel_rfl
      exact ⟨y, hy, by simpa [e4, Value.cells] using h4⟩
    obtain ⟨⟨d_1, p_1⟩, gy_1, g_1⟩ := g_1
    obtain ⟨a6, n6, c6, rfl, hN6⟩ := cell_niceS Tryz.underlying34 w6
    have hz_1 : ∀ x ∈ DataW.weights Tryz.prog 34 d_1, x ≤ reachBytes := fun x hx' => hz x (by
      rw [hd]
      simp only [DataW.weights, Tryz.underlying37]
      exact DataW.weights_mem_each (j := 1) (t := 34) rfl (by rw [List.getElem?_map, gy_1]; rfl) x hx')
    obtain ⟨r6, f6, k6, _⟩ := rowsW (w := 7) (bytes := 56) Tryz.underlying34 (by kernel_rfl) (by decide) (by kernel_rfl) (by decide) int_reading hN6 g_1 hz_1
    have g_2 : ∃ y, xs[2]? = some y ∧ DataW.trod enc Tryz.prog W 0 (fun _ => true) true m 35 [x7] = some y := by
      have hy : ∃ y, xs[2]? = some y := ⟨xs[2]'(by rw [hlen]; decide), List.getElem?_eq_getElem _⟩
      obtain ⟨y, hy⟩ := hy
      have h4 := hfs 2 _ rfl
      rw [hy] at h4
      have e4 : Tryz.prog.cellsOf 35 = 1 := by kernel_rfl
      exact ⟨y, hy, by simpa [e4, Value.cells] using h4⟩
    obtain ⟨⟨d_2, p_2⟩, gy_2, g_2⟩ := g_2
    obtain ⟨a7, n7, c7, rfl, hN7⟩ := cell_niceS Tryz.underlying35 w7
    have hz_2 : ∀ x ∈ DataW.weights Tryz.prog 35 d_2, x ≤ reachBytes := fun x hx' => hz x (by
      rw [hd]
      simp only [DataW.weights, Tryz.underlying37]
      exact DataW.weights_mem_each (j := 2) (t := 35) rfl (by rw [List.getElem?_map, gy_2]; rfl) x hx')
    obtain ⟨r7, f7, k7, _⟩ := rowsW (w := 6) (bytes := 48) Tryz.underlying35 (by kernel_rfl) (by decide) (by kernel_rfl) (by decide) int_compare hN7 g_2 hz_2
    exact ⟨z0, z1, a2, n2, c2, r2, a3, n3, c3, r3, z4, z5, a6, n6, c6, r6, a7, n7, c7, r7, rfl, f2, hN2, k2, f3, hN3, k3, f6, hN6, k6, f7, hN7, k7⟩
end
end Go.Proofs.YtfhfjcfhanmbiaaGreat.Ev
