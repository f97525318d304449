import Derived.Test.YtonbhokaeodmdaaGreatZb09
import Derived.Lib.SmallJoins
import Derived.OpenShut
import Derived.Deep.Slices
import Derived.Deep.Strs
import Derived.ProofKit
import Derived.Test.YtonbhokaeodmdaaGreatZb04
import Derived.Test.YtonbhokaeodmdaaGreatProg
import Derived.KernelRfl
set_option linter.unusedVariables false
set_option linter.unusedSimpArgs false
/- What the row's arguments are, for the evaluator: rows of structs of numbers. No program here. -/
namespace Go.Proofs.YtonbhokaeodmdaaGreat.Ev
open Go Go.RowKit Go.ChangeShapes Go.WideShapes Go.ChangeAt Go.Joins
set_option linter.unusedVariables false
noncomputable section

def I64 (z : Int) : Prop := -9223372036854775808 ≤ z ∧ z < 9223372036854775808
theorem wf_I64 {n : Int} (h : (Lit.int .i64 n).wf = true) : I64 n := by
  simp [Lit.wf, IntKind.min, IntKind.max, IntKind.signed, IntKind.bits] at h
  unfold I64; omega
theorem lt_of_cell2 {w : World} {p : Addr} {v : Value} (h : w.cell? p = some v) : p.block < w.heap.size := by
  rcases Nat.lt_or_ge p.block w.heap.size with hlt | hge
  · exact hlt
  · unfold World.cell? at h; rw [Array.getElem?_eq_none hge] at h; simp at h
theorem weights_at2 {H : Type} {P : Program} : ∀ {ts : List TypeId} {ds : List (DataW H)} (_ : (DataW.weightsEach P ts ds).all (· ≤ reachBytes) = true) {j : Nat} {t : TypeId} {d : DataW H} (_ : ts[j]? = some t) (_ : ds[j]? = some d), ∀ x ∈ DataW.weights P t d, x ≤ reachBytes := by
  intro ts ds h j t d ht hd x hx
  have := List.all_eq_true.1 h x (DataW.weights_mem_each ht hd x hx)
  simpa using this
theorem add_flat2 (b o k : Nat) : (⟨b, o, none⟩ : Addr).add k = ⟨b, o + k, none⟩ := by
  unfold Addr.add
  by_cases h : k = 0
  · subst h; simp
  · simp [h]
/-- Cells of a type are w numbers. -/
def IntCells (H : Type) (P : Program) (enc : TypeId × Value → H) (W : World) (e w : Nat) : Prop :=
  ∀ {base fuel : Nat} {sp : Nat → Bool} {held : Bool} {cs : List Value} {x : DataW H × List MemPlace}, DataW.trod enc P W base sp held fuel e cs = some x → ∃ l : List Int, cs = l.map (.int .i64) ∧ l.length = w ∧ ∀ z ∈ l, I64 z
theorem intCells_int {H : Type} {P : Program} {enc : TypeId × Value → H} {W : World} {t : Nat} (ht : P.underlying t = some (.int .i64)) : IntCells H P enc W t 1 := by
  intro base fuel sp held cs x h
  obtain ⟨z, e, _, w⟩ := DataW.trod_int ht h
  exact ⟨[z], by simpa using e, rfl, by intro y hy; rw [List.mem_singleton.1 hy]; exact wf_I64 w⟩
/-- A struct whose fields are such, one behind the other. -/
theorem intCells_struct {H : Type} {P : Program} {enc : TypeId × Value → H} {W : World} {t : Nat} {fs : Array Field} {ws : List Nat} (ht : P.underlying t = some (.struct fs)) (hn : P.cellsOf t = ws.sum) (hf : ∀ i f, fs[i]? = some f → ∃ w, ws[i]? = some w ∧ P.cellsOf f.type = w ∧ f.offset = (ws.take i).sum ∧ IntCells H P enc W f.type w) (hl : fs.size = ws.length) : IntCells H P enc W t ws.sum := by
  intro base fuel sp held cs x h
  obtain ⟨xs, n, _, rfl, hcl, hlen, hfs⟩ := DataW.trod_struct ht h
  rw [hn] at hcl
  have key : ∀ (k : Nat), k ≤ ws.length → ∃ l : List Int, cs.take (ws.take k).sum = l.map (.int .i64) ∧ l.length = (ws.take k).sum ∧ ∀ z ∈ l, I64 z := by
    intro k
    induction k with
    | zero => intro _; exact ⟨[], by simp, rfl, by simp⟩
    | succ k ih =>
      intro hk
      obtain ⟨l, h1, h2, h3⟩ := ih (by omega)
      have hkf : k < fs.size := by omega
      obtain ⟨w, e1, e2, e3, e4⟩ := hf k fs[k] (Array.getElem?_eq_getElem hkf)
      have hx : ∃ y, xs[k]? = some y := ⟨xs[k]'(by rw [hlen]; simpa using hkf), List.getElem?_eq_getElem _⟩
      obtain ⟨y, hy⟩ := hx
      have h4 := hfs k fs[k] (by simp)
      have h4' : DataW.trod enc P W base sp held n fs[k].type ((cs.drop fs[k].offset).take (P.cellsOf fs[k].type)) = some y := by
        first
          | (obtain ⟨y', h5, h6⟩ := h4; rw [hy] at h5; cases h5; exact h6)
          | (rw [h4]; exact hy)
          | (rw [hy] at h4; exact h4)
      obtain ⟨l', g1, g2, g3⟩ := e4 h4'
      rw [e2, e3] at g1
      have hsum : (ws.take (k + 1)).sum = (ws.take k).sum + w := by
        rw [List.take_add_one, e1]; simp
      refine ⟨l ++ l', ?_, by rw [List.length_append, h2, g2, hsum], ?_⟩
      · rw [hsum, List.take_add, h1, g1, List.map_append]
      · intro z hz
        rcases List.mem_append.1 hz with hz | hz
        · exact h3 z hz
        · exact g3 z hz
  obtain ⟨l, h1, h2, h3⟩ := key ws.length (Nat.le_refl _)
  rw [List.take_length] at h1 h2
  rw [List.take_of_length_le (by omega)] at h1
  exact ⟨l, h1, h2, h3⟩
theorem ats_world {W : World} {b : Nat} : ∀ {r : List Int} {o : Nat}, (∀ j, j < r.length → W.cell? ⟨b, o + j, none⟩ = (r.map (Value.int .i64))[j]?) → Ats (wst W) b o (r.map (Value.int .i64))
  | [], _, _ => trivial
  | z :: r, o, h => ⟨at_world (by simpa using h 0 (by simp)) (VR.int _ _) rfl, ats_world (fun j hj => by have := h (j + 1) (by simp; omega); simpa [Nat.add_assoc, Nat.add_comm 1 j] using this)⟩
/-- A slice of structs of numbers that came in. -/
theorem rowsW {H : Type} {P : Program} {enc : TypeId × Value → H} {W : World} {t e w bytes : Nat} (ht : P.underlying t = some (.slice e)) (hc : P.cellsOf e = w) (hw : 0 < w) (hby : P.bytesOf e = bytes) (hb : 2 ≤ bytes) (hi : IntCells H P enc W e w) {a : Option Addr} {n cap fuel : Nat} (hv : NiceS W a n cap) {d : DataW H} {p : List MemPlace}
    (hf : DataW.trod enc P W 0 (fun _ => true) true fuel t [.slice a n cap] = some (d, p)) (hz : ∀ x ∈ DataW.weights P t d, x ≤ reachBytes) : ∃ rs : List (List Int), rs.length = n ∧ RowsE (wst W) w a rs ∧ rs.length * bytes ≤ 140737488355328 := by
  rcases Go.Deep.open_slice ht hf with ⟨hcs, _⟩ | ⟨a', l, c, m, fu, D, Pl, hcs, _, hl, hm, hmm, hd, hel⟩
  · simp at hcs
    obtain ⟨rfl, rfl, rfl⟩ := hcs
    exact ⟨[], rfl, ⟨hv.spot, fun h => absurd rfl h, fun _ _ h => (by cases h), by simp, by simp, by simp⟩, by simp⟩
  · simp at hcs
    obtain ⟨rfl, rfl, rfl⟩ := hcs
    have hml : n ≤ m := by rw [hmm]; split <;> omega
    have hch : ∀ i, ∃ y : List Int, i < n → (y.length = w ∧ ∀ z ∈ y, I64 z) ∧ ∀ r, r < w → W.cell? ((a'.add (i * w)).add r) = (y.map (Value.int .i64))[r]? := by
      intro i
      by_cases hin : i < n
      · obtain ⟨cs', h1, h2⟩ := hel i (by omega)
        obtain ⟨y, rfl, hy, hz⟩ := hi h2
        rw [hc] at h1
        obtain ⟨_, _, h3⟩ := World.cells?_some h1
        exact ⟨y, fun _ => ⟨⟨hy, hz⟩, h3⟩⟩
      · exact ⟨[], fun h => absurd h hin⟩
    obtain ⟨Y, hY⟩ : ∃ Y : Nat → List Int, ∀ i, i < n → ((Y i).length = w ∧ ∀ z ∈ Y i, I64 z) ∧ ∀ r, r < w → W.cell? ((a'.add (i * w)).add r) = ((Y i).map (Value.int .i64))[r]? := ⟨fun i => (hch i).choose, fun i => (hch i).choose_spec⟩
    have hsp := hv.spot a' rfl
    obtain ⟨b, off, spot⟩ := a'
    have hsp' : spot = none := hsp
    subst hsp'
    have hbytes : n * bytes ≤ 140737488355328 := by
      simp only [Prod.mk.injEq] at hd
      obtain ⟨rfl, _⟩ := hd
      have := hz _ (by simp only [DataW.weights, ht]; exact List.mem_cons_self)
      rw [hby] at this
      simp only [List.length_map, List.length_range, reachBytes] at this
      have e1 : n + (m - n) = m := by omega
      rw [e1] at this
      exact Nat.le_trans (Nat.mul_le_mul_right _ hml) (by omega)
    refine ⟨(List.range n).map Y, by simp, ⟨hv.spot, fun _ => ⟨b, off, rfl⟩, ?_, ?_, ?_, ?_⟩, by simpa using hbytes⟩
    · intro b' o' hbo i r hr
      cases hbo
      rw [List.getElem?_map] at hr
      obtain ⟨i', h1, rfl⟩ := Option.map_eq_some_iff.1 hr
      obtain ⟨h2, h3⟩ := List.getElem?_eq_some_iff.1 h1
      simp at h2 h3
      subst h3
      refine ats_world (fun j hj => ?_)
      have := (hY i h2).2 j (by rw [← (hY i h2).1.1]; exact hj)
      rw [add_flat2, add_flat2] at this
      exact this
    · intro r hr
      obtain ⟨i, hi', rfl⟩ := List.mem_map.1 hr
      exact (hY i (List.mem_range.1 hi')).1.1
    · intro r hr x hx
      obtain ⟨i, hi', rfl⟩ := List.mem_map.1 hr
      exact (hY i (List.mem_range.1 hi')).1.2 x hx
    · simp
      have : n * 2 ≤ n * bytes := Nat.mul_le_mul_left _ hb
      omega
end
end Go.Proofs.YtonbhokaeodmdaaGreat.Ev

/- What a row of ints, and an int, let in. -/
namespace Go.Proofs.YtonbhokaeodmdaaGreat.Ev
open Go Go.RowKit Go.ChangeShapes Go.WideShapes Go.ChangeAt Go.Joins
set_option linter.unusedVariables false
noncomputable section
theorem ints_of {s : St} {a : Option Addr} {rs : List (List Int)} (h : RowsE s 1 a rs) : IntsE s a (rs.map fun r => r.getD 0 0) := by
  have hr : ∀ r ∈ rs, r = [r.getD 0 0] := fun r hr => by
    have := h.width r hr
    match r, this with
    | [z], _ => rfl
  refine ⟨h.spot, fun hn => h.addr (by rintro rfl; exact hn rfl), fun b o ha => ?_, fun x hx => ?_, by rw [List.length_map]; exact h.len⟩
  · have key : ∀ (l : List (List Int)) (k : Nat), (∀ i r, l[i]? = some r → Ats s b (o + (k + i) * 1) (r.map (.int .i64))) → (∀ r ∈ l, r = [r.getD 0 0]) → Ats s b (o + k) (ints (l.map fun r => r.getD 0 0)) := by
      intro l
      induction l with
      | nil => intro k _ _; exact trivial
      | cons r l ih =>
        intro k h1 h2
        have q := h1 0 r rfl
        rw [h2 r (by simp)] at q
        refine ⟨?_, ?_⟩
        · have := q.1; simpa using this
        · have := ih (k + 1) (fun i r' hr' => by have := h1 (i + 1) r' (by simpa using hr'); rwa [show k + (i + 1) = k + 1 + i by omega] at this) (fun r' hr' => h2 r' (by simp [hr']))
          rwa [show o + (k + 1) = o + k + 1 by omega] at this
    have := key rs 0 (fun i r hr' => by rw [Nat.zero_add]; exact h.cells b o ha i r hr') hr
    simpa using this
  · obtain ⟨r, h1, rfl⟩ := List.mem_map.1 hx
    have h2 := h.fit r h1
    rw [hr r h1] at h2 ⊢
    exact h2 _ (by simp)
set_option maxRecDepth 100000 in
theorem open_int {H : Type} {enc : TypeId × Value → H} {W : World} {r : Reach} {b0 : Nat} {v : Value} {d : DataW H} {p : List MemPlace} (h : DataW.Trod enc Tryz.prog W 0 (fun _ => true) true 3 v d p) (hv : Value.okWide Tryz.prog W r b0 3 v) : ∃ z, v = .int .i64 z := by
  obtain ⟨fuel, hf⟩ := h
  have hk : v.cells.toList = [v] := by
    simp only [Value.okWide, Tryz.underlying3] at hv
    unfold Cell.okWide at hv
    rw [Tryz.underlying3] at hv
    unfold Cell.ok at hv
    rw [Tryz.underlying3] at hv
    cases v <;> first | rfl | exact absurd hv id
  rw [hk] at hf
  obtain ⟨l, q, ql, _⟩ := intCells_int (P := Tryz.prog) Tryz.underlying3 hf
  match l, ql with
  | [z], _ => exact ⟨z, by simpa using q⟩
set_option maxRecDepth 100000 in
theorem open_islice {H : Type} {enc : TypeId × Value → H} {W : World} {r : Reach} {b0 : Nat} {v : Value} {d : DataW H} {p : List MemPlace} (hv : Value.okWide Tryz.prog W r b0 22 v) (h : DataW.Trod enc Tryz.prog W 0 (fun _ => true) true 22 v d p) (hz : ∀ x ∈ DataW.weights Tryz.prog 22 d, x ≤ reachBytes) :
    ∃ a n c r, v = .slice a n c ∧ r.length = n ∧ NiceS W a n c ∧ RowsE (wst W) 1 a r := by
  obtain ⟨fuel, hf⟩ := h
  simp only [Value.okWide, Tryz.underlying22] at hv
  obtain ⟨a, n, c, rfl, hN⟩ := cell_niceS Tryz.underlying22 hv
  obtain ⟨rs, f, k, _⟩ := rowsW (w := 1) (bytes := 8) Tryz.underlying22 (by kernel_rfl) (by decide) (by kernel_rfl) (by decide) (intCells_int Tryz.underlying3) hN (by simpa [Value.cells] using hf) hz
  exact ⟨a, n, c, rs, rfl, f, hN, k⟩
end
end Go.Proofs.YtonbhokaeodmdaaGreat.Ev
