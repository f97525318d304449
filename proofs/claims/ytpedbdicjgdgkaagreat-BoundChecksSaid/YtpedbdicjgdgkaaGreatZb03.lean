import Derived.Test.YtpedbdicjgdgkaaGreatZb02
import Derived.Lib.SmallJoins
import Derived.OpenShut
import Derived.Deep.Slices
import Derived.ProofKit
import Derived.Lib.SlicesCompact
import Derived.Sort.OwnSortedInts
import Derived.Lib.OwnBridge
import Derived.Outline
import Derived.Shelf.Sort.Plain
import Derived.Shelf.Slices.In.SortNone
import Derived.Shelf.Slices.Clone
import Derived.Shelf.Slices.CompactI
import Derived.Shelf.Slices.SearchI
import Derived.Shelf.Slices.Empties
set_option linter.unusedVariables false
set_option linter.unusedSimpArgs false
/- What the row's arguments are: a limit, a slice of limits, a row of numbers, a system. -/
namespace Go.Proofs.YtpedbdicjgdgkaaGreat
open Go Go.RowKit Go.ChangeShapes Go.WideShapes Go.ChangeAt Go.Joins
set_option linter.unusedVariables false

theorem own : ownKnob Tryz.prog.godebug = none := by kernel_rfl
theorem laidOut : laidOutB Tryz.prog = true := by kernel_rfl
/-- A slice of integers that came in: it is nil, or leads to a row of 'cap' cells; the first 'len' are its elements. -/
def IsRow (k : IntKind) (w : World) (a : Option Addr) (len cap : Nat) (zs : List Int) : Prop :=
  (a = none ∧ len = 0 ∧ cap = 0 ∧ zs = []) ∨
  ∃ x, a = some x ∧ len ≤ cap ∧ cap ≤ maxLen ∧ zs.length = cap ∧ (∀ i, i < zs.length → w.cell? (x.add i) = some (.int k (zs.getD i 0))) ∧ ∀ n ∈ zs, (Lit.int k n).wf = true

theorem wf_FB {n : Int} (h : (Lit.int .i64 n).wf = true) : FB n := by
  simp [Lit.wf, IntKind.min, IntKind.max, IntKind.signed, IntKind.bits] at h
  unfold FB; omega

theorem lt_of_cell {w : World} {p : Addr} {v : Value} (h : w.cell? p = some v) : p.block < w.heap.size := by
  rcases Nat.lt_or_ge p.block w.heap.size with hlt | hge
  · exact hlt
  · unfold World.cell? at h; rw [Array.getElem?_eq_none hge] at h; simp at h

theorem isL_of_row {w : World} {a : Option Addr} {len cap : Nat} {zs : List Int} (h : IsRow .i64 w a len cap zs) : IsL w (.slice a len cap) (zs.take len) := by
  rcases h with ⟨rfl, rfl, rfl, rfl⟩ | ⟨x, rfl, hl, hm, hz, hc, hwf⟩
  · exact ⟨none, 0, rfl, Nat.le_refl _, Nat.zero_le _, by simp, fun h => absurd rfl h⟩
  · have hlen : (zs.take len).length = len := by rw [List.length_take]; omega
    refine ⟨some x, cap, by rw [hlen], by omega, hm, fun y hy => wf_FB (hwf y (List.mem_of_mem_take hy)), fun hne => ?_⟩
    have hpos : 0 < len := by
      rcases Nat.eq_zero_or_pos len with h0 | h0
      · subst h0; simp at hne
      · exact h0
    obtain ⟨b, off, spot⟩ := x
    have h0 := hc 0 (by omega)
    have hspot : spot = none := by simpa [Addr.add] using World.cell?_spot h0
    subst hspot
    refine ⟨b, off, rfl, ?_, fun i hi => ?_⟩
    · have := lt_of_cell h0
      simpa [Addr.add] using this
    · have h1 := hc i (by omega)
      have e : (zs.take len)[i]?.getD 0 = zs.getD i 0 := by rw [List.getElem?_take_of_lt (by omega)]; rw [List.getD_eq_getElem?_getD]
      rw [e]
      by_cases hi0 : i = 0
      · subst hi0; simpa [Addr.add] using h1
      · simpa [Addr.add, hi0] using h1

theorem weights_at {H : Type} {P : Program} : ∀ {ts : List TypeId} {ds : List (DataW H)} (_ : (DataW.weightsEach P ts ds).all (· ≤ reachBytes) = true) {j : Nat} {t : TypeId} {d : DataW H} (_ : ts[j]? = some t) (_ : ds[j]? = some d), ∀ x ∈ DataW.weights P t d, x ≤ reachBytes := by
  intro ts ds h j t d ht hd x hx
  have := List.all_eq_true.1 h x (DataW.weights_mem_each ht hd x hx)
  simpa using this

theorem add_flat (b o k : Nat) : (⟨b, o, none⟩ : Addr).add k = ⟨b, o + k, none⟩ := by
  unfold Addr.add
  by_cases h : k = 0
  · subst h; simp
  · simp [h]
theorem bytesI8 : Tryz.prog.bytesOf 3 = 8 := by kernel_rfl
theorem bytesL32 : Tryz.prog.bytesOf 26 = 32 := by kernel_rfl
theorem cellsLim : Tryz.prog.cellsOf 26 = 4 := by kernel_rfl
theorem cellsInt : Tryz.prog.cellsOf 3 = 1 := by kernel_rfl

set_option maxRecDepth 100000 in
/-- A limit's cells. -/
theorem lim_cells {H : Type} {enc : TypeId × Value → H} {W : World} {base fuel : Nat} {sp : Nat → Bool} {held : Bool} {cs : List Value} {x : DataW H × List MemPlace} (h : DataW.trod enc Tryz.prog W base sp held fuel 26 cs = some x) : ∃ l : Lm, cs = lmF l ∧ FL l := by
  obtain ⟨y0, y1, y2, y3, n, hx, hl, h0, h1, h2, h3⟩ := Go.Joins.trod_struct4 Tryz.underlying26 h
  rw [cellsLim] at hl
  match cs, hl with
  | [c0, c1, c2, c3], _ =>
    simp only [cellsInt] at h0 h1 h2 h3
    obtain ⟨z0, e0, _, w0⟩ := DataW.trod_int Tryz.underlying3 h0
    obtain ⟨z1, e1, _, w1⟩ := DataW.trod_int Tryz.underlying3 h1
    obtain ⟨z2, e2, _, w2⟩ := DataW.trod_int Tryz.underlying3 h2
    obtain ⟨z3, e3, _, w3⟩ := DataW.trod_int Tryz.underlying3 h3
    simp at e0 e1 e2 e3
    subst e0; subst e1; subst e2; subst e3
    exact ⟨⟨z0, z1, z2, z3⟩, rfl, wf_FB w0, wf_FB w1, wf_FB w2, wf_FB w3⟩

/-- A row of numbers, its bytes within the reach of the form. -/
theorem row8 {H : Type} {enc : TypeId × Value → H} {W : World} {fuel : Nat} {v : Value} {d : DataW H} {p : List MemPlace} (hf : DataW.trod enc Tryz.prog W 0 (fun _ => true) true fuel 27 [v] = some (d, p))
    (hz : ∀ x ∈ DataW.weights Tryz.prog 27 d, x ≤ reachBytes) : ∃ a n cap xs, v = .slice a n cap ∧ IsL W (.slice a n cap) xs ∧ (0 < n → Nice (.slice a n cap)) ∧ xs.length * 8 ≤ 140737488355328 := by
  rcases open_ints Tryz.underlying27 Tryz.underlying3 (by kernel_rfl) hf with ⟨hcs, _⟩ | ⟨x, l, c, zs, hcs, _, hl, hm, hzs, hd, hcell, hwz⟩
  · simp at hcs
    subst hcs
    exact ⟨none, 0, 0, _, rfl, isL_of_row (zs := []) (.inl ⟨rfl, rfl, rfl, rfl⟩), fun _ => .inl rfl, by simp⟩
  · simp at hcs
    subst hcs
    refine ⟨_, _, _, _, rfl, isL_of_row (zs := zs) (.inr ⟨_, rfl, hl, hm, by simpa using hzs, hcell, hwz⟩), ?_, ?_⟩
    · intro h0
      obtain ⟨b, off, spot⟩ := x
      have h1 := hcell 0 (by simp at hzs; omega)
      have hspot : spot = none := by simpa [Addr.add] using World.cell?_spot h1
      subst hspot
      exact .inr ⟨b, off, l, c, rfl⟩
    · have hd' : d = .slice (lits .i64 (zs.take l)) (lits .i64 (zs.drop l)) := by simpa using congrArg Prod.fst hd
      subst hd'
      have := hz _ (by simp only [DataW.weights, Tryz.underlying27]; exact List.mem_cons_self)
      rw [bytesI8] at this
      simp only [lits, List.length_map, List.length_take, List.length_drop, reachBytes] at this
      simp only [List.length_take]
      simp at hzs
      omega

/-- A slice of limits, its bytes within the reach of the form. -/
theorem rowL {H : Type} {enc : TypeId × Value → H} {W : World} {fuel : Nat} {v : Value} {d : DataW H} {p : List MemPlace} (hf : DataW.trod enc Tryz.prog W 0 (fun _ => true) true fuel 22 [v] = some (d, p))
    (hz : ∀ x ∈ DataW.weights Tryz.prog 22 d, x ≤ reachBytes) : ∃ a n cap ls, v = .slice a n cap ∧ IsS W (.slice a n cap) ls ∧ (0 < n → Nice (.slice a n cap)) ∧ ls.length * 32 ≤ 140737488355328 := by
  rcases Go.Deep.open_slice Tryz.underlying22 hf with ⟨hcs, _⟩ | ⟨a, l, c, m, fu, D, Pl, hcs, _, hl, hm, hmm, hd, hel⟩
  · simp at hcs
    subst hcs
    exact ⟨none, 0, 0, [], rfl, OwL.isS (OwL.nil 0 W) (by simp), fun _ => .inl rfl, by simp⟩
  · simp at hcs
    subst hcs
    have hml : l ≤ m := by rw [hmm]; split <;> omega
    have hch : ∀ i, ∃ y : Lm, i < l → FL y ∧ ∀ r, r < 4 → W.cell? ((a.add (i * 4)).add r) = (lmF y)[r]? := by
      intro i
      by_cases hi : i < l
      · obtain ⟨cs', h1, h2⟩ := hel i (by omega)
        obtain ⟨y, rfl, hy⟩ := lim_cells h2
        rw [cellsLim] at h1
        obtain ⟨_, _, h3⟩ := World.cells?_some h1
        exact ⟨y, fun _ => ⟨hy, h3⟩⟩
      · exact ⟨default, fun h => absurd h hi⟩
    obtain ⟨Y, hY⟩ : ∃ Y : Nat → Lm, ∀ i, i < l → FL (Y i) ∧ ∀ r, r < 4 → W.cell? ((a.add (i * 4)).add r) = (lmF (Y i))[r]? := ⟨fun i => (hch i).choose, fun i => (hch i).choose_spec⟩
    refine ⟨some a, l, c, (List.range l).map Y, rfl, ⟨some a, c, by simp, by simpa using hl, hm, ?_, ?_⟩, ?_, ?_⟩
    · intro y hy
      obtain ⟨i, hi, rfl⟩ := List.mem_map.1 hy
      exact (hY i (List.mem_range.1 hi)).1
    · intro hne
      have hpos : 0 < l := by
        rcases Nat.eq_zero_or_pos l with h0 | h0
        · subst h0; simp at hne
        · exact h0
      obtain ⟨b, off, spot⟩ := a
      have c0 := (hY 0 hpos).2 0 (by omega)
      have c0' : W.cell? (((⟨b, off, spot⟩ : Addr).add (0 * 4)).add 0) = some (.int .i64 (Y 0).a) := c0
      have hspot : spot = none := by simpa [Addr.add] using World.cell?_spot c0'
      subst hspot
      refine ⟨b, off, rfl, ?_, fun i hi => ?_⟩
      · have := lt_of_cell c0'
        simpa [Addr.add] using this
      · have hi' : i < l := by simpa using hi
        have e1 : lmAt ((List.range l).map Y) i = Y i := by simp [lmAt, hi']
        rw [e1]
        have g := (hY i hi').2
        simp only [add_flat] at g
        have g0 := g 0 (by omega); have g1 := g 1 (by omega); have g2 := g 2 (by omega); have g3 := g 3 (by omega)
        refine ⟨?_, ?_, ?_, ?_⟩
        · exact g0
        · exact g1
        · exact g2
        · exact g3
    · intro hpos
      obtain ⟨b, off, spot⟩ := a
      have c0 := (hY 0 hpos).2 0 (by omega)
      have c0' : W.cell? (((⟨b, off, spot⟩ : Addr).add (0 * 4)).add 0) = some (.int .i64 (Y 0).a) := c0
      have hspot : spot = none := by simpa [Addr.add] using World.cell?_spot c0'
      subst hspot
      exact .inr ⟨b, off, l, c, rfl⟩
    · simp only [Prod.mk.injEq] at hd
      obtain ⟨rfl, _⟩ := hd
      have := hz _ (by simp only [DataW.weights, Tryz.underlying22]; exact List.mem_cons_self)
      rw [bytesL32] at this
      simp only [List.length_map, List.length_range, reachBytes] at this
      simp only [List.length_map, List.length_range]
      have e : l + (m - l) = m := by omega
      rw [e] at this
      omega

theorem nice_some {a : Addr} {n c : Nat} (hs : a.spot = none) : Nice (.slice (some a) n c) := by
  obtain ⟨b, off, spot⟩ := a
  have : spot = none := hs
  subst this
  exact .inr ⟨_, _, _, _, rfl⟩
/-- What may stand in a row's cell of a slice's type is nil, or has a plain address. -/
theorem cell_nice {P : Program} {W : World} {r : Reach} {b0 : Nat} {t e : TypeId} {v : Value} (ht : P.underlying t = some (.slice e)) (h : Cell.okWide P W r b0 t v) : Nice v := by
  simp only [Cell.okWide, ht] at h
  unfold Cell.ok at h
  rw [ht] at h
  split at h
  all_goals first
    | exact absurd h id
    | (rename_i h1; cases h1; done)
    | exact .inl rfl
    | skip
  all_goals first
    | (obtain ⟨_, _, _, hs, _⟩ := h; exact nice_some hs)
    | simp_all
theorem val_nice {P : Program} {W : World} {r : Reach} {b0 : Nat} {t e : TypeId} {v : Value} (ht : P.underlying t = some (.slice e)) (h : Value.okWide P W r b0 t v) : Nice v := by
  simp only [Value.okWide, ht] at h
  exact cell_nice ht h
set_option maxRecDepth 100000 in
theorem sys_nice {W : World} {r : Reach} {b0 : Nat} {u v : Value} (h : Value.okWide Tryz.prog W r b0 24 (.agg #[u, v])) : Nice v := by
  simp only [Value.okWide, Tryz.underlying24] at h
  obtain ⟨cs, e, _, ts, hts, _, hc⟩ := h
  cases e
  have e2 : Tryz.prog.cellTypes Tryz.prog.depth 24 = some [3, 22] := by kernel_rfl
  rw [e2] at hts
  cases hts
  obtain ⟨t, h1, h2⟩ := hc 1 v rfl
  have : t = 22 := by simpa using h1.symm
  subst this
  exact cell_nice Tryz.underlying22 h2

set_option maxRecDepth 100000 in
/-- A system that came in. -/
theorem open_sys {H : Type} {enc : TypeId × Value → H} {W : World} {r : Reach} {b0 : Nat} {v : Value} {d : DataW H} {p : List MemPlace} (hv : Value.okWide Tryz.prog W r b0 24 v) (h : DataW.Trod enc Tryz.prog W 0 (fun _ => true) true 24 v d p) (hz : ∀ x ∈ DataW.weights Tryz.prog 24 d, x ≤ reachBytes) :
    ∃ many a n cap ls, v = .agg #[.int .i64 many, .slice a n cap] ∧ IsS W (.slice a n cap) ls ∧ Nice (.slice a n cap) ∧ ls.length * 32 ≤ 140737488355328 := by
  have hv' := hv
  obtain ⟨v0, v1, y0, y1, m, rfl, rfl, _, h0, h1⟩ := open_agg2 Tryz.underlying24 (by kernel_rfl) (by kernel_rfl) hv h
  obtain ⟨z0, e0, _, w0⟩ := DataW.trod_int Tryz.underlying3 h0
  simp at e0
  subst e0
  obtain ⟨d1, p1⟩ := y1
  have hz1 : ∀ x ∈ DataW.weights Tryz.prog 22 d1, x ≤ reachBytes := fun x hx => hz x (by
    simp only [DataW.weights, Tryz.underlying24]
    exact DataW.weights_mem_each (j := 1) (t := 22) rfl rfl x hx)
  obtain ⟨a, n, cap, ls, rfl, hS, _, hb⟩ := rowL h1 hz1
  exact ⟨z0, a, n, cap, ls, rfl, hS, sys_nice hv', hb⟩
set_option maxRecDepth 100000 in
/-- A limit that came in. -/
theorem open_limit {H : Type} {enc : TypeId × Value → H} {W : World} {r : Reach} {b0 : Nat} {v : Value} {d : DataW H} {p : List MemPlace} (hv : Value.okWide Tryz.prog W r b0 26 v) (h : DataW.Trod enc Tryz.prog W 0 (fun _ => true) true 26 v d p) :
    ∃ l : Lm, v = .agg #[.int .i64 l.a, .int .i64 l.b, .int .i64 l.m, .int .i64 l.y] ∧ FL l := by
  obtain ⟨v0, v1, v2, v3, y0, y1, y2, y3, m, rfl, _, _, h0, h1, h2, h3⟩ := open_agg4 Tryz.underlying26 (by kernel_rfl) (by kernel_rfl) hv h
  obtain ⟨z0, e0, _, w0⟩ := DataW.trod_int Tryz.underlying3 h0
  obtain ⟨z1, e1, _, w1⟩ := DataW.trod_int Tryz.underlying3 h1
  obtain ⟨z2, e2, _, w2⟩ := DataW.trod_int Tryz.underlying3 h2
  obtain ⟨z3, e3, _, w3⟩ := DataW.trod_int Tryz.underlying3 h3
  simp at e0 e1 e2 e3
  subst e0; subst e1; subst e2; subst e3
  exact ⟨⟨z0, z1, z2, z3⟩, rfl, wf_FB w0, wf_FB w1, wf_FB w2, wf_FB w3⟩
set_option maxRecDepth 100000 in
/-- A row that came in. -/
theorem open_row8 {H : Type} {enc : TypeId × Value → H} {W : World} {r : Reach} {b0 : Nat} {v : Value} {d : DataW H} {p : List MemPlace} (hv : Value.okWide Tryz.prog W r b0 27 v) (h : DataW.Trod enc Tryz.prog W 0 (fun _ => true) true 27 v d p) (hz : ∀ x ∈ DataW.weights Tryz.prog 27 d, x ≤ reachBytes) :
    ∃ a n cap xs, v = .slice a n cap ∧ IsL W (.slice a n cap) xs ∧ Nice (.slice a n cap) ∧ xs.length * 8 ≤ 140737488355328 := by
  have hn := val_nice Tryz.underlying27 hv
  obtain ⟨a0, len0, cap0, rfl⟩ := okWide_slice Tryz.underlying27 hv
  obtain ⟨fuel, hf⟩ := h
  obtain ⟨a, n, cap, xs, e, h1, _, h3⟩ := row8 hf hz
  cases e
  exact ⟨_, _, _, _, rfl, h1, hn, h3⟩
end Go.Proofs.YtpedbdicjgdgkaaGreat

/- What a sorted row holds once each: the same as the sources of the reference. -/
namespace Go.Proofs.YtpedbdicjgdgkaaGreat
open Go Go.RowKit Go.Lib

theorem srt_le (zs : List Int) (h : zs.Pairwise (· ≤ ·)) (i j : Nat) (hij : i ≤ j) (hj : j < zs.length) : zs.toArray[i]! ≤ zs.toArray[j]! := by
  rw [getElem!_pos zs.toArray i (by simp; omega), getElem!_pos zs.toArray j (by simpa using hj)]
  simp only [List.getElem_toArray]
  rcases Nat.lt_or_ge i j with h1 | h1
  · exact (List.pairwise_iff_getElem.1 h) i j (by omega) hj h1
  · have : i = j := by omega
    subst this
    exact Int.le_refl _
theorem cpt_inc (zs : List Int) (h : zs.Pairwise (· ≤ ·)) : (compact zs).Pairwise (· < ·) := by
  unfold compact compactUpTo
  rw [List.pairwise_map]
  rw [List.pairwise_filter]
  have hr : (List.range zs.length).Pairwise (fun i j => i < j ∧ j < zs.length) := by
    rw [List.pairwise_iff_getElem]
    intro i j hi hj hij
    simp only [List.getElem_range]
    simp only [List.length_range] at hj
    exact ⟨hij, hj⟩
  refine hr.imp ?_
  intro i j ⟨hij, hj⟩ _ hk
  simp only [keeps, decide_eq_true_eq] at hk
  have hne : zs.toArray[j]! ≠ zs.toArray[j - 1]! := by
    rcases hk with hk | hk
    · omega
    · exact hk
  have h1 := srt_le zs h i (j - 1) (by omega) (by omega)
  have h2 := srt_le zs h (j - 1) j (by omega) hj
  omega
theorem cpt_mem (zs : List Int) (z : Int) : z ∈ compact zs ↔ z ∈ zs := by
  constructor
  · intro h
    simp only [compact, compactUpTo, List.mem_map, List.mem_filter, List.mem_range] at h
    obtain ⟨k, ⟨hk, _⟩, rfl⟩ := h
    rw [getElem!_pos zs.toArray k (by simpa using hk)]
    simp
  · intro h
    obtain ⟨k, hk, rfl⟩ := List.getElem_of_mem h
    clear h
    have e : ∀ k (hk : k < zs.length), zs.toArray[k]! = zs[k] := fun k hk => by
      rw [getElem!_pos zs.toArray k (by simpa using hk)]; simp
    have : ∀ k (hk : k < zs.length), zs[k] ∈ compact zs := by
      intro k
      induction k with
      | zero =>
        intro hk
        simp only [compact, compactUpTo, List.mem_map, List.mem_filter, List.mem_range]
        exact ⟨0, ⟨hk, by simp [keeps]⟩, e 0 hk⟩
      | succ k ih =>
        intro hk
        by_cases hq : zs.toArray[k + 1]! = zs.toArray[k]!
        · have := ih (by omega)
          rw [e _ hk, e k (by omega)] at hq
          rw [hq]; exact this
        · simp only [compact, compactUpTo, List.mem_map, List.mem_filter, List.mem_range]
          exact ⟨k + 1, ⟨hk, by simp only [keeps, decide_eq_true_eq]; right; simpa using hq⟩, e _ hk⟩
    exact this k hk
theorem inc_ext : ∀ (xs ys : List Int), xs.Pairwise (· < ·) → ys.Pairwise (· < ·) → (∀ z, z ∈ xs ↔ z ∈ ys) → xs = ys
  | [], ys, _, _, h => by
    cases ys with
    | nil => rfl
    | cons y t => exact absurd ((h y).2 (by simp)) (by simp)
  | x :: s, [], _, _, h => absurd ((h x).1 (by simp)) (by simp)
  | x :: s, y :: t, hx, hy, h => by
    obtain ⟨hx1, hx2⟩ := List.pairwise_cons.1 hx
    obtain ⟨hy1, hy2⟩ := List.pairwise_cons.1 hy
    have e : x = y := by
      rcases List.mem_cons.1 ((h x).1 (by simp)) with e | e
      · exact e
      · rcases List.mem_cons.1 ((h y).2 (by simp)) with e' | e'
        · exact e'.symm
        · have := hx1 y e'; have := hy1 x e; omega
    subst e
    congr 1
    refine inc_ext s t hx2 hy2 fun z => ?_
    constructor
    · intro hz
      rcases List.mem_cons.1 ((h z).1 (by simp [hz])) with e | e
      · have := hx1 z hz; omega
      · exact e
    · intro hz
      rcases List.mem_cons.1 ((h z).2 (by simp [hz])) with e | e
      · have := hy1 z hz; omega
      · exact e
/-- A row sorted, and each number of it once. -/
def rsn (zs : List Int) : List Int := compact (zs.mergeSort fun x y => decide (x ≤ y))
theorem sort_le (zs : List Int) : (zs.mergeSort fun x y => decide (x ≤ y)).Pairwise (· ≤ ·) := by
  have := List.pairwise_mergeSort (le := fun (x y : Int) => decide (x ≤ y)) (fun a b c => by simp; omega) (fun a b => by simp; omega) zs
  simpa using this
theorem rsn_inc (zs : List Int) : (rsn zs).Pairwise (· < ·) := cpt_inc _ (sort_le zs)
theorem rsn_mem (zs : List Int) (z : Int) : z ∈ rsn zs ↔ z ∈ zs := by
  rw [rsn, cpt_mem]; exact List.mem_mergeSort
theorem rsn_srcs (ls : List Lm) : rsn (ls.map Lm.y) = srcs ls := by
  refine inc_ext _ _ (rsn_inc _) (srcs_inc _) fun z => ?_
  rw [rsn_mem, srcs_mem]
  simp
end Go.Proofs.YtpedbdicjgdgkaaGreat

/- A row of the call's own, sorted and each number of it once. -/
namespace Go.Proofs.YtpedbdicjgdgkaaGreat
open Go Go.RowKit Go.Lib Go.Sort Go.Proofs

theorem cpt_len (zs : List Int) : (compact zs).length ≤ zs.length := by
  unfold compact compactUpTo
  rw [List.length_map]
  exact Nat.le_trans (List.length_filter_le _ _) (by simp)
/-- What the library's sort does with a row. -/
def SortIs : Prop := ∀ (blk off cap : Nat) (zs : List Int) (w : World), Holds (Value.int .i64) w blk off zs.toArray → blk < w.heap.size → zs.length < 4611686018427387904 →
  Calls Tryz.prog 105 #[.slice (some ⟨blk, off, none⟩) zs.length cap] w fun e w' => e = .returned (.tuple #[]) ∧ ∃ n os, w' = grow (putRow (Value.int .i64) (Sort.ahead w n) blk off (zs.mergeSort fun x y => decide (x ≤ y)).toArray) os
def SortNo : Prop := ∀ (p : Option Addr) (cap : Nat) (w : World), Calls Tryz.prog 105 #[.slice p 0 cap] w fun e w' => e = .returned (.tuple #[]) ∧ w' = w
/-- What the library's Compact does with a row. -/
def CptIs : Prop := ∀ (blk off cap : Nat) (zs : List Int) (w : World), Holds (Value.int .i64) w blk off zs.toArray → zs.length ≤ 9223372036854775807 → zs.length ≤ cap →
  Calls Tryz.prog 106 #[.slice (some ⟨blk, off, none⟩) zs.length cap] w fun e w' => e = .returned (.slice (some ⟨blk, off, none⟩) (compact zs).length cap) ∧ ∃ q, w' = putRow (Value.int .i64) (Sort.ahead w q) blk off (compact zs ++ List.replicate (zs.length - (compact zs).length) 0).toArray
def CptNo : Prop := ∀ (a : Option Addr) (cap : Nat) (w : World), Calls Tryz.prog 106 #[.slice a 0 cap] w fun e w' => e = .returned (.slice a 0 cap) ∧ w' = w

set_option maxRecDepth 100000 in
set_option maxHeartbeats 4000000 in
theorem rising_of (S : SortIs) (S0 : SortNo) (C : CptIs) (C0 : CptNo) (B : Nat) (v : Value) (zs : List Int) (W : World) (h : OwI B W v zs) (hB : B ≤ W.heap.size) (hbig : zs.length * 8 ≤ 140737488355328) :
    Calls Tryz.prog 65 #[v] W fun e w' => ∃ v', e = .returned v' ∧ OwI B w' v' (rsn zs) ∧ Below B W w' := by
  have h0 := h
  rcases h.2 with ⟨rfl, hn⟩ | ⟨g, cap, cur, rfl, hb, hg, hc, hm, hs, ht⟩
  · have hz : zs = [] := List.length_eq_zero_iff.1 hn
    subst hz
    clear h h0 hbig hn
    have HS := hide S0; have HC := hide C0; clear S C S0 C0
    go_enter Tryz.func65, Tryz.ntmps65
    go_wp2_with (first
      | (go_at_call 105; refine (HS.out _ _ _).mono ?_; rintro e w' ⟨rfl, rfl⟩)
      | (go_at_call 106; refine (HC.out _ _ _).mono ?_; rintro e w' ⟨rfl, rfl⟩))
    go_ret
    have e0 : rsn [] = [] := by simp [rsn, compact, compactUpTo]
    rw [e0]
    exact ⟨_, rfl, (show OwI B _ (.slice none 0 0) [] from World.ownsRow_nil _ _ _ _), Below.refl _ _⟩
  · rw [Nat.mul_one] at ht
    have hgs : g < W.heap.size := (Array.getElem?_eq_some_iff.1 hg).1
    obtain ⟨ts, hts⟩ : ∃ ts, (zs.mergeSort fun x y => decide (x ≤ y)) = ts := ⟨_, rfl⟩
    have hl : ts.length = zs.length := by rw [← hts]; exact List.length_mergeSort _
    have hr : rsn zs = compact ts := by rw [← hts]; rfl
    have hH := holds_of_blockI hg ht
    have HS := hide (S g 0 cap zs W hH hgs (by omega))
    rw [hts] at HS
    have hle := cpt_len ts
    have hcap := hc
    have H1 : Hid (∀ n os, ∀ w1, w1 = grow (putRow (Value.int .i64) (Sort.ahead W n) g 0 ts.toArray) os → (Calls Tryz.prog 106 #[.slice (some ⟨g, 0, none⟩) zs.length cap] w1 fun e w' => ∃ v', e = .returned v' ∧ OwI B w' v' (rsn zs) ∧ Below B W w')) := by
      refine hide ?_
      intro n os w1 hw1
      have hb1 : Below B W w1 := by rw [hw1]; exact grown_bel h0 hB (grownBy_sortedI (w := W) ts.toArray)
      have ho1 : w1.ownsRow B 3 1 (.slice (some ⟨g, 0, none⟩) zs.length cap) zs.length (ts.map (Value.int .i64)) := by
        rw [hw1]; exact ownsRow_sortedI (ss := zs) hl hb hg hc hm hs
      have hg1 := heap_sortedI (n := n) (os := os) ts.toArray hg
      rw [← hw1] at hg1
      have hH1 : Holds (Value.int .i64) w1 g 0 ts.toArray := holds_of_blockI hg1 (take_putCellsI cur ts (by omega))
      have := C g 0 cap ts w1 hH1 (by omega) (by omega)
      rw [hl] at this
      refine this.mono ?_
      rintro e w2 ⟨rfl, q, rfl⟩
      refine ⟨_, rfl, ?_, below_putRow hb1 hb⟩
      rw [hr]
      have h9 := ownsRow_putRow (q := q) (ys := compact ts ++ List.replicate (zs.length - (compact ts).length) 0) (k := (compact ts).length) ho1 (by rw [List.length_append, List.length_replicate]; omega) (by omega)
      rw [List.take_left] at h9
      exact h9
    clear h h0 hH hg ht hs hm hb hbig hl hr hle hts S S0 C C0 hcap hc hgs hB
    go_enter Tryz.func65, Tryz.ntmps65
    go_wp2_with (first
      | (go_at_call 105; go_loud (refine (HS.out).mono ?_; rintro e w1 ⟨rfl, n1, os1, hw1⟩; have H2 := hide (H1.out n1 os1 w1 hw1); clear hw1))
      | (go_at_call 106; go_loud (refine (H2.out).mono ?_; rintro e w' ⟨v', rfl, ho, hb⟩)))
    go_ret
    exact ⟨_, rfl, ho, hb⟩
end Go.Proofs.YtpedbdicjgdgkaaGreat

/- The library's functions over rows of numbers, at this seat's program. -/
namespace Go.Proofs.YtpedbdicjgdgkaaGreat
open Go.Shelf Go.Proofs
def lays189_ren : Go.Shelf.Ren := ⟨fun | 189 => 105 | 125 => 129 | 257 => 128 | 128 => 148 | 129 => 149 | 294 => 140 | 295 => 141 | 296 => 142 | 297 => 143 | 298 => 144 | 299 => 145 | 216 => 130 | 300 => 146 | 301 => 147 | 328 => 155 | 329 => 156 | 330 => 157 | 331 => 158 | 332 => 159 | 215 => 150 | 343 => 163 | n => n, fun | 28 => 27 | 3 => 3 | 46 => 129 | 0 => 0 | 51 => 154 | 53 => 156 | 4 => 4 | 183 => 148 | 182 => 147 | 131 => 113 | 5 => 5 | 9 => 9 | 218 => 163 | 222 => 167 | 228 => 177 | 229 => 89 | n => n, fun | n => n⟩
theorem lays189 : Go.Proofs.Lays.n189 Tryz.prog lays189_ren := {
  mixed := by kernel_rfl
  f125 := Tryz.func129.trans (congrArg some (by kernel_rfl))
  f128 := Tryz.func148.trans (congrArg some (by kernel_rfl))
  f129 := Tryz.func149.trans (congrArg some (by kernel_rfl))
  f189 := Tryz.func105.trans (congrArg some (by kernel_rfl))
  f215 := Tryz.func150.trans (congrArg some (by kernel_rfl))
  f216 := Tryz.func130.trans (congrArg some (by kernel_rfl))
  f257 := Tryz.func128.trans (congrArg some (by kernel_rfl))
  f294 := Tryz.func140.trans (congrArg some (by kernel_rfl))
  f295 := Tryz.func141.trans (congrArg some (by kernel_rfl))
  f296 := Tryz.func142.trans (congrArg some (by kernel_rfl))
  f297 := Tryz.func143.trans (congrArg some (by kernel_rfl))
  f298 := Tryz.func144.trans (congrArg some (by kernel_rfl))
  f299 := Tryz.func145.trans (congrArg some (by kernel_rfl))
  f300 := Tryz.func146.trans (congrArg some (by kernel_rfl))
  f301 := Tryz.func147.trans (congrArg some (by kernel_rfl))
  f328 := Tryz.func155.trans (congrArg some (by kernel_rfl))
  f329 := Tryz.func156.trans (congrArg some (by kernel_rfl))
  f330 := Tryz.func157.trans (congrArg some (by kernel_rfl))
  f331 := Tryz.func158.trans (congrArg some (by kernel_rfl))
  f332 := Tryz.func159.trans (congrArg some (by kernel_rfl))
  f343 := Tryz.func163.trans (congrArg some (by kernel_rfl))
  t0 := Tryz.underlying0
  a0 := Tryz.isAgg0
  z0 := Tryz.sizeOf0
  v0 := Tryz.zeroValue0
  t3 := Tryz.underlying3
  a3 := Tryz.isAgg3
  z3 := Tryz.sizeOf3
  v3 := Tryz.zeroValue3
  t4 := Tryz.underlying4
  a4 := Tryz.isAgg4
  z4 := Tryz.sizeOf4
  v4 := Tryz.zeroValue4
  t5 := Tryz.underlying5
  a5 := Tryz.isAgg5
  z5 := Tryz.sizeOf5
  v5 := Tryz.zeroValue5
  t9 := Tryz.underlying9
  a9 := Tryz.isAgg9
  z9 := Tryz.sizeOf9
  v9 := Tryz.zeroValue9
  t28 := Tryz.underlying27
  a28 := Tryz.isAgg27
  z28 := Tryz.sizeOf27
  v28 := Tryz.zeroValue27
  t46 := Tryz.underlying129
  a46 := Tryz.isAgg129
  z46 := Tryz.sizeOf129
  v46 := Tryz.zeroValue129
  t51 := Tryz.underlying154
  a51 := Tryz.isAgg154
  z51 := Tryz.sizeOf154
  v51 := Tryz.zeroValue154
  t53 := Tryz.underlying156
  a53 := Tryz.isAgg156
  z53 := Tryz.sizeOf156
  v53 := Tryz.zeroValue156
  t131 := Tryz.underlying113
  a131 := Tryz.isAgg113
  z131 := Tryz.sizeOf113
  v131 := Tryz.zeroValue113
  t182 := Tryz.underlying147
  a182 := Tryz.isAgg147
  z182 := Tryz.sizeOf147
  v182 := Tryz.zeroValue147
  t183 := Tryz.underlying148
  a183 := Tryz.isAgg148
  z183 := Tryz.sizeOf148
  v183 := Tryz.zeroValue148
  t218 := Tryz.underlying163
  a218 := Tryz.isAgg163
  z218 := Tryz.sizeOf163
  v218 := Tryz.zeroValue163
  t222 := Tryz.underlying167
  a222 := Tryz.isAgg167
  z222 := Tryz.sizeOf167
  v222 := Tryz.zeroValue167
  t228 := Tryz.underlying177
  a228 := Tryz.isAgg177
  z228 := Tryz.sizeOf177
  v228 := Tryz.zeroValue177
  t229 := Tryz.underlying89
  a229 := Tryz.isAgg89
  z229 := Tryz.sizeOf89
  v229 := Tryz.zeroValue89 }
def laysNm220_ren : Go.Shelf.Ren := ⟨fun | 20 => 106 | n => n, fun | 22 => 27 | 3 => 3 | 4 => 4 | 0 => 0 | n => n, fun | n => n⟩
theorem laysNm220 : Go.Proofs.Lays2.n20 Tryz.prog laysNm220_ren := {
  mixed := by kernel_rfl
  f20 := Tryz.func106.trans (congrArg some (by kernel_rfl))
  t0 := Tryz.underlying0
  a0 := Tryz.isAgg0
  z0 := Tryz.sizeOf0
  v0 := Tryz.zeroValue0
  t3 := Tryz.underlying3
  a3 := Tryz.isAgg3
  z3 := Tryz.sizeOf3
  v3 := Tryz.zeroValue3
  t4 := Tryz.underlying4
  a4 := Tryz.isAgg4
  z4 := Tryz.sizeOf4
  v4 := Tryz.zeroValue4
  t22 := Tryz.underlying27
  a22 := Tryz.isAgg27
  z22 := Tryz.sizeOf27
  v22 := Tryz.zeroValue27
  i3 := by kernel_rfl }
def laysNm215_ren : Go.Shelf.Ren := ⟨fun | 15 => 107 | n => n, fun | 22 => 27 | 3 => 3 | 4 => 4 | n => n, fun | n => n⟩
theorem laysNm215 : Go.Proofs.Lays2.n15 Tryz.prog laysNm215_ren := {
  mixed := by kernel_rfl
  f15 := Tryz.func107.trans (congrArg some (by kernel_rfl))
  t3 := Tryz.underlying3
  a3 := Tryz.isAgg3
  z3 := Tryz.sizeOf3
  v3 := Tryz.zeroValue3
  t4 := Tryz.underlying4
  a4 := Tryz.isAgg4
  z4 := Tryz.sizeOf4
  v4 := Tryz.zeroValue4
  t22 := Tryz.underlying27
  a22 := Tryz.isAgg27
  z22 := Tryz.sizeOf27
  v22 := Tryz.zeroValue27
  i3 := by kernel_rfl }
def laysNm225_ren : Go.Shelf.Ren := ⟨fun | 25 => 109 | 31 => 130 | 32 => 131 | 37 => 150 | n => n, fun | 22 => 27 | 3 => 3 | 4 => 4 | 40 => 129 | 0 => 0 | n => n, fun | n => n⟩
theorem laysNm225 : Go.Proofs.Lays2.n25 Tryz.prog laysNm225_ren := {
  mixed := by kernel_rfl
  f25 := Tryz.func109.trans (congrArg some (by kernel_rfl))
  f31 := Tryz.func130.trans (congrArg some (by kernel_rfl))
  f32 := Tryz.func131.trans (congrArg some (by kernel_rfl))
  f37 := Tryz.func150.trans (congrArg some (by kernel_rfl))
  t0 := Tryz.underlying0
  a0 := Tryz.isAgg0
  z0 := Tryz.sizeOf0
  v0 := Tryz.zeroValue0
  t3 := Tryz.underlying3
  a3 := Tryz.isAgg3
  z3 := Tryz.sizeOf3
  v3 := Tryz.zeroValue3
  t4 := Tryz.underlying4
  a4 := Tryz.isAgg4
  z4 := Tryz.sizeOf4
  v4 := Tryz.zeroValue4
  t22 := Tryz.underlying27
  a22 := Tryz.isAgg27
  z22 := Tryz.sizeOf27
  v22 := Tryz.zeroValue27
  t40 := Tryz.underlying129
  a40 := Tryz.isAgg129
  z40 := Tryz.sizeOf129
  v40 := Tryz.zeroValue129 }
open Go Go.RowKit Go.Lib Go.Sort
theorem sort_is : SortIs := fun blk off cap zs w h1 h2 h3 => Any.slices_Sort_int lays189 blk off cap zs w h1 h2 h3
theorem sort_no : SortNo := fun p cap w => Any.slices_Sort_int_none lays189 p cap w
theorem cpt_is : CptIs := fun blk off cap zs w h1 h2 h3 => Any.slices_Compact_int laysNm220 blk off cap zs w h1 h2 h3
theorem cpt_no : CptNo := fun a cap w => Any.slices_Compact_int_empty laysNm220 a cap w
theorem rising_w (B : Nat) (v : Value) (zs : List Int) (W : World) (h : OwI B W v zs) (hB : B ≤ W.heap.size) (hbig : zs.length * 8 ≤ 140737488355328) :
    Calls Tryz.prog 65 #[v] W fun e w' => ∃ v', e = .returned v' ∧ OwI B w' v' (rsn zs) ∧ Below B W w' := rising_of sort_is sort_no cpt_is cpt_no B v zs W h hB hbig
end Go.Proofs.YtpedbdicjgdgkaaGreat

/- A system without some sources: the reference's side. -/
namespace Go.Proofs.YtpedbdicjgdgkaaGreat
open Go Go.RowKit

set_option maxRecDepth 100000 in
set_option maxHeartbeats 4000000 in
theorem rwithout_w (many : Int) (a : Option Addr) (n cap : Nat) (ls : List Lm) (ab : Option Addr) (nb cb : Nat) (ys : List Int) (w : World) (h : IsS w (.slice a n cap) ls) (hy : IsL w (.slice ab nb cb) ys) (hbig : ls.length * 32 ≤ 140737488355328) :
    Calls Tryz.prog 22 #[.agg #[.int .i64 many, .slice a n cap], .slice ab nb cb] w fun e w' => ∃ v, e = .returned (.agg #[.int .i64 many, v]) ∧ Nice v ∧ IsS w' v (wo ys ls) ∧ Below w.heap.size w w' := by
  obtain ⟨a', cap', hv, h1, h2, h3, h4⟩ := h
  cases hv
  unfold maxLen at h2
  have H3 := hide h3; have HB := hide hbig; have HY := hide hy; clear h3 hbig hy
  go_enter Tryz.func22, Tryz.ntmps22
  go_wp2
  obtain ⟨W0, hW0⟩ : ∃ W, ((w.alloc (.cells #[.int .i64 many, .slice a ls.length cap] 24)).alloc (.cells #[.int .i64 0, .slice none 0 0] 24)).alloc (.cells #[.int .i64 many, .slice none 0 0] 24) = W := ⟨_, rfl⟩
  have hz0 : W0.heap.size = w.heap.size + 1 + 1 + 1 := by rw [← hW0]; simp
  have hB0 : Below w.heap.size w W0 := by rw [← hW0]; exact (by repeat (first | exact Below.refl _ _ | assumption | refine Below.alloc ?_ (by first | omega | (simp; omega) | simp) _ | refine Below.setCell ?_ (by first | omega | (simp; omega) | simp) _ | refine below_drewN ?_ _ | refine Below.drew ?_ | refine back ?_ (by assumption)))
  have s0 : W0.cell? ⟨w.heap.size + 1, 0, none⟩ = some (.int .i64 0) := by rw [← hW0]; exact (cell_old (by simp)).trans (cell_new (by simp))
  have s1 : W0.cell? ⟨w.heap.size + 1, 1, none⟩ = some (.slice none 0 0) := by rw [← hW0]; exact (cell_old (by simp)).trans (cell_new (by simp))
  have s2 : W0.frozen? ⟨w.heap.size + 1, 0, none⟩ = false := by rw [← hW0]; exact (frozen_old (by simp)).trans (frozen_new (by simp))
  have s3 : W0.frozen? ⟨w.heap.size + 1, 1, none⟩ = false := by rw [← hW0]; exact (frozen_old (by simp)).trans (frozen_new (by simp))
  have t0 : W0.cell? ⟨w.heap.size + 1 + 1, 0, none⟩ = some (.int .i64 many) := by rw [← hW0]; exact cell_new (by simp)
  have t1 : W0.cell? ⟨w.heap.size + 1 + 1, 1, none⟩ = some (.slice none 0 0) := by rw [← hW0]; exact cell_new (by simp)
  have t2 : W0.frozen? ⟨w.heap.size + 1 + 1, 1, none⟩ = false := by rw [← hW0]; exact frozen_new (by simp)
  rw [hW0]
  have HZ0 := hide hz0; have HB0 := hide hB0; have HS := hide (And.intro s0 (And.intro s1 (And.intro s2 s3)))
  clear hW0 hz0 hB0 s0 s1 s2 s3
  go_loopw [14] (fun i wr => ∃ (k : Nat) (o : Value), i = .int .i64 k ∧ k ≤ ls.length ∧ Hid (OwL (w.heap.size + 1 + 1 + 1) wr o (wo ys (ls.take k))) ∧ Hid (Below (w.heap.size + 1 + 1) W0 wr) ∧ w.heap.size + 1 + 1 + 1 ≤ wr.heap.size ∧ wr.cell? ⟨w.heap.size + 1 + 1, 0, none⟩ = some (.int .i64 many) ∧ wr.cell? ⟨w.heap.size + 1 + 1, 1, none⟩ = some o ∧ wr.frozen? ⟨w.heap.size + 1 + 1, 1, none⟩ = false) (fun i _ => ls.length - (intOf i).toNat)
  case atStart => exact ⟨0, .slice none 0 0, rfl, Nat.zero_le _, hide (OwL.nil _ _), hide (Below.refl _ _), by rw [HZ0.out]; exact Nat.le_refl _, t0, t1, t2⟩
  case round =>
    obtain ⟨k, o, rfl, hk, ho, hb0, hlw, hc0, hc1, hfz⟩ := hrel
    have hbw : Below w.heap.size w wr := HB0.out.trans (hb0.out.mono (by omega))
    by_cases hlt : k < ls.length
    · obtain ⟨b, off, rfl, hbl, hc⟩ := h4 (by intro h; subst h; simp at hlt)
      obtain ⟨l, hl⟩ : ∃ l, lmAt ls k = l := ⟨_, rfl⟩
      have hck := (hc k hlt).below hbw hbl
      rw [hl] at hck
      obtain ⟨d1, d2, d3, d4⟩ := hck
      have HT := hide (wo_take ys ls k hlt l hl)
      clear hl hc
      have hbw' : b < wr.heap.size := by omega
      have hhas := fun X : World => fun hX : Below wr.heap.size wr X => hide (has_w ab nb cb ys l.y X ((HY.out.below hbw).below hX))
      by_cases hin : l.y ∈ ys
      · have hd : decide (l.y ∈ ys) = true := by simpa using hin
        have HTT : Hid (wo ys (ls.take (k + 1)) = wo ys (ls.take k)) := by show _ = _; rw [HT.out, if_pos hin, List.append_nil]
        rw [hd] at hhas
        clear hd HT hin
        go_wp2_with (go_at_call 61; refine (hhas _ (by repeat (first | exact Below.refl _ _ | assumption | refine Below.alloc ?_ (by first | omega | (simp; omega) | simp) _ | refine Below.setCell ?_ (by first | omega | (simp; omega) | simp) _ | refine below_drewN ?_ _ | refine Below.drew ?_ | refine back ?_ (by assumption)))).out.mono ?_; rintro e w2 ⟨rfl, rfl⟩)
        have hB2 : Below (w.heap.size + 1 + 1) W0 (wr.alloc (.cells #[.int .i64 l.a, .int .i64 l.b, .int .i64 l.m, .int .i64 l.y] 26)) := hb0.out.alloc (by omega) _
        exact ⟨⟨k + 1, o, by go_num, by omega, by rw [HTT.out]; exact World.ownsRow.alloc ho.out _, hide hB2, by simp; omega, (cell_old (by show w.heap.size + 1 + 1 < _; omega)).trans hc0, (cell_old (by show w.heap.size + 1 + 1 < _; omega)).trans hc1, (frozen_old (by show w.heap.size + 1 + 1 < _; omega)).trans hfz⟩, by simp [intOf]; omega⟩
      · have hd : decide (l.y ∈ ys) = false := by simpa using hin
        have HTT : Hid (wo ys (ls.take (k + 1)) = wo ys (ls.take k) ++ [l]) := by show _ = _; rw [HT.out, if_neg hin]
        rw [hd] at hhas
        clear hd HT hin
        obtain ⟨L1, hL1⟩ : ∃ o, Obj.cells #[.int .i64 l.a, .int .i64 l.b, .int .i64 l.m, .int .i64 l.y] 26 = o := ⟨_, rfl⟩
        have HOW := hide (show OwL (w.heap.size + 1 + 1 + 1) ((wr.alloc (.cells #[.int .i64 l.a, .int .i64 l.b, .int .i64 l.m, .int .i64 l.y] 26)).alloc (.cells #[.int .i64 l.a, .int .i64 l.b, .int .i64 l.m, .int .i64 l.y] 26)) o (wo ys (ls.take k)) from World.ownsRow.alloc (World.ownsRow.alloc ho.out _) _)
        have hzz : ((wr.alloc (.cells #[.int .i64 l.a, .int .i64 l.b, .int .i64 l.m, .int .i64 l.y] 26)).alloc (.cells #[.int .i64 l.a, .int .i64 l.b, .int .i64 l.m, .int .i64 l.y] 26)).heap.size = wr.heap.size + 1 + 1 := by simp
        have HZZ := hide hzz
        have hBB : Below (w.heap.size + 1 + 1) W0 ((wr.alloc (.cells #[.int .i64 l.a, .int .i64 l.b, .int .i64 l.m, .int .i64 l.y] 26)).alloc (.cells #[.int .i64 l.a, .int .i64 l.b, .int .i64 l.m, .int .i64 l.y] 26)) := (hb0.out.alloc (by omega) _).alloc (by simp; omega) _
        have HBB := hide hBB
        have HC := hide (show ∀ i v, wr.cell? ⟨w.heap.size + 1 + 1, i, none⟩ = some v → ((wr.alloc (.cells #[.int .i64 l.a, .int .i64 l.b, .int .i64 l.m, .int .i64 l.y] 26)).alloc (.cells #[.int .i64 l.a, .int .i64 l.b, .int .i64 l.m, .int .i64 l.y] 26)).cell? ⟨w.heap.size + 1 + 1, i, none⟩ = some v from fun i v h => (cell_old (by show w.heap.size + 1 + 1 < _; simp; omega)).trans ((cell_old (by show w.heap.size + 1 + 1 < _; omega)).trans h))
        have HF := hide (show ((wr.alloc (.cells #[.int .i64 l.a, .int .i64 l.b, .int .i64 l.m, .int .i64 l.y] 26)).alloc (.cells #[.int .i64 l.a, .int .i64 l.b, .int .i64 l.m, .int .i64 l.y] 26)).frozen? ⟨w.heap.size + 1 + 1, 1, none⟩ = false from (frozen_old (by show w.heap.size + 1 + 1 < _; simp; omega)).trans ((frozen_old (by show w.heap.size + 1 + 1 < _; omega)).trans hfz))
        have HLL := hide (show (wo ys (ls.take k)).length ≤ k by have := wo_len ys (ls.take k); rw [List.length_take] at this; omega)
        clear ho hzz hBB L1 hL1
        have p1 : w.heap.size + 1 + 1 < wr.heap.size := by omega
        go_wp2_with (first
          | (go_at_call 61; refine (hhas _ (by repeat (first | exact Below.refl _ _ | assumption | refine Below.alloc ?_ (by first | omega | (simp; omega) | simp) _ | refine Below.setCell ?_ (by first | omega | (simp; omega) | simp) _ | refine below_drewN ?_ _ | refine Below.drew ?_ | refine back ?_ (by assumption)))).out.mono ?_; rintro e w2 ⟨rfl, rfl⟩)
          | (at_builtin; refine catL_w rfl (.tmp 24) (.tmp 26) rfl (w.heap.size + 1 + 1 + 1) _ o (.slice (some ⟨wr.heap.size + 1, 0, none⟩) 1 1) (wo ys (ls.take k)) [l] HOW.out rfl rfl (by have := one_srcL (W := wr.alloc (.cells #[.int .i64 l.a, .int .i64 l.b, .int .i64 l.m, .int .i64 l.y] 26)) (l := l) rfl; simpa using this) (by have := HB.out; have := HLL.out; simp only [List.length_cons, List.length_nil]; omega) (by rw [HZZ.out]; omega) ?_; intro v2 W2 ho2 hg2 _ hf2; obtain ⟨g2, c2, rfl⟩ := hf2 (by simp); have hb2 := grown_bel HOW.out (by rw [HZZ.out]; omega) hg2; have r0 := (hb2.cell (p := ⟨w.heap.size + 1 + 1, 0, none⟩) (by show w.heap.size + 1 + 1 < _; omega)).trans (HC.out 0 _ hc0); have r1 := (hb2.cell (p := ⟨w.heap.size + 1 + 1, 1, none⟩) (by show w.heap.size + 1 + 1 < _; omega)).trans (HC.out 1 _ hc1); have rf := (hb2.frozen (p := ⟨w.heap.size + 1 + 1, 1, none⟩) (by show w.heap.size + 1 + 1 < _; omega)).trans HF.out; have zz2 := hb2.size; rw [HZZ.out] at zz2; have HO2 := hide ho2; have HB2 := hide (HBB.out.trans (hb2.mono (by omega))); clear hb2 ho2 hg2))
        refine ⟨⟨k + 1, _, by go_num, by omega, by rw [HTT.out]; exact ownsRow_set HO2.out (by show w.heap.size + 1 + 1 < _; omega), hide (HB2.out.setCell (by show w.heap.size + 1 + 1 ≤ w.heap.size + 1 + 1; omega) _), by simp [World.setCell]; omega, (World.cell?_setCell_other _ _ _ _ (by simp)).trans r0, by exact World.cell?_setCell_same _ _ _ r1, by simpa using rf⟩, by simp [intOf]; omega⟩
    · have hkl : k = ls.length := by omega
      have HE : Hid (ls.take k = ls) := by show _ = _; rw [hkl, List.take_length]
      clear hkl
      have hform : ∃ a2 n2 c2, o = .slice a2 n2 c2 := by
        rcases own_nice ho.out with e | ⟨g, off, n, c, e⟩
        · exact ⟨_, _, _, e⟩
        · exact ⟨_, _, _, e⟩
      obtain ⟨a2, n2, c2, rfl⟩ := hform
      obtain ⟨x0, x1, x2, x3⟩ := HS.out
      have y0 := (hb0.out.cell (p := ⟨w.heap.size + 1, 0, none⟩) (by show w.heap.size + 1 < _; omega)).trans x0
      have y1 := (hb0.out.cell (p := ⟨w.heap.size + 1, 1, none⟩) (by show w.heap.size + 1 < _; omega)).trans x1
      have y2 := (hb0.out.frozen (p := ⟨w.heap.size + 1, 0, none⟩) (by show w.heap.size + 1 < _; omega)).trans x2
      have y3 := (hb0.out.frozen (p := ⟨w.heap.size + 1, 1, none⟩) (by show w.heap.size + 1 < _; omega)).trans x3
      clear x0 x1 x2 x3
      have HOO := hide (show OwL (w.heap.size + 1 + 1 + 1) wr (.slice a2 n2 c2) (wo ys ls) by have := ho.out; rw [HE.out] at this; exact this)
      have HNI := hide (own_nice ho.out)
      clear ho
      go_wp2
      refine bodyPost_ret (v := .agg #[.int .i64 many, .slice a2 n2 c2]) (by simp [results, Tryz.results22, go_sem, hc0, hc1, y0, y1, y2, y3]) rfl ⟨_, rfl, HNI.out, ?_, ?_⟩
      · exact OwL.isS (ownsRow_set (ownsRow_set HOO.out (by show w.heap.size + 1 < _; omega)) (by show w.heap.size + 1 < _; omega)) (wo_FL H3.out)
      · exact (hbw.setCell (by show w.heap.size ≤ w.heap.size + 1; omega) _).setCell (by show w.heap.size ≤ w.heap.size + 1; omega) _
end Go.Proofs.YtpedbdicjgdgkaaGreat

/- A copy of a list of limits. -/
namespace Go.Proofs.YtpedbdicjgdgkaaGreat
open Go Go.RowKit

set_option maxRecDepth 100000 in
set_option maxHeartbeats 1000000 in
theorem cloneL_w (v : Value) (ls : List Lm) (w : World) (h : IsS w v ls) (hn : Nice v) (hbig : ls.length * 32 ≤ 140737488355328) :
    Calls Tryz.prog 62 #[v] w fun e w' => ∃ v', e = .returned v' ∧ OwL w.heap.size w' v' ls ∧ Below w.heap.size w w' := by
  rcases hn with rfl | ⟨b, off, n, cap, rfl⟩
  · have : ls = [] := by
      obtain ⟨_, _, e, _⟩ := h
      obtain ⟨_, e2, _⟩ := Value.slice.inj e
      exact List.length_eq_zero_iff.1 e2.symm
    subst this
    clear h hbig
    have hnil : ∀ W : World, (binOp .eql 22 (.slice none 0 0) (.slice none 0 0)).run Tryz.prog W = .ok (.bool true) W := fun W => Lib.run_eql_slice_nil W _ _ _ _ _ _ _ Tryz.underlying22
    go_enter Tryz.func62, Tryz.ntmps62
    go_wp2
    go_ret
    exact ⟨_, rfl, OwL.nil _ _, Below.refl _ _⟩
  · have hsA : (w.alloc (.cells #[] 26)).heap.size = w.heap.size + 1 := World.size_alloc _ _
    have HSA := hide hsA
    have hsrc := IsS.src (h.below ((Below.refl w.heap.size w).alloc (Nat.le_refl _) (.cells #[] 26))) (.inr ⟨b, off, n, cap, rfl⟩)
    have HSR := hide hsrc
    have HB := hide hbig
    clear hsA hsrc h hbig
    have hnil : ∀ W : World, (binOp .eql 22 (.slice (some ⟨b, off, none⟩) n cap) (.slice none 0 0)).run Tryz.prog W = .ok (.bool false) W := fun W => Lib.run_eql_slice_nil W _ _ _ _ _ _ _ Tryz.underlying22
    go_enter Tryz.func62, Tryz.ntmps62
    go_wp2_with (at_builtin; refine catL_w rfl (.tmp 5) (.tmp 6) rfl w.heap.size (w.alloc (.cells #[] 26)) _ (.slice (some ⟨b, off, none⟩) n cap) [] ls (OwL.none' w (Nat.le_refl _)) rfl rfl HSR.out (by have := HB.out; simp only [List.length_nil]; omega) (by rw [HSA.out]; omega) ?_; intro v' w7 ho7 hg7 _ _; have hB7 := ((Below.refl w.heap.size w).alloc (Nat.le_refl _) (.cells #[] 26)).trans (grown_bel (OwL.none' w (Nat.le_refl _)) (by rw [HSA.out]; omega) hg7))
    rw [List.nil_append] at ho7
    go_ret
    exact ⟨_, rfl, ho7, hB7⟩
end Go.Proofs.YtpedbdicjgdgkaaGreat
