import Derived.Test.YtpedbdicjgdgkaaGreatZp02
import Derived.Lib.SmallJoins
import Derived.OpenShut
import Derived.Deep.Slices
import Derived.ProofKit
import Derived.Outline
set_option linter.unusedVariables false
set_option linter.unusedSimpArgs false
/- What the row's arguments are: a limit, a slice of limits, a row of numbers, a system. -/
namespace Go.Proofs.YtpedbdicjgdgkaaGreat
open Go Go.RowKit Go.ChangeShapes Go.WideShapes Go.ChangeAt Go.Joins
set_option linter.unusedVariables false

theorem own : ownKnob Tryz.prog.godebug = none := by kernel_rfl
theorem laidOut : laidOutB Tryz.prog = true := by kernel_rfl
/-- A slice of integers that came in: it is nil, or leads to a row of 'cap' cells; the first 'len' are its elements. -/
def IsRow (k : IntKind) (w : World) (a : Option Addr) (len cap : Nat) (zs : List Int) : Prop :=
  (a = none ∧ len = 0 ∧ cap = 0 ∧ zs = []) ∨
  ∃ x, a = some x ∧ len ≤ cap ∧ cap ≤ maxLen ∧ zs.length = cap ∧ (∀ i, i < zs.length → w.cell? (x.add i) = some (.int k (zs.getD i 0))) ∧ ∀ n ∈ zs, (Lit.int k n).wf = true

theorem wf_FB {n : Int} (h : (Lit.int .i64 n).wf = true) : FB n := by
  simp [Lit.wf, IntKind.min, IntKind.max, IntKind.signed, IntKind.bits] at h
  unfold FB; omega

theorem lt_of_cell {w : World} {p : Addr} {v : Value} (h : w.cell? p = some v) : p.block < w.heap.size := by
  rcases Nat.lt_or_ge p.block w.heap.size with hlt | hge
  · exact hlt
  · unfold World.cell? at h; rw [Array.getElem?_eq_none hge] at h; simp at h

theorem isL_of_row {w : World} {a : Option Addr} {len cap : Nat} {zs : List Int} (h : IsRow .i64 w a len cap zs) : IsL w (.slice a len cap) (zs.take len) := by
  rcases h with ⟨rfl, rfl, rfl, rfl⟩ | ⟨x, rfl, hl, hm, hz, hc, hwf⟩
  · exact ⟨none, 0, rfl, Nat.le_refl _, Nat.zero_le _, by simp, fun h => absurd rfl h⟩
  · have hlen : (zs.take len).length = len := by rw [List.length_take]; omega
    refine ⟨some x, cap, by rw [hlen], by omega, hm, fun y hy => wf_FB (hwf y (List.mem_of_mem_take hy)), fun hne => ?_⟩
    have hpos : 0 < len := by
      rcases Nat.eq_zero_or_pos len with h0 | h0
      · subst h0; simp at hne
      · exact h0
    obtain ⟨b, off, spot⟩ := x
    have h0 := hc 0 (by omega)
    have hspot : spot = none := by simpa [Addr.add] using World.cell?_spot h0
    subst hspot
    refine ⟨b, off, rfl, ?_, fun i hi => ?_⟩
    · have := lt_of_cell h0
      simpa [Addr.add] using this
    · have h1 := hc i (by omega)
      have e : (zs.take len)[i]?.getD 0 = zs.getD i 0 := by rw [List.getElem?_take_of_lt (by omega)]; rw [List.getD_eq_getElem?_getD]
      rw [e]
      by_cases hi0 : i = 0
      · subst hi0; simpa [Addr.add] using h1
      · simpa [Addr.add, hi0] using h1

theorem weights_at {H : Type} {P : Program} : ∀ {ts : List TypeId} {ds : List (DataW H)} (_ : (DataW.weightsEach P ts ds).all (· ≤ reachBytes) = true) {j : Nat} {t : TypeId} {d : DataW H} (_ : ts[j]? = some t) (_ : ds[j]? = some d), ∀ x ∈ DataW.weights P t d, x ≤ reachBytes := by
  intro ts ds h j t d ht hd x hx
  have := List.all_eq_true.1 h x (DataW.weights_mem_each ht hd x hx)
  simpa using this

theorem add_flat (b o k : Nat) : (⟨b, o, none⟩ : Addr).add k = ⟨b, o + k, none⟩ := by
  unfold Addr.add
  by_cases h : k = 0
  · subst h; simp
  · simp [h]
theorem bytesI8 : Tryz.prog.bytesOf 3 = 8 := by kernel_rfl
theorem bytesL32 : Tryz.prog.bytesOf 26 = 32 := by kernel_rfl
theorem cellsLim : Tryz.prog.cellsOf 26 = 4 := by kernel_rfl
theorem cellsInt : Tryz.prog.cellsOf 3 = 1 := by kernel_rfl

set_option maxRecDepth 100000 in
/-- A limit's cells. -/
theorem lim_cells {H : Type} {enc : TypeId × Value → H} {W : World} {base fuel : Nat} {sp : Nat → Bool} {held : Bool} {cs : List Value} {x : DataW H × List MemPlace} (h : DataW.trod enc Tryz.prog W base sp held fuel 26 cs = some x) : ∃ l : Lm, cs = lmF l ∧ FL l := by
  obtain ⟨y0, y1, y2, y3, n, hx, hl, h0, h1, h2, h3⟩ := Go.Joins.trod_struct4 Tryz.underlying26 h
  rw [cellsLim] at hl
  match cs, hl with
  | [c0, c1, c2, c3], _ =>
    simp only [cellsInt] at h0 h1 h2 h3
    obtain ⟨z0, e0, _, w0⟩ := DataW.trod_int Tryz.underlying3 h0
    obtain ⟨z1, e1, _, w1⟩ := DataW.trod_int Tryz.underlying3 h1
    obtain ⟨z2, e2, _, w2⟩ := DataW.trod_int Tryz.underlying3 h2
    obtain ⟨z3, e3, _, w3⟩ := DataW.trod_int Tryz.underlying3 h3
    simp at e0 e1 e2 e3
    subst e0; subst e1; subst e2; subst e3
    exact ⟨⟨z0, z1, z2, z3⟩, rfl, wf_FB w0, wf_FB w1, wf_FB w2, wf_FB w3⟩

/-- A row of numbers, its bytes within the reach of the form. -/
theorem row8 {H : Type} {enc : TypeId × Value → H} {W : World} {fuel : Nat} {v : Value} {d : DataW H} {p : List MemPlace} (hf : DataW.trod enc Tryz.prog W 0 (fun _ => true) true fuel 27 [v] = some (d, p))
    (hz : ∀ x ∈ DataW.weights Tryz.prog 27 d, x ≤ reachBytes) : ∃ a n cap xs, v = .slice a n cap ∧ IsL W (.slice a n cap) xs ∧ (0 < n → Nice (.slice a n cap)) ∧ xs.length * 8 ≤ 140737488355328 := by
  rcases open_ints Tryz.underlying27 Tryz.underlying3 (by kernel_rfl) hf with ⟨hcs, _⟩ | ⟨x, l, c, zs, hcs, _, hl, hm, hzs, hd, hcell, hwz⟩
  · simp at hcs
    subst hcs
    exact ⟨none, 0, 0, _, rfl, isL_of_row (zs := []) (.inl ⟨rfl, rfl, rfl, rfl⟩), fun _ => .inl rfl, by simp⟩
  · simp at hcs
    subst hcs
    refine ⟨_, _, _, _, rfl, isL_of_row (zs := zs) (.inr ⟨_, rfl, hl, hm, by simpa using hzs, hcell, hwz⟩), ?_, ?_⟩
    · intro h0
      obtain ⟨b, off, spot⟩ := x
      have h1 := hcell 0 (by simp at hzs; omega)
      have hspot : spot = none := by simpa [Addr.add] using World.cell?_spot h1
      subst hspot
      exact .inr ⟨b, off, l, c, rfl⟩
    · have hd' : d = .slice (lits .i64 (zs.take l)) (lits .i64 (zs.drop l)) := by simpa using congrArg Prod.fst hd
      subst hd'
      have := hz _ (by simp only [DataW.weights, Tryz.underlying27]; exact List.mem_cons_self)
      rw [bytesI8] at this
      simp only [lits, List.length_map, List.length_take, List.length_drop, reachBytes] at this
      simp only [List.length_take]
      simp at hzs
      omega

/-- A slice of limits, its bytes within the reach of the form. -/
theorem rowL {H : Type} {enc : TypeId × Value → H} {W : World} {fuel : Nat} {v : Value} {d : DataW H} {p : List MemPlace} (hf : DataW.trod enc Tryz.prog W 0 (fun _ => true) true fuel 22 [v] = some (d, p))
    (hz : ∀ x ∈ DataW.weights Tryz.prog 22 d, x ≤ reachBytes) : ∃ a n cap ls, v = .slice a n cap ∧ IsS W (.slice a n cap) ls ∧ (0 < n → Nice (.slice a n cap)) ∧ ls.length * 32 ≤ 140737488355328 := by
  rcases Go.Deep.open_slice Tryz.underlying22 hf with ⟨hcs, _⟩ | ⟨a, l, c, m, fu, D, Pl, hcs, _, hl, hm, hmm, hd, hel⟩
  · simp at hcs
    subst hcs
    exact ⟨none, 0, 0, [], rfl, OwL.isS (OwL.nil 0 W) (by simp), fun _ => .inl rfl, by simp⟩
  · simp at hcs
    subst hcs
    have hml : l ≤ m := by rw [hmm]; split <;> omega
    have hch : ∀ i, ∃ y : Lm, i < l → FL y ∧ ∀ r, r < 4 → W.cell? ((a.add (i * 4)).add r) = (lmF y)[r]? := by
      intro i
      by_cases hi : i < l
      · obtain ⟨cs', h1, h2⟩ := hel i (by omega)
        obtain ⟨y, rfl, hy⟩ := lim_cells h2
        rw [cellsLim] at h1
        obtain ⟨_, _, h3⟩ := World.cells?_some h1
        exact ⟨y, fun _ => ⟨hy, h3⟩⟩
      · exact ⟨default, fun h => absurd h hi⟩
    obtain ⟨Y, hY⟩ : ∃ Y : Nat → Lm, ∀ i, i < l → FL (Y i) ∧ ∀ r, r < 4 → W.cell? ((a.add (i * 4)).add r) = (lmF (Y i))[r]? := ⟨fun i => (hch i).choose, fun i => (hch i).choose_spec⟩
    refine ⟨some a, l, c, (List.range l).map Y, rfl, ⟨some a, c, by simp, by simpa using hl, hm, ?_, ?_⟩, ?_, ?_⟩
    · intro y hy
      obtain ⟨i, hi, rfl⟩ := List.mem_map.1 hy
      exact (hY i (List.mem_range.1 hi)).1
    · intro hne
      have hpos : 0 < l := by
        rcases Nat.eq_zero_or_pos l with h0 | h0
        · subst h0; simp at hne
        · exact h0
      obtain ⟨b, off, spot⟩ := a
      have c0 := (hY 0 hpos).2 0 (by omega)
      have c0' : W.cell? (((⟨b, off, spot⟩ : Addr).add (0 * 4)).add 0) = some (.int .i64 (Y 0).a) := c0
      have hspot : spot = none := by simpa [Addr.add] using World.cell?_spot c0'
      subst hspot
      refine ⟨b, off, rfl, ?_, fun i hi => ?_⟩
      · have := lt_of_cell c0'
        simpa [Addr.add] using this
      · have hi' : i < l := by simpa using hi
        have e1 : lmAt ((List.range l).map Y) i = Y i := by simp [lmAt, hi']
        rw [e1]
        have g := (hY i hi').2
        simp only [add_flat] at g
        have g0 := g 0 (by omega); have g1 := g 1 (by omega); have g2 := g 2 (by omega); have g3 := g 3 (by omega)
        refine ⟨?_, ?_, ?_, ?_⟩
        · exact g0
        · exact g1
        · exact g2
        · exact g3
    · intro hpos
      obtain ⟨b, off, spot⟩ := a
      have c0 := (hY 0 hpos).2 0 (by omega)
      have c0' : W.cell? (((⟨b, off, spot⟩ : Addr).add (0 * 4)).add 0) = some (.int .i64 (Y 0).a) := c0
      have hspot : spot = none := by simpa [Addr.add] using World.cell?_spot c0'
      subst hspot
      exact .inr ⟨b, off, l, c, rfl⟩
    · simp only [Prod.mk.injEq] at hd
      obtain ⟨rfl, _⟩ := hd
      have := hz _ (by simp only [DataW.weights, Tryz.underlying22]; exact List.mem_cons_self)
      rw [bytesL32] at this
      simp only [List.length_map, List.length_range, reachBytes] at this
      simp only [List.length_map, List.length_range]
      have e : l + (m - l) = m := by omega
      rw [e] at this
      omega

theorem nice_some {a : Addr} {n c : Nat} (hs : a.spot = none) : Nice (.slice (some a) n c) := by
  obtain ⟨b, off, spot⟩ := a
  have : spot = none := hs
  subst this
  exact .inr ⟨_, _, _, _, rfl⟩
/-- What may stand in a row's cell of a slice's type is nil, or has a plain address. -/
theorem cell_nice {P : Program} {W : World} {r : Reach} {b0 : Nat} {t e : TypeId} {v : Value} (ht : P.underlying t = some (.slice e)) (h : Cell.okWide P W r b0 t v) : Nice v := by
  simp only [Cell.okWide, ht] at h
  unfold Cell.ok at h
  rw [ht] at h
  split at h
  all_goals first
    | exact absurd h id
    | (rename_i h1; cases h1; done)
    | exact .inl rfl
    | skip
  all_goals first
    | (obtain ⟨_, _, _, hs, _⟩ := h; exact nice_some hs)
    | simp_all
theorem val_nice {P : Program} {W : World} {r : Reach} {b0 : Nat} {t e : TypeId} {v : Value} (ht : P.underlying t = some (.slice e)) (h : Value.okWide P W r b0 t v) : Nice v := by
  simp only [Value.okWide, ht] at h
  exact cell_nice ht h
set_option maxRecDepth 100000 in
theorem sys_nice {W : World} {r : Reach} {b0 : Nat} {u v : Value} (h : Value.okWide Tryz.prog W r b0 24 (.agg #[u, v])) : Nice v := by
  simp only [Value.okWide, Tryz.underlying24] at h
  obtain ⟨cs, e, _, ts, hts, _, hc⟩ := h
  cases e
  have e2 : Tryz.prog.cellTypes Tryz.prog.depth 24 = some [3, 22] := by kernel_rfl
  rw [e2] at hts
  cases hts
  obtain ⟨t, h1, h2⟩ := hc 1 v rfl
  have : t = 22 := by simpa using h1.symm
  subst this
  exact cell_nice Tryz.underlying22 h2

set_option maxRecDepth 100000 in
/-- A system that came in. -/
theorem open_sys {H : Type} {enc : TypeId × Value → H} {W : World} {r : Reach} {b0 : Nat} {v : Value} {d : DataW H} {p : List MemPlace} (hv : Value.okWide Tryz.prog W r b0 24 v) (h : DataW.Trod enc Tryz.prog W 0 (fun _ => true) true 24 v d p) (hz : ∀ x ∈ DataW.weights Tryz.prog 24 d, x ≤ reachBytes) :
    ∃ many a n cap ls, v = .agg #[.int .i64 many, .slice a n cap] ∧ IsS W (.slice a n cap) ls ∧ Nice (.slice a n cap) ∧ ls.length * 32 ≤ 140737488355328 := by
  have hv' := hv
  obtain ⟨v0, v1, y0, y1, m, rfl, rfl, _, h0, h1⟩ := open_agg2 Tryz.underlying24 (by kernel_rfl) (by kernel_rfl) hv h
  obtain ⟨z0, e0, _, w0⟩ := DataW.trod_int Tryz.underlying3 h0
  simp at e0
  subst e0
  obtain ⟨d1, p1⟩ := y1
  have hz1 : ∀ x ∈ DataW.weights Tryz.prog 22 d1, x ≤ reachBytes := fun x hx => hz x (by
    simp only [DataW.weights, Tryz.underlying24]
    exact DataW.weights_mem_each (j := 1) (t := 22) rfl rfl x hx)
  obtain ⟨a, n, cap, ls, rfl, hS, _, hb⟩ := rowL h1 hz1
  exact ⟨z0, a, n, cap, ls, rfl, hS, sys_nice hv', hb⟩
set_option maxRecDepth 100000 in
/-- A limit that came in. -/
theorem open_limit {H : Type} {enc : TypeId × Value → H} {W : World} {r : Reach} {b0 : Nat} {v : Value} {d : DataW H} {p : List MemPlace} (hv : Value.okWide Tryz.prog W r b0 26 v) (h : DataW.Trod enc Tryz.prog W 0 (fun _ => true) true 26 v d p) :
    ∃ l : Lm, v = .agg #[.int .i64 l.a, .int .i64 l.b, .int .i64 l.m, .int .i64 l.y] ∧ FL l := by
  obtain ⟨v0, v1, v2, v3, y0, y1, y2, y3, m, rfl, _, _, h0, h1, h2, h3⟩ := open_agg4 Tryz.underlying26 (by kernel_rfl) (by kernel_rfl) hv h
  obtain ⟨z0, e0, _, w0⟩ := DataW.trod_int Tryz.underlying3 h0
  obtain ⟨z1, e1, _, w1⟩ := DataW.trod_int Tryz.underlying3 h1
  obtain ⟨z2, e2, _, w2⟩ := DataW.trod_int Tryz.underlying3 h2
  obtain ⟨z3, e3, _, w3⟩ := DataW.trod_int Tryz.underlying3 h3
  simp at e0 e1 e2 e3
  subst e0; subst e1; subst e2; subst e3
  exact ⟨⟨z0, z1, z2, z3⟩, rfl, wf_FB w0, wf_FB w1, wf_FB w2, wf_FB w3⟩
set_option maxRecDepth 100000 in
/-- A row that came in. -/
theorem open_row8 {H : Type} {enc : TypeId × Value → H} {W : World} {r : Reach} {b0 : Nat} {v : Value} {d : DataW H} {p : List MemPlace} (hv : Value.okWide Tryz.prog W r b0 27 v) (h : DataW.Trod enc Tryz.prog W 0 (fun _ => true) true 27 v d p) (hz : ∀ x ∈ DataW.weights Tryz.prog 27 d, x ≤ reachBytes) :
    ∃ a n cap xs, v = .slice a n cap ∧ IsL W (.slice a n cap) xs ∧ Nice (.slice a n cap) ∧ xs.length * 8 ≤ 140737488355328 := by
  have hn := val_nice Tryz.underlying27 hv
  obtain ⟨a0, len0, cap0, rfl⟩ := okWide_slice Tryz.underlying27 hv
  obtain ⟨fuel, hf⟩ := h
  obtain ⟨a, n, cap, xs, e, h1, _, h3⟩ := row8 hf hz
  cases e
  exact ⟨_, _, _, _, rfl, h1, hn, h3⟩
end Go.Proofs.YtpedbdicjgdgkaaGreat

/- Uses of limits, as lists; slices of them that came in, or that the call made. -/
namespace Go.Proofs.YtpedbdicjgdgkaaGreat
open Go Go.RowKit

structure Us where
  l : Int
  t : Int
instance : Inhabited Us := ⟨⟨0, 0⟩⟩
def FU (u : Us) : Prop := FB u.l ∧ FB u.t
def usAt (us : List Us) (i : Nat) : Us := us[i]?.getD default
def UsC (w : World) (b o : Nat) (u : Us) : Prop :=
  w.cell? ⟨b, o, none⟩ = some (.int .i64 u.l) ∧ w.cell? ⟨b, o + 1, none⟩ = some (.int .i64 u.t)
/-- The slice value v reads as the uses us; its cells lie below block number B. -/
def IsUB (B : Nat) (w : World) (v : Value) (us : List Us) : Prop :=
  ∃ a cap, v = .slice a us.length cap ∧ us.length ≤ cap ∧ cap ≤ maxLen ∧ (∀ u ∈ us, FU u) ∧
    (us ≠ [] → ∃ b off, a = some ⟨b, off, none⟩ ∧ b < B ∧ ∀ i, i < us.length → UsC w b (off + i * 2) (usAt us i))
def IsU (w : World) (v : Value) (us : List Us) : Prop := IsUB w.heap.size w v us

theorem IsUB.keep {B : Nat} {w w' : World} {v : Value} {us : List Us} (h : IsUB B w v us) (hk : ∀ p : Addr, p.block < B → w'.cell? p = w.cell? p) : IsUB B w' v us := by
  obtain ⟨a, cap, hv, h1, h2, h3, h4⟩ := h
  refine ⟨a, cap, hv, h1, h2, h3, fun hne => ?_⟩
  obtain ⟨b, off, ha, hlt, hc⟩ := h4 hne
  refine ⟨b, off, ha, hlt, fun i hi => ?_⟩
  obtain ⟨c1, c2⟩ := hc i hi
  exact ⟨by rw [hk ⟨b, _, none⟩ hlt]; exact c1, by rw [hk ⟨b, _, none⟩ hlt]; exact c2⟩
theorem IsUB.more {B B' : Nat} {w : World} {v : Value} {us : List Us} (h : IsUB B w v us) (hB : B ≤ B') : IsUB B' w v us := by
  obtain ⟨a, cap, hv, h1, h2, h3, h4⟩ := h
  refine ⟨a, cap, hv, h1, h2, h3, fun hne => ?_⟩
  obtain ⟨b, off, ha, hlt, hc⟩ := h4 hne
  exact ⟨b, off, ha, by omega, hc⟩
theorem IsUB.below {B : Nat} {w w' : World} {v : Value} {us : List Us} (h : IsUB B w v us) (hb : Below B w w') : IsUB B w' v us := h.keep fun _ hp => hb.cell hp
theorem IsU.below {w w' : World} {v : Value} {us : List Us} (h : IsU w v us) (hb : Below w.heap.size w w') : IsU w' v us := (IsUB.below h hb).more hb.size
theorem UsC.below {w w' : World} {B b o : Nat} {u : Us} (h : UsC w b o u) (hb : Below B w w') (hlt : b < B) : UsC w' b o u := by
  obtain ⟨h1, h2⟩ := h
  exact ⟨by rw [hb.cell (p := ⟨b, _, none⟩) hlt]; exact h1, by rw [hb.cell (p := ⟨b, _, none⟩) hlt]; exact h2⟩
theorem usAt_FU {us : List Us} (h : ∀ u ∈ us, FU u) {i : Nat} (hi : i < us.length) : FU (usAt us i) := by
  have : usAt us i = us[i] := by simp [usAt, hi]
  rw [this]
  exact h _ (List.getElem_mem hi)
theorem us_take (us : List Us) (k : Nat) (hk : k < us.length) : us.take (k + 1) = us.take k ++ [usAt us k] := by
  have e : us[k] = usAt us k := by simp [usAt, hk]
  rw [List.take_succ_eq_append_getElem hk, e]

theorem infoU : (Tryz.prog.info? 103).map (fun i => (i.zero, i.size, i.bytes)) = some (some (.agg #[.int .i64 0, .int .i64 0]), 2, 16) := by kernel_rfl
def usF (u : Us) : List Value := [.int .i64 u.l, .int .i64 u.t]
def OwU (B : Nat) (w : World) (v : Value) (us : List Us) : Prop := w.ownsRow B 103 2 v us.length (us.flatMap usF)
theorem usF_len (us : List Us) : (us.flatMap usF).length = us.length * 2 := by
  induction us with
  | nil => rfl
  | cons l ls ih => rw [List.flatMap_cons, List.length_append, ih]; simp [usF]; omega
theorem usF_get (us : List Us) : ∀ (i : Nat) (r : Nat), i < us.length → r < 2 → (us.flatMap usF)[i * 2 + r]? = (usF (usAt us i))[r]? := by
  induction us with
  | nil => intro i r h; simp at h
  | cons l ls ih =>
    intro i r hi hr
    rw [List.flatMap_cons]
    cases i with
    | zero =>
      rw [List.getElem?_append_left (by simp [usF]; omega)]
      simp [usAt]
    | succ i =>
      rw [List.getElem?_append_right (by simp [usF]; omega)]
      have : (i + 1) * 2 + r - (usF l).length = i * 2 + r := by simp [usF]; omega
      rw [this, ih i r (by simpa using hi) hr]
      simp [usAt]
theorem usF_one (us : List Us) : ∀ u ∈ us.flatMap usF, u.oneCell' = true := by
  intro u hu
  obtain ⟨l, _, h⟩ := List.mem_flatMap.1 hu
  simp only [usF, List.mem_cons, List.not_mem_nil, or_false] at h
  rcases h with rfl | rfl <;> rfl
theorem OwU.isU {B : Nat} {w : World} {v : Value} {us : List Us} (h : OwU B w v us) (hf : ∀ u ∈ us, FU u) : IsU w v us := by
  have h0 := h
  obtain ⟨h1, h2⟩ := h
  rcases h2 with ⟨rfl, hn⟩ | ⟨g, cap, cur, rfl, hb, hh, hc, hm, hsz, ht⟩
  · exact ⟨none, 0, by rw [hn], by omega, Nat.zero_le _, hf, fun hne => absurd (List.length_eq_zero_iff.1 hn) hne⟩
  · refine ⟨some ⟨g, 0, none⟩, cap, rfl, hc, hm, hf, fun _ => ⟨g, 0, rfl, (World.ownsRow.lt h0 g rfl).2, fun i hi => ?_⟩⟩
    have key : ∀ r, r < 2 → w.cell? ⟨g, 0 + i * 2 + r, none⟩ = (usF (usAt us i))[r]? := fun r hr => by
      rw [Nat.zero_add, World.ownsRow.cellAt h0 _ (by omega)]
      exact usF_get us i r hi hr
    exact ⟨key 0 (by omega), key 1 (by omega)⟩
def SrcU (W : World) (y : Value) (ys : List Us) : Prop := (y = .slice none 0 0 ∧ ys = []) ∨ ∃ b off c, y = .slice (some ⟨b, off, none⟩) ys.length c ∧ ∀ j u, (ys.flatMap usF)[j]? = some u → W.cell? ⟨b, off + j, none⟩ = some u
theorem one_srcU {W : World} {u : Us} {o : Obj} (h : o = .cells #[.int .i64 u.l, .int .i64 u.t] 103) : SrcU (W.alloc o) (.slice (some ⟨W.heap.size, 0, none⟩) 1 1) [u] := by
  subst h
  refine .inr ⟨W.heap.size, 0, 1, rfl, fun j x hj => ?_⟩
  have hj2 : j < 2 := by
    have := (List.getElem?_eq_some_iff.1 hj).1
    simpa [usF] using this
  match j, hj2 with
  | 0, _ => simp [usF] at hj; subst hj; simp
  | 1, _ => simp [usF] at hj; subst hj; simp
theorem catU_w {ops : Array Oper} {rest : List Oper} {o : Oper} {a : Act} {Q : Exit → Act → World → Prop} (hgd : o.guard = none) (s x : Operand)
    (ho : o.op = .call { callee := .builtin .append, args := #[s, x], argTypes := #[52, 52] })
    (B : Nat) (W : World) (v y : Value) (xs ys : List Us) (hown : OwU B W v xs) (hs : a.eval s = v) (hx : a.eval x = y) (hy : SrcU W y ys) (hl : (xs.length + ys.length) * 16 ≤ 140737488355328) (hB : B ≤ W.heap.size)
    (h : ∀ v' w', OwU B w' v' (xs ++ ys) → W.grownBy w' v.ownBlock → (v'.ownBlock = v.ownBlock ∨ v'.ownBlock = some W.heap.size) → (0 < xs.length + ys.length → ∃ g c, v' = .slice (some ⟨g, 0, none⟩) (xs.length + ys.length) c) → wpList Tryz.prog ops Q rest (a.put o.dst v') w') :
    wpList Tryz.prog ops Q (o :: rest) a W := by
  obtain ⟨i0, hi, hz0, hz1, hz2⟩ := info_parts infoU
  refine cat_g hgd s x 52 103 i0 _ 2 16 ho Tryz.underlying52 hi hz0 hz1 hz2 rfl (by decide) B W v xs.length (xs.flatMap usF) hs hown y ys.length (ys.flatMap usF) hx (hy.imp (fun h => ⟨h.1, by rw [h.2]; rfl⟩) id) (usF_len ys) (usF_one ys) (by decide) hl hB ?_
  intro v' w' h1 h2 h3 h4
  refine h v' w' ?_ h2 h3 h4
  unfold OwU
  rw [List.length_append, List.flatMap_append]
  exact h1
theorem OwU.nil (B : Nat) (w : World) : OwU B w (.slice none 0 0) [] := World.ownsRow_nil _ _ _ _
end Go.Proofs.YtpedbdicjgdgkaaGreat

/- What the row's arguments are: a proof with sources. -/
namespace Go.Proofs.YtpedbdicjgdgkaaGreat
open Go Go.RowKit Go.ChangeShapes Go.WideShapes Go.ChangeAt Go.Joins
set_option linter.unusedVariables false

theorem cellsUse : Tryz.prog.cellsOf 103 = 2 := by kernel_rfl
theorem cellsPrf : Tryz.prog.cellsOf 54 = 2 := by kernel_rfl
theorem cellsUses : Tryz.prog.cellsOf 52 = 1 := by kernel_rfl
theorem cellsInts : Tryz.prog.cellsOf 27 = 1 := by kernel_rfl
theorem cellsLpf : Tryz.prog.cellsOf 60 = 3 := by kernel_rfl
theorem bytesU16 : Tryz.prog.bytesOf 103 = 16 := by kernel_rfl

set_option maxRecDepth 100000 in
/-- A use's cells. -/
theorem use_cells {H : Type} {enc : TypeId × Value → H} {W : World} {base fuel : Nat} {sp : Nat → Bool} {held : Bool} {cs : List Value} {x : DataW H × List MemPlace} (h : DataW.trod enc Tryz.prog W base sp held fuel 103 cs = some x) : ∃ u : Us, cs = usF u ∧ FU u := by
  obtain ⟨y0, y1, n, hx, hl, h0, h1⟩ := trod_struct2 Tryz.underlying103 h
  rw [cellsUse] at hl
  match cs, hl with
  | [c0, c1], _ =>
    simp only [cellsInt] at h0 h1
    obtain ⟨z0, e0, _, w0⟩ := DataW.trod_int Tryz.underlying3 h0
    obtain ⟨z1, e1, _, w1⟩ := DataW.trod_int Tryz.underlying3 h1
    simp at e0 e1
    subst e0; subst e1
    exact ⟨⟨z0, z1⟩, rfl, wf_FB w0, wf_FB w1⟩

/-- A slice of uses, its bytes within the reach of the form. -/
theorem rowU {H : Type} {enc : TypeId × Value → H} {W : World} {fuel : Nat} {v : Value} {d : DataW H} {p : List MemPlace} (hf : DataW.trod enc Tryz.prog W 0 (fun _ => true) true fuel 52 [v] = some (d, p))
    (hz : ∀ x ∈ DataW.weights Tryz.prog 52 d, x ≤ reachBytes) : ∃ a n cap us, v = .slice a n cap ∧ IsU W (.slice a n cap) us ∧ us.length * 16 ≤ 140737488355328 := by
  rcases Go.Deep.open_slice Tryz.underlying52 hf with ⟨hcs, _⟩ | ⟨a, l, c, m, fu, D, Pl, hcs, _, hl, hm, hmm, hd, hel⟩
  · simp at hcs
    subst hcs
    exact ⟨none, 0, 0, [], rfl, OwU.isU (OwU.nil 0 W) (by simp), by simp⟩
  · simp at hcs
    subst hcs
    have hml : l ≤ m := by rw [hmm]; split <;> omega
    have hch : ∀ i, ∃ y : Us, i < l → FU y ∧ ∀ r, r < 2 → W.cell? ((a.add (i * 2)).add r) = (usF y)[r]? := by
      intro i
      by_cases hi : i < l
      · obtain ⟨cs', h1, h2⟩ := hel i (by omega)
        obtain ⟨y, rfl, hy⟩ := use_cells h2
        rw [cellsUse] at h1
        obtain ⟨_, _, h3⟩ := World.cells?_some h1
        exact ⟨y, fun _ => ⟨hy, h3⟩⟩
      · exact ⟨default, fun h => absurd h hi⟩
    obtain ⟨Y, hY⟩ : ∃ Y : Nat → Us, ∀ i, i < l → FU (Y i) ∧ ∀ r, r < 2 → W.cell? ((a.add (i * 2)).add r) = (usF (Y i))[r]? := ⟨fun i => (hch i).choose, fun i => (hch i).choose_spec⟩
    refine ⟨some a, l, c, (List.range l).map Y, rfl, ⟨some a, c, by simp, by simpa using hl, hm, ?_, ?_⟩, ?_⟩
    · intro y hy
      obtain ⟨i, hi, rfl⟩ := List.mem_map.1 hy
      exact (hY i (List.mem_range.1 hi)).1
    · intro hne
      have hpos : 0 < l := by
        rcases Nat.eq_zero_or_pos l with h0 | h0
        · subst h0; simp at hne
        · exact h0
      obtain ⟨b, off, spot⟩ := a
      have c0 := (hY 0 hpos).2 0 (by omega)
      have c0' : W.cell? (((⟨b, off, spot⟩ : Addr).add (0 * 2)).add 0) = some (.int .i64 (Y 0).l) := c0
      have hspot : spot = none := by simpa [Addr.add] using World.cell?_spot c0'
      subst hspot
      refine ⟨b, off, rfl, ?_, fun i hi => ?_⟩
      · have := lt_of_cell c0'
        simpa [Addr.add] using this
      · have hi' : i < l := by simpa using hi
        have e1 : usAt ((List.range l).map Y) i = Y i := by simp [usAt, hi']
        rw [e1]
        have g := (hY i hi').2
        simp only [add_flat] at g
        have g0 := g 0 (by omega); have g1 := g 1 (by omega)
        exact ⟨g0, g1⟩
    · simp only [Prod.mk.injEq] at hd
      obtain ⟨rfl, _⟩ := hd
      have := hz _ (by simp only [DataW.weights, Tryz.underlying52]; exact List.mem_cons_self)
      rw [bytesU16] at this
      simp only [List.length_map, List.length_range, reachBytes] at this
      simp only [List.length_map, List.length_range]
      have e : l + (m - l) = m := by omega
      rw [e] at this
      omega
set_option maxRecDepth 100000 in
theorem lpf_nice {W : World} {r : Reach} {b0 : Nat} {t u v : Value} (h : Value.okWide Tryz.prog W r b0 60 (.agg #[t, u, v])) : Nice v := by
  simp only [Value.okWide, Tryz.underlying60] at h
  obtain ⟨cs, e, _, ts, hts, _, hc⟩ := h
  cases e
  have e2 : Tryz.prog.cellTypes Tryz.prog.depth 60 = some [3, 52, 27] := by kernel_rfl
  rw [e2] at hts
  cases hts
  obtain ⟨t, h1, h2⟩ := hc 2 v rfl
  have : t = 27 := by simpa using h1.symm
  subst this
  exact cell_nice Tryz.underlying27 h2

set_option maxRecDepth 100000 in
/-- A proof with sources that came in. -/
theorem open_proof {H : Type} {enc : TypeId × Value → H} {W : World} {r : Reach} {b0 : Nat} {v : Value} {d : DataW H} {p : List MemPlace} (hv : Value.okWide Tryz.prog W r b0 60 v) (h : DataW.Trod enc Tryz.prog W 0 (fun _ => true) true 60 v d p) (hz : ∀ x ∈ DataW.weights Tryz.prog 60 d, x ≤ reachBytes) :
    ∃ B a n cap us ab nb cb ys, v = .agg #[.int .i64 B, .slice a n cap, .slice ab nb cb] ∧ IsU W (.slice a n cap) us ∧ us.length * 16 ≤ 140737488355328 ∧ IsL W (.slice ab nb cb) ys ∧ Nice (.slice ab nb cb) ∧ ys.length * 8 ≤ 140737488355328 := by
  have hv' := hv
  obtain ⟨cs, rfl, hsz⟩ := okWide_struct Tryz.underlying60 hv
  rw [cellsLpf] at hsz
  obtain ⟨c0, c1, c2, rfl⟩ := array3 hsz
  obtain ⟨fuel, hf⟩ := h
  change DataW.trod _ _ _ _ _ _ _ _ [c0, c1, c2] = _ at hf
  obtain ⟨y0, y1, m, hx, _, h0, h1⟩ := trod_struct2 Tryz.underlying60 hf
  simp only [cellsPrf, cellsInts] at h0 h1
  obtain ⟨x0, x1, m', hx', _, k0, k1⟩ := trod_struct2 Tryz.underlying54 h0
  simp only [cellsUses, cellsInt] at k0 k1
  obtain ⟨z0, e0, _, w0⟩ := DataW.trod_int Tryz.underlying3 k0
  simp at e0
  subst e0
  simp only [Prod.mk.injEq] at hx
  obtain ⟨rfl, rfl⟩ := hx
  have hz0 : ∀ x ∈ DataW.weights Tryz.prog 54 y0.1, x ≤ reachBytes := fun x hx => hz x (by
    simp only [DataW.weights, Tryz.underlying60]
    exact DataW.weights_mem_each (j := 0) (t := 54) rfl rfl x hx)
  have hz1 : ∀ x ∈ DataW.weights Tryz.prog 27 y1.1, x ≤ reachBytes := fun x hx => hz x (by
    simp only [DataW.weights, Tryz.underlying60]
    exact DataW.weights_mem_each (j := 1) (t := 27) rfl rfl x hx)
  rw [hx'] at hz0
  have hz2 : ∀ x ∈ DataW.weights Tryz.prog 52 x1.1, x ≤ reachBytes := fun x hx => hz0 x (by
    simp only [DataW.weights, Tryz.underlying54]
    exact DataW.weights_mem_each (j := 1) (t := 52) rfl rfl x hx)
  obtain ⟨a, n, cap, us, e1, hU, hb⟩ := rowU (v := c1) (d := x1.1) (p := x1.2) (by simpa using k1) hz2
  obtain ⟨ab, nb, cb, ys, e2, hL, _, hb2⟩ := row8 (v := c2) (d := y1.1) (p := y1.2) (by simpa using h1) hz1
  subst e1; subst e2
  exact ⟨z0, a, n, cap, us, ab, nb, cb, ys, rfl, hU, hb, hL, lpf_nice hv', hb2⟩
end Go.Proofs.YtpedbdicjgdgkaaGreat

/- What a proof is, as lists say it. -/
namespace Go.Proofs.YtpedbdicjgdgkaaGreat
open Go Go.RowKit

/-- Whether the sizes of numbers add up to no more than what is left. -/
def szd : Int → List Int → Bool
  | _, [] => true
  | left, n :: w => if -left ≤ n ∧ n ≤ left then szd (left - (max n (-n))) w else false
/-- The weights of a system: 0, or the error's number. -/
def ckW (many : Int) (ls : List Lm) (ws : List Int) : Int := if ckS many ls = 0 then (if (ws.length : Int) = many + 1 ∧ szd 3600000000000 ws = true then 0 else 27) else ckS many ls
/-- The limits that uses take are some, rising; how often is said; before: the index ahead; all: how often so far. -/
def uok (m : Int) : Int → Int → List Us → Bool
  | _, _, [] => true
  | before, all, u :: us => if before + 1 ≤ u.l ∧ u.l ≤ m - 1 ∧ 1 ≤ u.t ∧ u.t ≤ 3600000000000 ∧ all + u.t ≤ 230400000000000 then uok m u.l (all + u.t) us else false
def lmI (ls : List Lm) (i : Int) : Lm := lmAt ls i.toNat
/-- What flows into an unknown. -/
def one (ls : List Lm) (u : Us) (i : Int) : Int := (if (lmI ls u.l).b = i then u.t else 0) - (if (lmI ls u.l).a = i then u.t else 0)
def ufl (ls : List Lm) (us : List Us) (i : Int) : Int := (us.map fun u => one ls u i).sum
def bnd (ls : List Lm) (us : List Us) : Int := (us.map fun u => u.t * (lmI ls u.l).m).sum
def alls (us : List Us) : Int := (us.map Us.t).sum
def flows (many : Int) (ls : List Lm) (ws : List Int) (us : List Us) : Bool := (List.range ws.length).all fun i => i == 0 || decide (ufl ls us (i : Int) = ws[i]?.getD 0)
/-- Whether a proof shows its bound: 0, or the error's number. -/
def ckP (many : Int) (ls : List Lm) (ws : List Int) (B : Int) (us : List Us) : Int :=
  if ckW many ls ws = 0 then (if us.length ≤ 400 ∧ uok ls.length (-1) 0 us = true ∧ bnd ls us = B ∧ flows many ls ws us = true then 0 else 24) else ckW many ls ws

theorem szd_cons (left n : Int) (w : List Int) (h : -left ≤ n ∧ n ≤ left) : szd left (n :: w) = szd (left - max n (-n)) w := by rw [szd, if_pos h]
theorem szd_no (left n : Int) (w : List Int) (h : ¬ (-left ≤ n ∧ n ≤ left)) : szd left (n :: w) = false := by rw [szd, if_neg h]
theorem drop_at (xs : List Int) (k : Nat) (hk : k < xs.length) : xs.drop k = (xs[k]?.getD 0) :: xs.drop (k + 1) := by
  rw [List.drop_eq_getElem_cons hk]; simp [hk]
theorem us_drop (us : List Us) (k : Nat) (hk : k < us.length) : us.drop k = usAt us k :: us.drop (k + 1) := by
  rw [List.drop_eq_getElem_cons hk]; simp [usAt, hk]
theorem szd_size : ∀ (w : List Int) (left : Int), szd left w = true → ∀ n ∈ w, -left ≤ n ∧ n ≤ left := by
  intro w
  induction w with
  | nil => intro left _ n hn; simp at hn
  | cons x w ih =>
    intro left h n hn
    by_cases hx : -left ≤ x ∧ x ≤ left
    · rw [szd_cons _ _ _ hx] at h
      rcases List.mem_cons.1 hn with rfl | hn
      · exact hx
      · have := ih _ h n hn; omega
    · rw [szd_no _ _ _ hx] at h; cases h
theorem uok_cons (m before all : Int) (u : Us) (us : List Us) (h : before + 1 ≤ u.l ∧ u.l ≤ m - 1 ∧ 1 ≤ u.t ∧ u.t ≤ 3600000000000 ∧ all + u.t ≤ 230400000000000) : uok m before all (u :: us) = uok m u.l (all + u.t) us := by rw [uok, if_pos h]
theorem uok_no (m before all : Int) (u : Us) (us : List Us) (h : ¬ (before + 1 ≤ u.l ∧ u.l ≤ m - 1 ∧ 1 ≤ u.t ∧ u.t ≤ 3600000000000 ∧ all + u.t ≤ 230400000000000)) : uok m before all (u :: us) = false := by rw [uok, if_neg h]
theorem ufl_snoc (ls : List Lm) (us : List Us) (u : Us) (i : Int) : ufl ls (us ++ [u]) i = ufl ls us i + one ls u i := by simp [ufl]
theorem bnd_snoc (ls : List Lm) (us : List Us) (u : Us) : bnd ls (us ++ [u]) = bnd ls us + u.t * (lmI ls u.l).m := by simp [bnd]
theorem alls_snoc (us : List Us) (u : Us) : alls (us ++ [u]) = alls us + u.t := by simp [alls]
/-- What flows is at most what is taken. -/
theorem ufl_le (ls : List Lm) (us : List Us) (h : ∀ u ∈ us, 0 ≤ u.t) (i : Int) : -(alls us) ≤ ufl ls us i ∧ ufl ls us i ≤ alls us := by
  induction us with
  | nil => simp [ufl, alls]
  | cons u us ih =>
    have h1 := ih fun x hx => h x (List.mem_cons_of_mem _ hx)
    have h2 := h u List.mem_cons_self
    have h3 : -u.t ≤ one ls u i ∧ one ls u i ≤ u.t := by unfold one; split <;> split <;> omega
    have e1 : ufl ls (u :: us) i = one ls u i + ufl ls us i := by simp [ufl]
    have e2 : alls (u :: us) = u.t + alls us := by simp [alls]
    omega
theorem bnd_le (ls : List Lm) (us : List Us) (h : ∀ u ∈ us, 0 ≤ u.t) (hm : ∀ u ∈ us, -20000 ≤ (lmI ls u.l).m ∧ (lmI ls u.l).m ≤ 20000) : -(alls us * 20000) ≤ bnd ls us ∧ bnd ls us ≤ alls us * 20000 := by
  induction us with
  | nil => simp [bnd, alls]
  | cons u us ih =>
    have h1 := ih (fun x hx => h x (List.mem_cons_of_mem _ hx)) (fun x hx => hm x (List.mem_cons_of_mem _ hx))
    have h2 := h u List.mem_cons_self
    obtain ⟨h3, h4⟩ := hm u List.mem_cons_self
    have e1 : bnd ls (u :: us) = u.t * (lmI ls u.l).m + bnd ls us := by simp [bnd]
    have e2 : alls (u :: us) = u.t + alls us := by simp [alls]
    have h5 : u.t * (lmI ls u.l).m ≤ u.t * 20000 := Int.mul_le_mul_of_nonneg_left h4 h2
    have h6 : u.t * (-20000) ≤ u.t * (lmI ls u.l).m := Int.mul_le_mul_of_nonneg_left h3 h2
    omega
/-- In a valid system each limit is in its bounds. -/
theorem ckL_in {many : Int} {l : Lm} (h : ckL many l = 0) : 0 ≤ many ∧ many ≤ 64 ∧ 0 ≤ l.a ∧ l.a ≤ many ∧ 0 ≤ l.b ∧ l.b ≤ many ∧ -20000 ≤ l.m ∧ l.m ≤ 20000 ∧ 1 ≤ l.y ∧ l.y ≤ 99999 := by
  unfold ckL at h
  split at h
  · rename_i h'
    simp [inB] at h'
    omega
  · cases h
theorem ckS_in {many : Int} {ls : List Lm} (h : ckS many ls = 0) : 0 ≤ many ∧ many ≤ 64 ∧ ls.length ≤ 400 ∧ ∀ l ∈ ls, ckL many l = 0 := by
  unfold ckS at h
  split at h
  · rename_i h1
    simp [inB] at h1
    split at h
    · cases h
    · rename_i h2
      split at h
      · rename_i h3
        refine ⟨h1.1, h1.2, by omega, fun l hl => ?_⟩
        have := List.all_eq_true.1 h3 l hl
        simpa using this
      · cases h
  · cases h
theorem lmI_mem {ls : List Lm} {i : Int} (h0 : 0 ≤ i) (h1 : i ≤ (ls.length : Int) - 1) : lmI ls i ∈ ls := by
  unfold lmI lmAt
  have : i.toNat < ls.length := by omega
  simp [this]
theorem ckW_ok {many : Int} {ls : List Lm} {ws : List Int} (h : ckW many ls ws = 0) : ckS many ls = 0 ∧ (ws.length : Int) = many + 1 ∧ szd 3600000000000 ws = true := by
  unfold ckW at h
  split at h
  · rename_i h1
    split at h
    · rename_i h2; exact ⟨h1, h2⟩
    · cases h
  · rename_i h1; exact absurd h h1
end Go.Proofs.YtpedbdicjgdgkaaGreat

/- Whether the sizes of weights add up to no more than they may: both sides. -/
namespace Go.Proofs.YtpedbdicjgdgkaaGreat
open Go Go.RowKit

theorem max_size {n : Int} : max n (-n) = if 0 ≤ n then n else -n := by rw [Int.max_def]; split <;> split <;> omega
theorem IsL.fb {w : World} {v : Value} {xs : List Int} (h : IsL w v xs) : ∀ x ∈ xs, FB x := by obtain ⟨_, _, _, _, _, h3, _⟩ := h; exact h3
set_option maxRecDepth 100000 in
set_option maxHeartbeats 1000000 in
theorem weighs_w (a : Option Addr) (n cap : Nat) (xs : List Int) (w : World) (h : IsL w (.slice a n cap) xs) :
    Calls Tryz.prog 78 #[.slice a n cap] w fun e w' => e = .returned (.bool (szd 3600000000000 xs)) ∧ w = w' := by
  have HFB := hide h.fb
  obtain ⟨a', cap', hv, h1, h2, h3, h4⟩ := h
  cases hv
  unfold maxLen at h2
  clear h3
  go_enter Tryz.func78, Tryz.ntmps78
  go_wp2
  go_loop [3, 8] (fun l i => ∃ (k : Nat) (L : Int), l = .int .i64 L ∧ i = .int .i64 k ∧ k ≤ xs.length ∧ 0 ≤ L ∧ L ≤ 3600000000000 ∧ Hid (szd 3600000000000 xs = szd L (xs.drop k))) (fun _ i => xs.length - (intOf i).toNat)
  case atStart => exact ⟨0, 3600000000000, rfl, rfl, Nat.zero_le _, by decide, by decide, hide (by simp)⟩
  case round =>
    obtain ⟨k, L, rfl, rfl, hk, hL0, hL1, hall⟩ := hrel
    by_cases hlt : k < xs.length
    · obtain ⟨b, off, rfl, hbl, hc⟩ := h4 (by intro h; subst h; simp at hlt)
      have hck := hc k hlt
      obtain ⟨x, hx⟩ : ∃ x, xs[k]?.getD 0 = x := ⟨_, rfl⟩
      have HD : Hid (xs.drop k = x :: xs.drop (k + 1)) := by show _ = _; rw [drop_at xs k hlt, hx]
      have hxb : FB x := by have := HFB.out xs[k] (List.getElem_mem hlt); have e : xs[k] = x := by rw [← hx]; simp [hlt]
                            rw [e] at this; exact this
      rw [hx] at hck
      clear hx hc
      by_cases hr : -L ≤ x ∧ x ≤ L
      · have hin := fun w => hide (inside_w (inB_t hr) w)
        by_cases h0 : 0 ≤ x
        · have HN : Hid (szd 3600000000000 xs = szd (L - x) (xs.drop (k + 1))) := by show _ = _; rw [hall.out, HD.out, szd_cons _ _ _ hr, max_size, if_pos h0]
          have hm1 : max x (-x) = x := by rw [max_size, if_pos h0]
          clear hall HD
          obtain ⟨hr1, hr2⟩ := hr
          obtain ⟨hf1, hf2⟩ := hxb
          go_wp2_with (go_at_call 63; refine (hin _).out.mono ?_; rintro e w1 ⟨rfl, rfl⟩)
          go_round
          case rel => exact ⟨k + 1, L - x, by go_num, by go_num, by omega, by omega, by omega, HN⟩
          case measure => simp [intOf]; omega
        · have HN : Hid (szd 3600000000000 xs = szd (L + x) (xs.drop (k + 1))) := by show _ = _; rw [hall.out, HD.out, szd_cons _ _ _ hr, max_size, if_neg h0]; congr 1; omega
          clear hall HD
          obtain ⟨hr1, hr2⟩ := hr
          obtain ⟨hf1, hf2⟩ := hxb
          go_wp2_with (go_at_call 63; refine (hin _).out.mono ?_; rintro e w1 ⟨rfl, rfl⟩)
          go_round
          case rel => exact ⟨k + 1, L + x, by go_num, by go_num, by omega, by omega, by omega, HN⟩
          case measure => simp [intOf]; omega
      · have HN : Hid (szd 3600000000000 xs = false) := by show _ = _; rw [hall.out, HD.out, szd_no _ _ _ hr]
        have hin := fun w => hide (inside_w (inB_f hr) w)
        clear hall HD hr
        go_wp2_with (go_at_call 63; refine (hin _).out.mono ?_; rintro e w1 ⟨rfl, rfl⟩)
        go_ret
        exact ⟨ret_bool HN.out.symm, rfl⟩
    · have hkl : k = xs.length := by omega
      have HN : Hid (szd 3600000000000 xs = true) := by show _ = _; rw [hall.out, List.drop_eq_nil_of_le (by omega)]; rfl
      clear hkl hall
      go_wp2
      go_ret
      exact ⟨ret_bool HN.out.symm, rfl⟩
set_option maxRecDepth 100000 in
set_option maxHeartbeats 1000000 in
theorem sized_w (a : Option Addr) (n cap : Nat) (xs : List Int) (w : World) (h : IsL w (.slice a n cap) xs) :
    Calls Tryz.prog 80 #[.slice a n cap] w fun e w' => e = .returned (.bool (szd 3600000000000 xs)) ∧ w = w' := by
  have HFB := hide h.fb
  obtain ⟨a', cap', hv, h1, h2, h3, h4⟩ := h
  cases hv
  unfold maxLen at h2
  clear h3
  go_enter Tryz.func80, Tryz.ntmps80
  go_wp2
  go_loop [3, 8] (fun l i => ∃ (k : Nat) (L : Int), l = .int .i64 L ∧ i = .int .i64 k ∧ k ≤ xs.length ∧ 0 ≤ L ∧ L ≤ 3600000000000 ∧ Hid (szd 3600000000000 xs = szd (3600000000000 - L) (xs.drop k))) (fun _ i => xs.length - (intOf i).toNat)
  case atStart => exact ⟨0, 0, rfl, rfl, Nat.zero_le _, by decide, by decide, hide (by simp)⟩
  case round =>
    obtain ⟨k, L, rfl, rfl, hk, hL0, hL1, hall⟩ := hrel
    by_cases hlt : k < xs.length
    · obtain ⟨b, off, rfl, hbl, hc⟩ := h4 (by intro h; subst h; simp at hlt)
      have hck := hc k hlt
      obtain ⟨x, hx⟩ : ∃ x, xs[k]?.getD 0 = x := ⟨_, rfl⟩
      have HD : Hid (xs.drop k = x :: xs.drop (k + 1)) := by show _ = _; rw [drop_at xs k hlt, hx]
      have hxb : FB x := by have := HFB.out xs[k] (List.getElem_mem hlt); have e : xs[k] = x := by rw [← hx]; simp [hlt]
                            rw [e] at this; exact this
      rw [hx] at hck
      clear hx hc
      obtain ⟨hf1, hf2⟩ := hxb
      by_cases q1 : x < -3600000000000
      · have HN : Hid (szd 3600000000000 xs = false) := by show _ = _; rw [hall.out, HD.out, szd_no _ _ _ (by omega)]
        clear hall HD
        go_wp2
        go_ret
        exact ⟨ret_bool HN.out.symm, rfl⟩
      by_cases q2 : 3600000000000 < x
      · have HN : Hid (szd 3600000000000 xs = false) := by show _ = _; rw [hall.out, HD.out, szd_no _ _ _ (by omega)]
        clear hall HD
        go_wp2
        go_ret
        exact ⟨ret_bool HN.out.symm, rfl⟩
      by_cases h0 : 0 ≤ x
      · by_cases hr : L + x ≤ 3600000000000
        · have HN : Hid (szd 3600000000000 xs = szd (3600000000000 - (L + x)) (xs.drop (k + 1))) := by show _ = _; rw [hall.out, HD.out, szd_cons _ _ _ (by omega), max_size, if_pos h0]; congr 1; omega
          clear hall HD
          go_wp2
          go_round
          case rel => exact ⟨k + 1, L + x, by go_num, by go_num, by omega, by omega, by omega, HN⟩
          case measure => simp [intOf]; omega
        · have HN : Hid (szd 3600000000000 xs = false) := by show _ = _; rw [hall.out, HD.out, szd_no _ _ _ (by omega)]
          clear hall HD
          go_wp2
          go_ret
          exact ⟨ret_bool HN.out.symm, rfl⟩
      · by_cases hr : L - x ≤ 3600000000000
        · have HN : Hid (szd 3600000000000 xs = szd (3600000000000 - (L - x)) (xs.drop (k + 1))) := by show _ = _; rw [hall.out, HD.out, szd_cons _ _ _ (by omega), max_size, if_neg h0]; congr 1; omega
          clear hall HD
          go_wp2
          go_round
          case rel => exact ⟨k + 1, L - x, by go_num, by go_num, by omega, by omega, by omega, HN⟩
          case measure => simp [intOf]; omega
        · have HN : Hid (szd 3600000000000 xs = false) := by show _ = _; rw [hall.out, HD.out, szd_no _ _ _ (by omega)]
          clear hall HD
          go_wp2
          go_ret
          exact ⟨ret_bool HN.out.symm, rfl⟩
    · have hkl : k = xs.length := by omega
      have HN : Hid (szd 3600000000000 xs = true) := by show _ = _; rw [hall.out, List.drop_eq_nil_of_le (by omega)]; rfl
      clear hkl hall
      go_wp2
      go_ret
      exact ⟨ret_bool HN.out.symm, rfl⟩
end Go.Proofs.YtpedbdicjgdgkaaGreat

/- A row of the call's own, its cells by a function; whether no number's size is above a greatest one. -/
namespace Go.Proofs.YtpedbdicjgdgkaaGreat
open Go Go.RowKit

/-- Block g holds n numbers, by a function. -/
structure RowF (w : World) (g n : Nat) (f : Nat → Int) : Prop where
  c : ∀ j, j < n → w.cell? ⟨g, j, none⟩ = some (.int .i64 (f j))
  z : ∀ j, w.frozen? ⟨g, j, none⟩ = false
def upd (f : Nat → Int) (i : Nat) (x : Int) : Nat → Int := fun j => if j = i then x else f j
theorem RowF.set {w : World} {g n : Nat} {f : Nat → Int} (h : RowF w g n f) (i : Nat) (x : Int) (hi : i < n) : RowF (w.setCell ⟨g, i, none⟩ (.int .i64 x)) g n (upd f i x) := by
  refine ⟨fun j hj => ?_, fun j => ?_⟩
  · by_cases hji : j = i
    · subst hji
      rw [World.cell?_setCell_same (h := h.c j hj)]; simp [upd]
    · rw [World.cell?_setCell_other (h := by intro e; injection e with e1 e2 e3; exact hji e2.symm)]
      simp only [upd, if_neg hji]; exact h.c j hj
  · rw [World.frozen?_setCell]; exact h.z j
theorem RowF.keep {w w' : World} {g n : Nat} {f : Nat → Int} (h : RowF w g n f) (hb : Below w.heap.size w w') (hg : g < w.heap.size) : RowF w' g n f :=
  ⟨fun j hj => (hb.cell (p := ⟨g, j, none⟩) hg).trans (h.c j hj), fun j => (hb.frozen (p := ⟨g, j, none⟩) hg).trans (h.z j)⟩
theorem RowF.cong {w : World} {g n : Nat} {f f' : Nat → Int} (h : RowF w g n f) (he : ∀ j, j < n → f j = f' j) : RowF w g n f' :=
  ⟨fun j hj => by rw [← he j hj]; exact h.c j hj, h.z⟩
theorem RowF.far {w : World} {g n : Nat} {f : Nat → Int} (h : RowF w g n f) {p : Addr} (hp : p.block ≠ g) (u : Value) : RowF (w.setCell p u) g n f :=
  ⟨fun j hj => by rw [World.cell?_setCell_other (h := by intro e; rw [e] at hp; exact hp rfl)]; exact h.c j hj, fun j => by rw [World.frozen?_setCell]; exact h.z j⟩
theorem RowF.isL {w : World} {g n cap : Nat} {f : Nat → Int} (h : RowF w g n f) (hg : g < w.heap.size) (hcap : n ≤ cap) (hm : cap ≤ maxLen) (hf : ∀ j, j < n → FB (f j)) (k : Nat) (hk : k ≤ n) :
    IsL w (.slice (some ⟨g, k, none⟩) (n - k) (cap - k)) ((List.range (n - k)).map fun j => f (k + j)) := by
  refine ⟨some ⟨g, k, none⟩, cap - k, by simp, by simp; omega, by omega, ?_, fun _ => ⟨g, k, rfl, hg, fun i hi => ?_⟩⟩
  · intro x hx
    obtain ⟨j, hj, rfl⟩ := List.mem_map.1 hx
    exact hf _ (by have := List.mem_range.1 hj; omega)
  · simp only [List.length_map, List.length_range] at hi
    rw [h.c _ (by omega)]
    simp [hi]
theorem RowF.own {B : Nat} {w : World} {g n c : Nat} {xs : List Int} (h : OwI B w (.slice (some ⟨g, 0, none⟩) n c) xs) (hn : n = xs.length) : RowF w g xs.length (fun j => xs[j]?.getD 0) := by
  subst hn
  have h0 := h
  obtain ⟨h1, h2⟩ := h
  rcases h2 with ⟨e, _⟩ | ⟨g', cap, cur, e, hb, hh, hc, hm, hsz, ht⟩
  · cases e
  · injection e with e1 e2 e3
    injection e1 with e1
    injection e1 with e1 _ _
    subst e1
    refine ⟨fun j hj => ?_, fun j => ?_⟩
    · rw [World.ownsRow.cellAt h0 _ (by omega)]; simp [hj]
    · simp [World.frozen?, hh]

set_option maxHeartbeats 1000000 in
theorem allInside_w (a : Option Addr) (n cap : Nat) (xs : List Int) (m : Int) (hm0 : -9223372036854775808 < m) (hm1 : m ≤ 9223372036854775807) (w : World) (h : IsL w (.slice a n cap) xs) :
    Calls Tryz.prog 79 #[.slice a n cap, .int .i64 m] w fun e w' => e = .returned (.bool (xs.all (inB (-m) m))) ∧ w = w' := by
  obtain ⟨a', cap', hv, h1, h2, h3, h4⟩ := h
  cases hv
  unfold maxLen at h2
  clear h3
  go_enter Tryz.func79, Tryz.ntmps79
  go_wp2
  go_loop [9] (fun i => ∃ k : Nat, i = .int .i64 k ∧ k ≤ xs.length ∧ Hid ((xs.take k).all (inB (-m) m) = true)) (fun i => xs.length - (intOf i).toNat)
  case atStart => exact ⟨0, rfl, Nat.zero_le _, hide (by simp)⟩
  case round =>
    obtain ⟨k, rfl, hk, hall⟩ := hrel
    by_cases hlt : k < xs.length
    · obtain ⟨b, off, rfl, hbl, hc⟩ := h4 (by intro h; subst h; simp at hlt)
      have hck := hc k hlt
      have hx : xs[k]?.getD 0 = xs[k] := by simp [hlt]
      rw [hx] at hck
      obtain ⟨x, hxk⟩ : ∃ x, xs[k] = x := ⟨_, rfl⟩
      rw [hxk] at hck
      clear hx hc
      have HX := hide hxk; clear hxk
      cases hr : inB (-m) m x
      · have HN : Hid (xs.all (inB (-m) m) = false) := all_false _ _ k hlt (by rw [HX.out]; exact hr)
        have hin := fun w => hide (inside_w hr w)
        clear hr hall
        go_wp2_with (go_at_call 63; refine (hin _).out.mono ?_; rintro e w1 ⟨rfl, rfl⟩)
        go_ret
        exact ⟨ret_bool HN.out.symm, rfl⟩
      · have HN : Hid ((xs.take (k + 1)).all (inB (-m) m) = true) := by show _ = _; rw [take_all _ _ _ hlt, hall.out, HX.out, hr]; rfl
        have hin := fun w => hide (inside_w hr w)
        clear hr hall
        go_wp2_with (go_at_call 63; refine (hin _).out.mono ?_; rintro e w1 ⟨rfl, rfl⟩)
        go_round
        case rel => exact ⟨k + 1, by go_num, by omega, HN⟩
        case measure => simp [intOf]; omega
    · have hkl : k = xs.length := by omega
      have HN : Hid (xs.all (inB (-m) m) = true) := by have := hall.out; rw [List.take_of_length_le (by omega)] at this; exact this
      clear hkl
      go_wp2
      go_ret
      exact ⟨ret_bool HN.out.symm, rfl⟩
end Go.Proofs.YtpedbdicjgdgkaaGreat
