import Derived.Test.YtlpoenoijmifdaaSame
import Derived.Laws.Rows
import Derived.RegionTactic
import Derived.ChangeAlike
set_option linter.unusedVariables false
set_option linter.unusedSimpArgs false
namespace Go.Proofs.Ytlpoenoijmifdaa
open Go.RowKit

/-- Block g is just these cells. -/
def Blk (w : World) (g : Nat) (t : TypeId) (cs : Array Value) : Prop := w.heap[g]? = some (.cells cs t (0, 0))

theorem Blk.lt {w : World} {g : Nat} {t : TypeId} {cs : Array Value} (h : Blk w g t cs) : g < w.heap.size := by
  rcases Nat.lt_or_ge g w.heap.size with hlt | hge
  · exact hlt
  · unfold Blk at h; rw [Array.getElem?_eq_none hge] at h; cases h
theorem Blk.cell {w : World} {g : Nat} {t : TypeId} {cs : Array Value} (h : Blk w g t cs) (i : Nat) : w.cell? ⟨g, i, none⟩ = cs[i]? := cell_of_row w g i cs t (0, 0) h
theorem Blk.frozen {w : World} {g : Nat} {t : TypeId} {cs : Array Value} (h : Blk w g t cs) (i : Nat) : w.frozen? ⟨g, i, none⟩ = false := by
  unfold Blk at h; simp [World.frozen?, h]
theorem Blk.set {w : World} {g : Nat} {t : TypeId} {cs : Array Value} (h : Blk w g t cs) (i : Nat) (u : Value) : Blk (w.setCell ⟨g, i, none⟩ u) g t (cs.setIfInBounds i u) := by
  unfold Blk at h ⊢; simp [World.setCell, Array.getElem?_modify, h]
theorem Blk.far {w : World} {g : Nat} {t : TypeId} {cs : Array Value} (h : Blk w g t cs) {p : Addr} (hp : g ≠ p.block) (u : Value) : Blk (w.setCell p u) g t cs := (Below.heap_setCell w p u g hp).trans h

def ints (l : List Int) : Array Value := (l.map (Value.int .i64)).toArray
theorem ints_at (l : List Int) (i : Nat) (h : i < l.length) : (ints l)[i]? = some (.int .i64 (at_ l i)) := by simp [ints, at_, h]
theorem ints_set (l : List Int) (i : Nat) (x : Int) : (ints l).setIfInBounds i (.int .i64 x) = ints (l.set i x) := by
  unfold ints; rw [List.setIfInBounds_toArray, List.map_set]

/-- The accumulator at block tb: its weights lie at block wb. -/
structure WSt (tb wb : Nat) (l : List Int) (W : World) : Prop where
  tal : Blk W tb 95 #[.slice (some ⟨wb, 0, none⟩) l.length l.length, .slice none 0 0, .int .i64 0]
  row : Blk W wb 3 (ints l)
  ne : tb ≠ wb

set_option maxHeartbeats 400000 in
theorem addWeight_w (tb wb : Nat) (l : List Int) (at' : Nat) (wt : Int) (w : World) (h : WSt tb wb l w) (hat : at' < l.length) (_hb1 : -1000000000 ≤ at_ l at' + wt) (_hb2 : at_ l at' + wt ≤ 1000000000) :
    Calls Try.prog 88 #[.pointer (some ⟨tb, 0, none⟩), .int .i64 at', .int .i64 wt] w fun e w' => e = .returned (.tuple #[]) ∧ WSt tb wb (addW l (at', wt)) w' ∧ w' = w.setCell ⟨wb, at', none⟩ (.int .i64 (at_ l at' + wt)) := by
  have c1 : w.cell? ⟨tb, 0, none⟩ = some (.slice (some ⟨wb, 0, none⟩) l.length l.length) := h.tal.cell 0
  have c2 : w.cell? ⟨wb, at', none⟩ = some (.int .i64 (at_ l at')) := by rw [h.row.cell, ints_at _ _ hat]
  have f2 := h.row.frozen at'
  have hfin : WSt tb wb (addW l (at', wt)) (w.setCell ⟨wb, at', none⟩ (.int .i64 (at_ l at' + wt))) := by
    refine ⟨?_, ?_, h.ne⟩
    · have := h.tal.far (p := ⟨wb, at', none⟩) h.ne (.int .i64 (at_ l at' + wt))
      simpa [addW] using this
    · have := h.row.set at' (.int .i64 (at_ l at' + wt))
      rw [ints_set] at this
      exact this
  have HF := hide hfin; clear hfin h
  have hl : (at' : Int) < l.length := by omega
  obtain ⟨x, hx⟩ : ∃ x, at_ l at' = x := ⟨_, rfl⟩
  rw [hx] at c2 _hb1 _hb2 HF ⊢
  clear hx
  go_enter Try.func88, Try.ntmps88
  go_wp2
  go_end0
  exact ⟨rfl, HF.out, rfl⟩

set_option maxRecDepth 100000 in
set_option maxHeartbeats 1000000 in
theorem addProduct_w (tb : Nat) (a : Option Addr) (n cap : Nat) (vs : List Int) (s : Int) (at' : Nat) (wt : Int) (w : World) (h : Blk w tb 95 #[.slice none 0 0, .slice a n cap, .int .i64 s]) (hv : IsLB tb w (.slice a n cap) vs)
    (hat : at' < vs.length) (_hb1 : -9000000000000000000 ≤ wt * at_ vs at') (_hb2 : wt * at_ vs at' ≤ 9000000000000000000) (_hb3 : -9000000000000000000 ≤ s + wt * at_ vs at') (_hb4 : s + wt * at_ vs at' ≤ 9000000000000000000) :
    Calls Try.prog 89 #[.pointer (some ⟨tb, 0, none⟩), .int .i64 at', .int .i64 wt] w fun e w' => e = .returned (.tuple #[]) ∧ ∃ q, w' = (w.drewN q).setCell ⟨tb, 2, none⟩ (.int .i64 (s + wt * at_ vs at')) := by
  obtain ⟨a', cap', hv', l1, l2, _, l4⟩ := hv
  cases hv'
  unfold maxLen at l2
  obtain ⟨b, off, rfl, hbt, hc⟩ := l4 (by intro h; subst h; simp at hat)
  have c1 : w.cell? ⟨tb, 1, none⟩ = some (.slice (some ⟨b, off, none⟩) vs.length cap) := h.cell 1
  have c2 : w.cell? ⟨tb, 2, none⟩ = some (.int .i64 s) := h.cell 2
  have c3 : w.cell? ⟨b, off + at', none⟩ = some (.int .i64 (at_ vs at')) := hc at' hat
  have f2 := h.frozen 2
  clear hc l4 h
  have hl : (at' : Int) < vs.length := by omega
  obtain ⟨x, hx⟩ : ∃ x, at_ vs at' = x := ⟨_, rfl⟩
  rw [hx] at c3 _hb1 _hb2 _hb3 _hb4 ⊢
  clear hx
  go_enter Try.func89, Try.ntmps89
  go_wp2
  go_region
  all_goals (go_end0; exact ⟨rfl, 1, rfl⟩)
end Go.Proofs.Ytlpoenoijmifdaa
