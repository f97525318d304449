import Derived.Test.YtlpoenoijmifdaaWof
import Derived.Test.YtlpoenoijmifdaaOrd

import Derived.Maps.AppendAt
import Derived.Outline
import Derived.Deep.AppendLies
import Derived.Laws.OwnMore
set_option linter.unusedVariables false
set_option linter.unusedSimpArgs false
namespace Go.Proofs.Ytlpoenoijmifdaa
open Go.RowKit

/-- v is a slice of the call's own, in blocks from B on, that reads as xs. -/
def Own (B : Nat) (w : World) (v : Value) (xs : List Int) : Prop := w.ownsRow B 3 1 v xs.length (xs.map (Value.int .i64))
theorem Own.nil (B : Nat) (w : World) : Own B w (.slice none 0 0) [] := World.ownsRow_nil _ _ _ _
theorem Own.one {B : Nat} (w : World) (x : Int) (hB : B ≤ w.heap.size) : Own B (w.alloc (.cells #[.int .i64 x] 3)) (.slice (some ⟨w.heap.size, 0, none⟩) 1 1) [x] := World.ownsRow_lit w #[.int .i64 x] 1 hB (by decide) rfl
theorem Own.alloc {B : Nat} {w : World} {v : Value} {xs : List Int} (h : Own B w v xs) (o : Obj) : Own B (w.alloc o) v xs := World.ownsRow.alloc h o
theorem Own.isL {B : Nat} {w : World} {v : Value} {xs : List Int} (h : Own B w v xs) (hf : ∀ x ∈ xs, FB x) : IsL w v xs := IsL.of_own h hf
theorem Own.lt {B : Nat} {w : World} {v : Value} {xs : List Int} (h : Own B w v xs) : ∀ k, v.ownBlock = some k → B ≤ k ∧ k < w.heap.size := World.ownsRow.lt h
theorem Own.fresh {B : Nat} {w : World} {v : Value} {xs : List Int} (h : Own B w v xs) : Fresh B v := fun k hk => (h.lt k hk).1

theorem Own.form {B : Nat} {w : World} {v : Value} {xs : List Int} {n : Nat} (h : Own B w v xs) (hn : xs.length = n) (h0 : 0 < n) : ∃ g gc, v = .slice (some ⟨g, 0, none⟩) n gc ∧ B ≤ g ∧ g < w.heap.size ∧ ∀ i, i < n → w.cell? ⟨g, i, none⟩ = some (.int .i64 (at_ xs i)) := by
  subst hn
  obtain ⟨g, gc, rfl, h1, h2⟩ := World.ownsRow.form h h0
  exact ⟨g, gc, rfl, h1, h2, fun i hi => by rw [World.ownsRow.cellAt h i (by omega)]; simp [at_, hi]⟩

/-- Two slices do not lie in one block. -/
def Apart (u v : Value) : Prop := ∀ k, u.ownBlock = some k → v.ownBlock ≠ some k
theorem Apart.symm {u v : Value} (h : Apart u v) : Apart v u := fun k h1 h2 => h k h2 h1

theorem infoI' : (Try.prog.info? 3).map (fun i => (i.zero, i.size, i.bytes)) = some (some (.int .i64 0), 1, 8) := by kernel_rfl

theorem push_w {ops : Array Oper} {rest : List Oper} {o : Oper} {a : Act} {Q : Exit → Act → World → Prop} (hgd : o.guard = none) (s x : Operand)
    (ho : o.op = .call { callee := .builtin .append, args := #[s, x], argTypes := #[38, 38] })
    (B : Nat) (W : World) (v : Value) (xs : List Int) (y : Int) (hown : Own B W v xs) (hs : a.eval s = v) (hx : a.eval x = .slice (some ⟨W.heap.size, 0, none⟩) 1 1) (hl : xs.length ≤ 1000000) (hB : B ≤ W.heap.size)
    (h : ∀ v' w', Own B w' v' (xs ++ [y]) → (W.alloc (.cells #[.int .i64 y] 3)).grownBy w' v.ownBlock → (v'.ownBlock = v.ownBlock ∨ v'.ownBlock = some (W.heap.size + 1)) → wpList Try.prog ops Q rest (a.put o.dst v') w') :
    wpList Try.prog ops Q (o :: rest) a (W.alloc (.cells #[.int .i64 y] 3)) := by
  obtain ⟨i0, hi, hz0, hz1, hz2⟩ := info_parts infoI'
  refine wpList_append_own_at _ hgd s x 38 ho B 3 i0 _ 1 8 Try.underlying38 hi hz0 hz1 hz2 rfl (by decide) v xs.length (xs.map (Value.int .i64)) hs (World.ownsRow.alloc hown _) ⟨W.heap.size, 0, none⟩ 1 1 [.int .i64 y] hx rfl (cell_one_new _ _ _) (by simp [Value.oneCell']) (by simp only [maxLen]; omega) (by omega) (by simp; omega) ?_
  intro v' w' h1 h2 h3 h4
  refine h v' w' ?_ h2 (by simpa using h4)
  unfold Own
  simpa using h1

theorem grow_below {B : Nat} {W w' : World} {v : Value} {xs : List Int} {o : Obj} (hown : Own B W v xs) (hB : B ≤ W.heap.size) (hg : (W.alloc o).grownBy w' v.ownBlock) : Below B W w' :=
  ((Below.refl B W).alloc hB o).grown hg (by simp; omega) (fun k hk => (hown.lt k hk).1)

theorem grow_kept {B' : Nat} {W w' : World} {u v : Value} {us : List Int} {o : Obj} (hu : Own B' W u us) (ha : Apart u v) (hg : (W.alloc o).grownBy w' v.ownBlock) : Own B' w' u us := by
  refine World.ownsRow.kept (World.ownsRow.alloc hu o) hg ?_
  cases h : u.ownBlock with
  | none => exact .inl rfl
  | some k => right; intro e; exact ha k h e.symm

theorem grow_apart {B' : Nat} {W : World} {u v v' : Value} {us : List Int} (hu : Own B' W u us) (ha : Apart u v) (hv : v'.ownBlock = v.ownBlock ∨ v'.ownBlock = some (W.heap.size + 1)) : Apart u v' := by
  intro k h1 h2
  rcases hv with e | e
  · exact ha k h1 (by rw [← e]; exact h2)
  · rw [e] at h2; cases h2
    have := (hu.lt _ h1).2; omega
end Go.Proofs.Ytlpoenoijmifdaa
