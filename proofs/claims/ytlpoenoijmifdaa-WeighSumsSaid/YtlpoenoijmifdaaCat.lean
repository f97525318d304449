import Derived.Test.YtlpoenoijmifdaaStq
set_option linter.unusedVariables false
set_option linter.unusedSimpArgs false
namespace Go.Proofs.Ytlpoenoijmifdaa
open Go.RowKit

theorem Own.none' {B : Nat} (w : World) (hB : B ≤ w.heap.size) : Own B (w.alloc (.cells #[] 3)) (.slice (some ⟨w.heap.size, 0, none⟩) 0 0) [] := World.ownsRow_lit w #[] 0 hB (by decide) rfl

/-- 'append(s, x...)': a slice of the call's own, and another one behind it. -/
theorem cat_w {ops : Array Oper} {rest : List Oper} {o : Oper} {a : Act} {Q : Exit → Act → World → Prop} (hgd : o.guard = none) (s x : Operand)
    (ho : o.op = .call { callee := .builtin .append, args := #[s, x], argTypes := #[38, 38] })
    (B : Nat) (W : World) (v : Value) (xs ys : List Int) (b off m c : Nat) (hown : Own B W v xs) (hs : a.eval s = v) (hx : a.eval x = .slice (some ⟨b, off, none⟩) m c) (hm : ys.length = m)
    (hc : ∀ i, i < m → W.cell? ⟨b, off + i, none⟩ = some (.int .i64 (at_ ys i))) (hl : xs.length + m ≤ 1000000) (hB : B ≤ W.heap.size)
    (h : ∀ v' w', Own B w' v' (xs ++ ys) → W.grownBy w' v.ownBlock → (v'.ownBlock = v.ownBlock ∨ v'.ownBlock = some W.heap.size) → wpList Try.prog ops Q rest (a.put o.dst v') w') :
    wpList Try.prog ops Q (o :: rest) a W := by
  obtain ⟨i0, hi, hz0, hz1, hz2⟩ := info_parts infoI'
  subst hm
  refine wpList_append_own_at _ hgd s x 38 ho B 3 i0 _ 1 8 Try.underlying38 hi hz0 hz1 hz2 rfl (by decide) v xs.length (xs.map (Value.int .i64)) hs hown ⟨b, off, none⟩ ys.length c (ys.map (Value.int .i64)) hx (by simp) ?_ ?_ (by simp only [maxLen]; omega) (by omega) hB ?_
  · intro j u hj
    rw [List.getElem?_map] at hj
    by_cases hjl : j < ys.length
    · rw [List.getElem?_eq_getElem hjl] at hj
      simp only [Option.map_some, Option.some.injEq] at hj
      subst hj
      have := hc j hjl
      rw [at_get hjl] at this
      by_cases h0 : j = 0
      · subst h0; simpa [Addr.add] using this
      · simpa [Addr.add, h0] using this
    · rw [List.getElem?_eq_none (by omega)] at hj; simp at hj
  · intro u hu
    obtain ⟨z, _, rfl⟩ := List.mem_map.1 hu
    rfl
  · intro v' w' h1 h2 h3 h4
    refine h v' w' ?_ h2 h4
    unfold Own
    simpa using h1

theorem grown_below {B : Nat} {W w' : World} {v : Value} {xs : List Int} (hown : Own B W v xs) (hB : B ≤ W.heap.size) (hg : W.grownBy w' v.ownBlock) : Below B W w' :=
  (Below.refl B W).grown hg hB (fun k hk => (hown.lt k hk).1)

theorem grown_kept {B' : Nat} {W w' : World} {u v : Value} {us : List Int} (hu : Own B' W u us) (ha : Apart u v) (hg : W.grownBy w' v.ownBlock) : Own B' w' u us := by
  refine World.ownsRow.kept hu hg ?_
  cases h : u.ownBlock with
  | none => exact .inl rfl
  | some k => right; intro e; exact ha k h e.symm
end Go.Proofs.Ytlpoenoijmifdaa
