import Derived.Test.YtlpoenoijmifdaaRjo
import Derived.Test.YtlpoenoijmifdaaRpt
set_option linter.unusedVariables false
set_option linter.unusedSimpArgs false
/- Plain words: what a parting says of the parts, and that joined again they are the whole; an append beside loads; areas and moments of ordinates that are sums of others, and of parts. -/
namespace Go.Proofs.Ytlpoenoijmifdaa
open Go.RowKit

theorem prt_pos {xs : List Int} (hp : Pos xs) (a : Int) : prtE xs a = 0 ∨ prtE xs a = 14 := by
  unfold prtE
  rw [if_pos (rise_pos hp)]
  split
  · exact .inl rfl
  · exact .inr rfl

theorem prt_ok {xs : List Int} {a : Int} (h : prtE xs a = 0) : Pos xs ∧ 1 ≤ a ∧ a.toNat + 2 ≤ xs.length ∧ agB xs a.toNat = true := by
  unfold prtE at h
  split at h
  · rename_i hr
    split at h
    · rename_i h1
      obtain ⟨h1, h2, h3⟩ := h1
      exact ⟨Pos.of hr, h1, by omega, h3⟩
    · simp at h
  · simp at h

theorem ag_dv {xs : List Int} {a : Nat} (h1 : a + 2 ≤ xs.length) (h : agB xs a = true) : dvB (xs.take (a + 1)) (xs.drop a) xs = true := by
  rw [← agB_eq xs a (by rw [List.length_take]; omega)]; exact h

theorem ag_agree {xs : List Int} {a : Nat} (h1 : a + 2 ≤ xs.length) (h : agB xs a = true) : Agree xs a := by
  have hd := ag_dv h1 h
  have hl : (xs.take (a + 1)).length = a + 1 := by rw [List.length_take]; omega
  unfold dvB eqG at hd
  rw [hl, Nat.add_sub_cancel, decide_eq_true_eq] at hd
  exact hd.symm

theorem part_back (xs : List Int) (a : Nat) (h : a < xs.length) : xs.take (a + 1) ++ (xs.drop a).drop 1 = xs := by
  rw [List.drop_drop, List.take_append_drop]

theorem joi_back {xs : List Int} {a : Nat} (hp : Pos xs) (h1 : 1 ≤ a) (h2 : a + 2 ≤ xs.length) (h : agB xs a = true) : joiE (xs.take (a + 1)) (xs.drop a) = 0 ∧ joiL (xs.take (a + 1)) (xs.drop a) = xs := by
  have pf : Pos (xs.take (a + 1)) := hp.take (by omega) (by omega)
  have pb : Pos (xs.drop a) := hp.drop h2
  have hl : (xs.take (a + 1)).length = a + 1 := by rw [List.length_take]; omega
  have e : joiE (xs.take (a + 1)) (xs.drop a) = 0 := by
    unfold joiE
    rw [if_pos ⟨rise_pos pf, rise_pos pb⟩, if_pos (by rw [hl, Nat.add_sub_cancel, at_take _ _ _ (by omega), at_drop, Nat.add_zero]), part_back xs a (by omega), if_pos (rise_pos hp), if_pos (ag_dv h2 h)]
  exact ⟨e, by unfold joiL; rw [if_pos e, part_back xs a (by omega)]⟩

/-- append of one int, in a region that draws its order; the int lies in a block of its own. -/
theorem step_push1 {ops : Array Oper} {o : Oper} {a : Act} {w : World} {K : Act → World → Prop} {Q : Exit → Act → World → Prop} {E : Prop} (hgd : o.guard = none) (s x : Operand)
    (ho : o.op = .call { callee := .builtin .append, args := #[s, x], argTypes := #[38, 38] })
    (B : Nat) (v : Value) (xs : List Int) (y : Int) (b c : Nat) (hown : Own B w v xs) (hs : a.eval s = v) (hx : a.eval x = .slice (some ⟨b, 0, none⟩) 1 c) (hc : w.cell? ⟨b, 0, none⟩ = some (.int .i64 y)) (hl : xs.length ≤ 1000000) (hB : B ≤ w.heap.size)
    (h : ∀ g cap w', Own B w' (.slice (some ⟨g, 0, none⟩) (xs.length + 1) cap) (xs ++ [y]) → w.grownBy w' v.ownBlock → (v.ownBlock = some g ∨ g = w.heap.size) → K (a.put o.dst (.slice (some ⟨g, 0, none⟩) (xs.length + 1) cap)) w') :
    if Region.wanted o (yielded ops a.tmps) = true then Oper.wp Try.prog o a w K Q else E := by
  obtain ⟨i0, hi0, hz0, hz1, hz2⟩ := info_parts infoI'
  refine step_append_lies w hgd s x 38 ho B 3 i0 _ 1 8 Try.underlying38 hi0 hz0 hz1 hz2 rfl (by decide) v xs.length (xs.map (Value.int .i64)) hs hown ⟨b, 0, none⟩ 1 c [.int .i64 y] hx (by simp) ?_ (by simp [Value.oneCell']) (by omega) (by simp only [maxLen]; omega) (by omega) hB w.heap.size rfl ?_
  · intro j u hj
    match j with
    | 0 => simp at hj; subst hj; simpa [Addr.add] using hc
    | j + 1 => simp at hj
  · intro g cap w' h1 h2 h3 h4
    refine h g cap w' ?_ h2 h3
    unfold Own
    simpa using h1

theorem grow_kept' {B' : Nat} {W w' : World} {u v : Value} {us : List Int} (hu : Own B' W u us) (ha : Apart u v) (hg : W.grownBy w' v.ownBlock) : Own B' w' u us := by
  refine World.ownsRow.kept hu hg ?_
  cases h : u.ownBlock with
  | none => exact .inl rfl
  | some k => right; intro e; exact ha k h e.symm

theorem grow_apart' {B' : Nat} {W : World} {u v : Value} {g n c : Nat} {us : List Int} (hu : Own B' W u us) (ha : Apart u v) (hv : v.ownBlock = some g ∨ g = W.heap.size) : Apart u (.slice (some ⟨g, 0, none⟩) n c) := by
  intro k h1 h2
  have e : k = g := by simpa [Value.ownBlock] using h2.symm
  subst e
  rcases hv with e | e
  · exact ha k h1 e
  · have := (hu.lt _ h1).2; omega

theorem Own.cell {B : Nat} {w : World} {g n c : Nat} {xs : List Int} (h : Own B w (.slice (some ⟨g, 0, none⟩) n c) xs) (hn : xs.length = n) {i : Nat} (hi : i < n) : w.cell? ⟨g, i, none⟩ = some (.int .i64 (at_ xs i)) := by
  obtain ⟨_, _, e, _, _, hc⟩ := h.form hn (by omega)
  cases e
  exact hc i hi

theorem one_drew (w : World) (y : Int) : (w.alloc (.cells #[.int .i64 y] 3)).drew.cell? ⟨w.heap.size, 0, none⟩ = some (.int .i64 y) :=
  Own.cell (B := w.heap.size) (n := 1) (c := 1) (World.ownsRow.drew (Own.one w y (Nat.le_refl _))) rfl (Nat.zero_lt_one)
theorem Own.drew_alloc {B : Nat} {w : World} {v : Value} {xs : List Int} (h : Own B w v xs) (o : Obj) : Own B (w.alloc o).drew v xs := World.ownsRow.drew (h.alloc o)

/-- Two slices of the call's own in a world that grew from another. -/
structure Su (B : Nat) (w V : World) (u v : Value) (xs ys : List Int) : Prop where
  a : Own B V u xs
  b : Own B V v ys
  bel : Below B w V
theorem Su.drew {B : Nat} {w V : World} {u v : Value} {xs ys : List Int} (h : Su B w V u v xs ys) : Su B w V.drew u v xs ys := ⟨World.ownsRow.drew h.a, World.ownsRow.drew h.b, h.bel.drew⟩
theorem Su.alloc {B : Nat} {w V : World} {u v : Value} {xs ys : List Int} (h : Su B w V u v xs ys) (hB : B ≤ w.heap.size) (o : Obj) : Su B w (V.alloc o) u v xs ys := ⟨h.a.alloc o, h.b.alloc o, h.bel.alloc (Nat.le_trans hB h.bel.size) o⟩
theorem Su.grown {B : Nat} {w V V' : World} {u v t : Value} {xs ys zs : List Int} (h : Su B w V u v xs ys) (hB : B ≤ w.heap.size) (ht : Own B V t zs) (h1 : Apart u t) (h2 : Apart v t) (hg : V.grownBy V' t.ownBlock) : Su B w V' u v xs ys :=
  ⟨grow_kept' h.a h1 hg, grow_kept' h.b h2 hg, h.bel.grown hg (Nat.le_trans hB h.bel.size) (fun k hk => (ht.lt k hk).1)⟩

theorem ord_ok {xs ys : List Int} (hp : Pos xs) (hl : ys.length = xs.length) (h : Lim 20000 ys) : ordE xs ys = 0 := by
  have e : ys.all (inB (-20000) 20000) = true := by
    rw [List.all_eq_true]
    intro y hy
    obtain ⟨i, hi, rfl⟩ := List.getElem_of_mem hy
    have := h i
    rw [at_get hi] at this
    simpa [inB] using this
  unfold ordE
  rw [if_pos (rise_pos hp), if_pos ⟨hl, e⟩]

theorem mom_ok {xs ys : List Int} {c : Int} (hp : Pos xs) (hl : ys.length = xs.length) (h : Lim 20000 ys) (h0 : 0 ≤ c) (h1 : c ≤ 100000) : momE xs ys c = 0 := by
  unfold momE; rw [if_pos (ord_ok hp hl h), if_pos ⟨h0, h1⟩]
theorem area_ok {xs ys : List Int} (hp : Pos xs) (hl : ys.length = xs.length) (h : Lim 20000 ys) : areaV xs ys = dot xs ys := by unfold areaV; rw [if_pos (ord_ok hp hl h)]
theorem momV_ok {xs ys : List Int} {c : Int} (hp : Pos xs) (hl : ys.length = xs.length) (h : Lim 20000 ys) (h0 : 0 ≤ c) (h1 : c ≤ 100000) : momV xs ys c = dot xs (levL xs ys c) := by
  unfold momV; rw [if_pos (mom_ok hp hl h h0 h1)]

/-- Values of a function at the indices below a number. -/
theorem at_fun (f : Nat → Int) (n i : Nat) (h : i < n) : at_ ((List.range n).map f) i = f i := by unfold at_; simp [h]
theorem fun_lim {f : Nat → Int} {M : Int} (hM : 0 ≤ M) (h : ∀ i, -M ≤ f i ∧ f i ≤ M) (n : Nat) : Lim M ((List.range n).map f) := by
  intro i
  by_cases hi : i < n
  · rw [at_fun f n i hi]; exact h i
  · unfold at_; rw [List.getElem?_eq_none (by simp; omega)]; simp; omega

theorem area_lin {xs : List Int} {f g : Nat → Int} {P Q : Int} : dot xs ((List.range xs.length).map fun j => P * f j + Q * g j) = P * dot xs ((List.range xs.length).map f) + Q * dot xs ((List.range xs.length).map g) :=
  dot_lin fun i hi => by rw [at_fun _ _ _ hi, at_fun _ _ _ hi, at_fun _ _ _ hi]

theorem mom_lin {xs : List Int} {f g : Nat → Int} {P Q c : Int} : dot xs (levL xs ((List.range xs.length).map fun j => P * f j + Q * g j) c) = P * dot xs (levL xs ((List.range xs.length).map f) c) + Q * dot xs (levL xs ((List.range xs.length).map g) c) :=
  dot_lin fun i hi => by
    rw [levL_at _ _ _ _ hi, levL_at _ _ _ _ hi, levL_at _ _ _ _ hi]
    unfold lev
    rw [at_fun _ _ _ hi, at_fun _ _ _ hi, at_fun _ _ _ hi]
    grind

theorem area_parts {xs vs : List Int} {a : Nat} (hl : vs.length = xs.length) (h2 : a + 2 ≤ xs.length) (hg : agB xs a = true) : dot (xs.take (a + 1)) (vs.take (a + 1)) + dot (xs.drop a) (vs.drop a) = dot xs vs :=
  ((ag_agree h2 hg).dot (fun i h1 _ => at_take _ _ _ h1) (fun i _ => by rw [at_drop, Nat.add_comm])).symm

theorem mom_parts {xs vs : List Int} {a : Nat} {c : Int} (hl : vs.length = xs.length) (h2 : a + 2 ≤ xs.length) (hg : agB xs a = true) :
    dot (xs.take (a + 1)) (levL (xs.take (a + 1)) (vs.take (a + 1)) c) + dot (xs.drop a) (levL (xs.drop a) (vs.drop a) c) = dot xs (levL xs vs c) := by
  refine ((ag_agree h2 hg).dot (fun i h1 h3 => ?_) (fun i h3 => ?_)).symm
  · rw [levL_at _ _ _ _ (by rw [List.length_take]; omega), levL_at _ _ _ _ h3]
    unfold lev
    rw [at_take _ _ _ h1, at_take _ _ _ h1]
  · rw [levL_at _ _ _ _ (by rw [List.length_drop]; omega), levL_at _ _ _ _ h3]
    unfold lev
    rw [at_drop, at_drop, Nat.add_comm a i]

theorem dot_lim' {xs vs : List Int} {V : Int} (hp : Pos xs) (hv : Lim V vs) (hV : 0 ≤ V) : -(4320000000 * V) ≤ dot xs vs ∧ dot xs vs ≤ 4320000000 * V := by
  rw [dot_ip vs hp]
  have h := ipN_lim (wts_lim hp) hv xs.length
  have h9 := hp.hi
  have e : 480000000 * V * (xs.length : Int) ≤ 480000000 * V * 9 := Int.mul_le_mul_of_nonneg_left (by omega) (by omega)
  omega

theorem lev_lim1 {xs ys : List Int} {c V : Int} (hp : Pos xs) (hy : Lim V ys) (h0 : 0 ≤ c) (h1 : c ≤ 100000) (hV : 0 ≤ V) : Lim (V * 100000) (levL xs ys c) := by
  intro i
  by_cases h : i < xs.length
  · rw [levL_at _ _ _ _ h]
    have bx := pos_bd hp i
    exact mul_lim (a := at_ ys i) (b := at_ xs i - c) (K := V) (V := 100000) (hy i) (by omega)
  · unfold at_; rw [List.getElem?_eq_none (by rw [levL_len]; omega)]; simp
    have := Int.mul_nonneg hV (show (0 : Int) ≤ 100000 by omega); omega

theorem lim_take {M : Int} {ys : List Int} (h : Lim M ys) (hM : 0 ≤ M) (k : Nat) : Lim M (ys.take k) := by
  intro i
  by_cases hi : i < k
  · rw [at_take _ _ _ hi]; exact h i
  · unfold at_; rw [List.getElem?_eq_none (by rw [List.length_take]; omega)]; simp; omega
theorem lim_drop {M : Int} {ys : List Int} (h : Lim M ys) (k : Nat) : Lim M (ys.drop k) := by
  intro i; rw [at_drop]; exact h _

/-- The sum of the weights. -/
theorem sum_ones {xs : List Int} (hp : Pos xs) (hu : Up xs) : ipN (wts xs) (List.replicate xs.length 1) xs.length = 36 * (at_ xs (xs.length - 1) - at_ xs 0) := by
  have := hp.lo
  rw [← dot_ip _ hp]
  refine dot_ones hu (by omega) fun i hi => ?_
  unfold at_; rw [List.getElem?_replicate, if_pos hi]; rfl

theorem isL_cell {w : World} {g off n c : Nat} {xs : List Int} (h : IsL w (.slice (some ⟨g, off, none⟩) n c) xs) {i : Nat} (hi : i < xs.length) : w.cell? ⟨g, off + i, none⟩ = some (.int .i64 (at_ xs i)) := by
  obtain ⟨_, _, hv, _, _, _, h4⟩ := h
  obtain ⟨rfl, _, rfl⟩ := Value.slice.inj hv
  obtain ⟨_, _, e, _, hc⟩ := h4 (by intro h; rw [h] at hi; simp at hi)
  cases e
  exact hc i hi

theorem area_c {xs ys : List Int} {X : Int} (hp : Pos xs) (hl : ys.length = xs.length) (h : Lim 20000 ys) (hX : dot xs ys = X) (a1 a2 : Option Addr) (n1 n2 c1 c2 : Nat) (w : World) (i1 : IsL w (.slice a1 n1 c1) xs) (i2 : IsL w (.slice a2 n2 c2) ys) :
    Calls Try.prog 41 #[.slice a1 n1 c1, .slice a2 n2 c2] w fun e w' => e = .returned (.tuple #[.int .i64 X, .int .i64 0]) ∧ Below w.heap.size w w' := by
  have := Area_w a1 a2 n1 n2 c1 c2 xs ys w i1 i2
  rwa [area_ok hp hl h, ord_ok hp hl h, hX] at this

theorem mom_c {xs ys : List Int} {X c : Int} (hp : Pos xs) (hl : ys.length = xs.length) (h : Lim 20000 ys) (h0 : 0 ≤ c) (h1 : c ≤ 100000) (hX : dot xs (levL xs ys c) = X) (a1 a2 : Option Addr) (n1 n2 c1 c2 : Nat) (w : World) (i1 : IsL w (.slice a1 n1 c1) xs) (i2 : IsL w (.slice a2 n2 c2) ys) :
    Calls Try.prog 43 #[.slice a1 n1 c1, .slice a2 n2 c2, .int .i64 c] w fun e w' => e = .returned (.tuple #[.int .i64 X, .int .i64 0]) ∧ Below w.heap.size w w' := by
  have := Moment_w a1 a2 n1 n2 c1 c2 xs ys c w i1 i2 ⟨by omega, by omega⟩
  rwa [momV_ok hp hl h h0 h1, mom_ok hp hl h h0 h1, hX] at this
end Go.Proofs.Ytlpoenoijmifdaa
