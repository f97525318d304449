import Derived.Test.YtfbgnnelnpcbiaaDoorZt04
import Derived.Test.YtfbgnnelnpcbiaaDoorZt05
import Derived.Maps.AppendAt
import Derived.Outline
import Derived.Deep.AppendLies
import Derived.Laws.OwnMore
import Derived.Deep.RegionHeld3
import Derived.Test.YtfbgnnelnpcbiaaDoorZt01
import Derived.Test.YtfbgnnelnpcbiaaDoorZt02
set_option linter.unusedVariables false
set_option linter.unusedSimpArgs false
namespace Go.Proofs.YtfbgnnelnpcbiaaDoor
open Go.RowKit

/-- v is a slice of the call's own, in blocks from B on, that reads as xs. -/
def Own (B : Nat) (w : World) (v : Value) (xs : List Int) : Prop := w.ownsRow B 3 1 v xs.length (xs.map (Value.int .i64))
theorem Own.nil (B : Nat) (w : World) : Own B w (.slice none 0 0) [] := World.ownsRow_nil _ _ _ _
theorem Own.one {B : Nat} (w : World) (x : Int) (hB : B ≤ w.heap.size) : Own B (w.alloc (.cells #[.int .i64 x] 3)) (.slice (some ⟨w.heap.size, 0, none⟩) 1 1) [x] := World.ownsRow_lit w #[.int .i64 x] 1 hB (by decide) rfl
theorem Own.alloc {B : Nat} {w : World} {v : Value} {xs : List Int} (h : Own B w v xs) (o : Obj) : Own B (w.alloc o) v xs := World.ownsRow.alloc h o
theorem Own.isL {B : Nat} {w : World} {v : Value} {xs : List Int} (h : Own B w v xs) (hf : ∀ x ∈ xs, FB x) : IsL w v xs := IsL.of_own h hf
theorem Own.lt {B : Nat} {w : World} {v : Value} {xs : List Int} (h : Own B w v xs) : ∀ k, v.ownBlock = some k → B ≤ k ∧ k < w.heap.size := World.ownsRow.lt h
theorem Own.fresh {B : Nat} {w : World} {v : Value} {xs : List Int} (h : Own B w v xs) : Fresh B v := fun k hk => (h.lt k hk).1

theorem Own.form {B : Nat} {w : World} {v : Value} {xs : List Int} {n : Nat} (h : Own B w v xs) (hn : xs.length = n) (h0 : 0 < n) : ∃ g gc, v = .slice (some ⟨g, 0, none⟩) n gc ∧ B ≤ g ∧ g < w.heap.size ∧ ∀ i, i < n → w.cell? ⟨g, i, none⟩ = some (.int .i64 (at_ xs i)) := by
  subst hn
  obtain ⟨g, gc, rfl, h1, h2⟩ := World.ownsRow.form h h0
  exact ⟨g, gc, rfl, h1, h2, fun i hi => by rw [World.ownsRow.cellAt h i (by omega)]; simp [at_, hi]⟩

/-- Two slices do not lie in one block. -/
def Apart (u v : Value) : Prop := ∀ k, u.ownBlock = some k → v.ownBlock ≠ some k
theorem Apart.symm {u v : Value} (h : Apart u v) : Apart v u := fun k h1 h2 => h k h2 h1

theorem infoI' : (Tryd.prog.info? 3).map (fun i => (i.zero, i.size, i.bytes)) = some (some (.int .i64 0), 1, 8) := by kernel_rfl

theorem push_w {ops : Array Oper} {rest : List Oper} {o : Oper} {a : Act} {Q : Exit → Act → World → Prop} (hgd : o.guard = none) (s x : Operand)
    (ho : o.op = .call { callee := .builtin .append, args := #[s, x], argTypes := #[22, 22] })
    (B : Nat) (W : World) (v : Value) (xs : List Int) (y : Int) (hown : Own B W v xs) (hs : a.eval s = v) (hx : a.eval x = .slice (some ⟨W.heap.size, 0, none⟩) 1 1) (hl : xs.length ≤ 1000000) (hB : B ≤ W.heap.size)
    (h : ∀ v' w', Own B w' v' (xs ++ [y]) → (W.alloc (.cells #[.int .i64 y] 3)).grownBy w' v.ownBlock → (v'.ownBlock = v.ownBlock ∨ v'.ownBlock = some (W.heap.size + 1)) → wpList Tryd.prog ops Q rest (a.put o.dst v') w') :
    wpList Tryd.prog ops Q (o :: rest) a (W.alloc (.cells #[.int .i64 y] 3)) := by
  obtain ⟨i0, hi, hz0, hz1, hz2⟩ := info_parts infoI'
  refine wpList_append_own_at _ hgd s x 22 ho B 3 i0 _ 1 8 Tryd.underlying22 hi hz0 hz1 hz2 rfl (by decide) v xs.length (xs.map (Value.int .i64)) hs (World.ownsRow.alloc hown _) ⟨W.heap.size, 0, none⟩ 1 1 [.int .i64 y] hx rfl (cell_one_new _ _ _) (by simp [Value.oneCell']) (by simp only [maxLen]; omega) (by omega) (by simp; omega) ?_
  intro v' w' h1 h2 h3 h4
  refine h v' w' ?_ h2 (by simpa using h4)
  unfold Own
  simpa using h1

theorem grow_below {B : Nat} {W w' : World} {v : Value} {xs : List Int} {o : Obj} (hown : Own B W v xs) (hB : B ≤ W.heap.size) (hg : (W.alloc o).grownBy w' v.ownBlock) : Below B W w' :=
  ((Below.refl B W).alloc hB o).grown hg (by simp; omega) (fun k hk => (hown.lt k hk).1)

theorem grow_kept {B' : Nat} {W w' : World} {u v : Value} {us : List Int} {o : Obj} (hu : Own B' W u us) (ha : Apart u v) (hg : (W.alloc o).grownBy w' v.ownBlock) : Own B' w' u us := by
  refine World.ownsRow.kept (World.ownsRow.alloc hu o) hg ?_
  cases h : u.ownBlock with
  | none => exact .inl rfl
  | some k => right; intro e; exact ha k h e.symm

theorem grow_apart {B' : Nat} {W : World} {u v v' : Value} {us : List Int} (hu : Own B' W u us) (ha : Apart u v) (hv : v'.ownBlock = v.ownBlock ∨ v'.ownBlock = some (W.heap.size + 1)) : Apart u v' := by
  intro k h1 h2
  rcases hv with e | e
  · exact ha k h1 (by rw [← e]; exact h2)
  · rw [e] at h2; cases h2
    have := (hu.lt _ h1).2; omega
end Go.Proofs.YtfbgnnelnpcbiaaDoor

namespace Go.Proofs.YtfbgnnelnpcbiaaDoor
open Go.RowKit

/-- append of one int, in a region that draws its order; the int lies in a block of its own. -/
theorem step_push1 {ops : Array Oper} {o : Oper} {a : Act} {w : World} {K : Act → World → Prop} {Q : Exit → Act → World → Prop} {E : Prop} (hgd : o.guard = none) (s x : Operand)
    (ho : o.op = .call { callee := .builtin .append, args := #[s, x], argTypes := #[22, 22] })
    (B : Nat) (v : Value) (xs : List Int) (y : Int) (b c : Nat) (hown : Own B w v xs) (hs : a.eval s = v) (hx : a.eval x = .slice (some ⟨b, 0, none⟩) 1 c) (hc : w.cell? ⟨b, 0, none⟩ = some (.int .i64 y)) (hl : xs.length ≤ 1000000) (hB : B ≤ w.heap.size)
    (h : ∀ g cap w', Own B w' (.slice (some ⟨g, 0, none⟩) (xs.length + 1) cap) (xs ++ [y]) → w.grownBy w' v.ownBlock → (v.ownBlock = some g ∨ g = w.heap.size) → K (a.put o.dst (.slice (some ⟨g, 0, none⟩) (xs.length + 1) cap)) w') :
    if Region.wanted o (yielded ops a.tmps) = true then Oper.wp Tryd.prog o a w K Q else E := by
  obtain ⟨i0, hi0, hz0, hz1, hz2⟩ := info_parts infoI'
  refine step_append_lies w hgd s x 22 ho B 3 i0 _ 1 8 Tryd.underlying22 hi0 hz0 hz1 hz2 rfl (by decide) v xs.length (xs.map (Value.int .i64)) hs hown ⟨b, 0, none⟩ 1 c [.int .i64 y] hx (by simp) ?_ (by simp [Value.oneCell']) (by omega) (by simp only [maxLen]; omega) (by omega) hB w.heap.size rfl ?_
  · intro j u hj
    match j with
    | 0 => simp at hj; subst hj; simpa [Addr.add] using hc
    | j + 1 => simp at hj
  · intro g cap w' h1 h2 h3 h4
    refine h g cap w' ?_ h2 h3
    unfold Own
    simpa using h1

theorem grow_kept' {B' : Nat} {W w' : World} {u v : Value} {us : List Int} (hu : Own B' W u us) (ha : Apart u v) (hg : W.grownBy w' v.ownBlock) : Own B' w' u us := by
  refine World.ownsRow.kept hu hg ?_
  cases h : u.ownBlock with
  | none => exact .inl rfl
  | some k => right; intro e; exact ha k h e.symm

theorem grow_apart' {B' : Nat} {W : World} {u v : Value} {g n c : Nat} {us : List Int} (hu : Own B' W u us) (ha : Apart u v) (hv : v.ownBlock = some g ∨ g = W.heap.size) : Apart u (.slice (some ⟨g, 0, none⟩) n c) := by
  intro k h1 h2
  have e : k = g := by simpa [Value.ownBlock] using h2.symm
  subst e
  rcases hv with e | e
  · exact ha k h1 e
  · have := (hu.lt _ h1).2; omega

theorem Own.cell {B : Nat} {w : World} {g n c : Nat} {xs : List Int} (h : Own B w (.slice (some ⟨g, 0, none⟩) n c) xs) (hn : xs.length = n) {i : Nat} (hi : i < n) : w.cell? ⟨g, i, none⟩ = some (.int .i64 (at_ xs i)) := by
  obtain ⟨_, _, e, _, _, hc⟩ := h.form hn (by omega)
  cases e
  exact hc i hi

theorem one_drew (w : World) (y : Int) : (w.alloc (.cells #[.int .i64 y] 3)).drew.cell? ⟨w.heap.size, 0, none⟩ = some (.int .i64 y) :=
  Own.cell (B := w.heap.size) (n := 1) (c := 1) (World.ownsRow.drew (Own.one w y (Nat.le_refl _))) rfl (Nat.zero_lt_one)
theorem Own.drew_alloc {B : Nat} {w : World} {v : Value} {xs : List Int} (h : Own B w v xs) (o : Obj) : Own B (w.alloc o).drew v xs := World.ownsRow.drew (h.alloc o)

end Go.Proofs.YtfbgnnelnpcbiaaDoor

namespace Go.Proofs.YtfbgnnelnpcbiaaDoor
open Go.RowKit

theorem mod_eq (n m : Int) (hm : 0 < m) : (n.tmod m + m) % m = n % m := by
  have h := Int.tmod_def n m
  rw [h, show n - m * n.tdiv m + m = n + m * (1 - n.tdiv m) by rw [Int.mul_sub, Int.mul_one]; omega]
  exact Int.add_mul_emod_self_left ..
theorem tmod_bd (n m : Int) (hm : 0 < m) : -m < n.tmod m ∧ n.tmod m < m := by
  have h1 := Int.natAbs_tmod n m
  have h2 := Nat.mod_lt n.natAbs (show 0 < m.natAbs by omega)
  omega

/-- The number of a list with an index modulo its length; 0 if there is none. -/
def atM (xs : List Int) (i : Int) : Int := if xs.length = 0 then 0 else at_ xs (i % xs.length).toNat
theorem at_FB {xs : List Int} (h : ∀ x ∈ xs, FB x) (i : Nat) : FB (at_ xs i) := by
  unfold at_
  by_cases hi : i < xs.length
  · rw [List.getElem?_eq_getElem hi]; exact h _ (List.getElem_mem hi)
  · rw [List.getElem?_eq_none (by omega)]; exact ⟨by decide, by decide⟩
theorem atM_FB {xs : List Int} (h : ∀ x ∈ xs, FB x) (i : Int) : FB (atM xs i) := by
  unfold atM; split
  · exact ⟨by decide, by decide⟩
  · exact at_FB h _

end Go.Proofs.YtfbgnnelnpcbiaaDoor

/- Plain words: positions that are moved, or are c times as great: the groups are the same, the weights c times as great. No program here. -/
namespace Go.Proofs.YtfbgnnelnpcbiaaDoor

theorem mul_inj {c a b : Int} (hc : 1 ≤ c) : c * a = c * b ↔ a = b :=
  ⟨fun h => Int.eq_of_mul_eq_mul_left (by omega) h, fun h => by rw [h]⟩
theorem mul_lt {c a b : Int} (hc : 1 ≤ c) : c * a < c * b ↔ a < b :=
  ⟨fun h => Int.lt_of_mul_lt_mul_left h (by omega), fun h => Int.mul_lt_mul_of_pos_left h (by omega)⟩

theorem rat_scale {c : Int} (hc : 1 ≤ c) (a b : Int) : rat (c * a) (c * b) = rat a b := by
  have e (k x y : Int) : (c * x = k * (c * y)) = (x = k * y) := by
    rw [show k * (c * y) = c * (k * y) by rw [← Int.mul_assoc, ← Int.mul_assoc, Int.mul_comm k c]]
    exact propext (mul_inj hc)
  unfold rat
  simp only [e, mul_inj hc]

theorem min_scale {c : Int} (hc : 1 ≤ c) (a b : Int) : min (c * a) (c * b) = c * min a b := by
  by_cases h : a ≤ b
  · rw [Int.min_eq_left h, Int.min_eq_left (Int.mul_le_mul_of_nonneg_left h (by omega))]
  · have h1 : c * b ≤ c * a := Int.mul_le_mul_of_nonneg_left (by omega) (by omega)
    rw [Int.min_eq_right h1, Int.min_eq_right (show b ≤ a by omega)]

/-- ys has as many positions as xs, with intervals c times as great. -/
structure Like (c : Int) (xs ys : List Int) : Prop where
  pos : 1 ≤ c
  len : ys.length = xs.length
  gap : ∀ i, i + 1 < xs.length → at_ ys (i + 1) - at_ ys i = c * (at_ xs (i + 1) - at_ xs i)

theorem Like.many {c : Int} {xs ys : List Int} (h : Like c xs ys) (i : Nat) : many ys i = many xs i := by
  unfold Go.Proofs.YtfbgnnelnpcbiaaDoor.many
  rw [h.len]
  by_cases hi : i + 2 < xs.length
  · rw [h.gap i (by omega), show i + 2 = i + 1 + 1 from rfl, h.gap (i + 1) hi, rat_scale h.pos]
  · simp only [hi, false_and, if_false]

theorem Like.grF {c : Int} {xs ys : List Int} (h : Like c xs ys) (f : Nat) : ∀ i, grF ys f i = grF xs f i := by
  induction f with
  | zero => intro i; rfl
  | succ f ih =>
    intro i
    unfold Go.Proofs.YtfbgnnelnpcbiaaDoor.grF
    rw [h.len, h.many, ih]

theorem Like.grs {c : Int} {xs ys : List Int} (h : Like c xs ys) : grs ys = grs xs := by
  unfold Go.Proofs.YtfbgnnelnpcbiaaDoor.grs grsFrom
  rw [h.len, h.grF]

def scP (c : Int) (p : Nat × Int) : Nat × Int := (p.1, c * p.2)

theorem Like.con {c : Int} {xs ys : List Int} (h : Like c xs ys) {g : Nat × Nat} (hg : g ∈ Go.Proofs.YtfbgnnelnpcbiaaDoor.grs xs) : con ys g = (con xs g).map (scP c) := by
  obtain ⟨_, h1, h2, _⟩ := grF_bd xs xs.length 0 g hg
  obtain ⟨i, m⟩ := g
  simp only at h1 h2
  unfold Go.Proofs.YtfbgnnelnpcbiaaDoor.con
  simp only
  have g0 := h.gap i (by omega)
  rcases h2 with rfl | rfl
  · rw [g0]
    simp only [if_true, List.map_cons, List.map_nil, scP]
    congr 2
    · rw [Int.mul_left_comm]
    · rw [Int.mul_left_comm]
  · have g1 := h.gap (i + 1) h1
    rw [show i + 2 = i + 1 + 1 from rfl, g0, g1, rat_scale h.pos, min_scale h.pos]
    have hc := h.pos
    simp only [mul_lt hc, show ¬ (2 : Nat) = 1 from by decide, if_false, List.map_cons, List.map_nil, scP]
    generalize rat _ _ = k
    generalize (min _ _ : Int) = m
    generalize 6 / k = q
    split <;> simp only [List.cons.injEq, Prod.mk.injEq, true_and, and_true] <;> refine ⟨?_, ?_, ?_⟩ <;> grind

theorem Like.cons {c : Int} {xs ys : List Int} (h : Like c xs ys) : cons ys = (cons xs).map (scP c) := by
  unfold Go.Proofs.YtfbgnnelnpcbiaaDoor.cons
  rw [h.grs, List.map_flatMap, List.flatMap, List.flatMap]
  congr 1
  exact List.map_congr_left fun g hg => h.con hg

theorem addW_scale (c : Int) (l : List Int) (p : Nat × Int) : addW (l.map (c * ·)) (scP c p) = (addW l p).map (c * ·) := by
  unfold addW scP at_
  rw [List.map_set]
  congr 1
  simp only [List.getElem?_map]
  cases l[p.1]? with
  | none => simp
  | some x => simp [Int.mul_add]

theorem fold_scale (c : Int) (L : List (Nat × Int)) : ∀ l : List Int, (L.map (scP c)).foldl addW (l.map (c * ·)) = (L.foldl addW l).map (c * ·) := by
  induction L with
  | nil => intro l; rfl
  | cons p L ih => intro l; rw [List.map_cons, List.foldl_cons, List.foldl_cons, addW_scale, ih]

theorem Like.wts {c : Int} {xs ys : List Int} (h : Like c xs ys) : wts ys = (wts xs).map (c * ·) := by
  unfold Go.Proofs.YtfbgnnelnpcbiaaDoor.wts
  rw [h.cons, h.len, ← fold_scale]
  congr 1
  simp

theorem at_map (f : Int → Int) (xs : List Int) (i : Nat) (h : i < xs.length) : at_ (xs.map f) i = f (at_ xs i) := by simp [at_, h]

theorem wts_shift (xs : List Int) (by' : Int) : wts (xs.map (· + by')) = wts xs := by
  have h : Like 1 xs (xs.map (· + by')) := ⟨by omega, by simp, fun i hi => by rw [at_map _ _ _ hi, at_map _ _ _ (by omega)]; omega⟩
  rw [h.wts]; simp

theorem wts_scale (xs : List Int) (n : Int) (hn : 1 ≤ n) : wts (xs.map (· * n)) = (wts xs).map (n * ·) := by
  have h : Like n xs (xs.map (· * n)) := ⟨hn, by simp, fun i hi => by rw [at_map _ _ _ hi, at_map _ _ _ (by omega), Int.mul_sub, Int.mul_comm n, Int.mul_comm n]⟩
  exact h.wts
end Go.Proofs.YtfbgnnelnpcbiaaDoor

/- Plain words: what the weights make of a polynomial is 36 times its integral. No program here. -/
namespace Go.Proofs.YtfbgnnelnpcbiaaDoor

def poly (c0 c1 c2 x : Int) : Int := c0 + c1 * x + c2 * x * x
def integ (c0 c1 c2 a b : Int) : Int := 36 * c0 * (b - a) + 18 * c1 * (b * b - a * a) + 12 * c2 * (b * b * b - a * a * a)

theorem integ_add (c0 c1 c2 a b d : Int) : integ c0 c1 c2 a b + integ c0 c1 c2 b d = integ c0 c1 c2 a d := by
  unfold integ; grind
theorem integ_self (c0 c1 c2 a : Int) : integ c0 c1 c2 a a = 0 := by
  unfold integ; simp

/-- Rising, said of each index. -/
def Up (xs : List Int) : Prop := ∀ i, i + 1 < xs.length → at_ xs i < at_ xs (i + 1)

/-- The sum of weights times the values of a polynomial. -/
def sumQ (c0 c1 c2 : Int) (xs : List Int) : List (Nat × Int) → Int
  | [] => 0
  | p :: L => p.2 * poly c0 c1 c2 (at_ xs p.1) + sumQ c0 c1 c2 xs L

theorem sumQ_app (c0 c1 c2 : Int) (xs : List Int) (L M : List (Nat × Int)) : sumQ c0 c1 c2 xs (L ++ M) = sumQ c0 c1 c2 xs L + sumQ c0 c1 c2 xs M := by
  induction L with
  | nil => simp [sumQ]
  | cons p L ih => simp only [List.cons_append, sumQ, ih]; omega

theorem many_two' {xs : List Int} {i : Nat} (h : many xs i = 2) : i + 2 < xs.length ∧ rat (at_ xs (i + 1) - at_ xs i) (at_ xs (i + 2) - at_ xs (i + 1)) ≠ 0 := by
  unfold many at h
  split at h
  · assumption
  · simp at h

theorem rat_vals {a b : Int} (ha : 0 < a) (hb : 0 < b) (h : rat a b ≠ 0) : (rat a b = 1 ∧ a = b) ∨ (rat a b = 2 ∧ a < b ∧ b = 2 * a) ∨ (rat a b = 2 ∧ b < a ∧ a = 2 * b) ∨ (rat a b = 3 ∧ a < b ∧ b = 3 * a) ∨ (rat a b = 3 ∧ b < a ∧ a = 3 * b) := by
  unfold rat at *
  split
  · exact .inl ⟨rfl, by assumption⟩
  · split
    · rename_i h1 h2; rcases h2 with h2 | h2
      · exact .inr (.inl ⟨rfl, by omega, h2⟩)
      · exact .inr (.inr (.inl ⟨rfl, by omega, h2⟩))
    · split
      · rename_i h1 h2 h3; rcases h3 with h3 | h3
        · exact .inr (.inr (.inr (.inl ⟨rfl, by omega, h3⟩)))
        · exact .inr (.inr (.inr (.inr ⟨rfl, by omega, h3⟩)))
      · rename_i h1 h2 h3; rw [if_neg h1, if_neg h2, if_neg h3] at h; exact absurd rfl h

theorem con_exact (c0 c1 c2 : Int) {xs : List Int} (hu : Up xs) {i m : Nat} (hi : i + 1 < xs.length) (hm : m = many xs i) (hc : c2 = 0 ∨ m = 2) :
    sumQ c0 c1 c2 xs (con xs (i, m)) = integ c0 c1 c2 (at_ xs i) (at_ xs (i + m)) := by
  have u0 := hu i hi
  rcases many_or xs i with h | h
  · rw [h] at hm; subst hm
    have hc : c2 = 0 := by omega
    subst hc
    unfold con
    simp only [if_true, sumQ, poly, integ]
    generalize at_ xs i = x at *
    generalize at_ xs (i + 1) = y at *
    grind
  · rw [h] at hm; subst hm
    obtain ⟨h2, hr⟩ := many_two' h
    have u1 := hu (i + 1) h2
    have e1 : at_ xs (i + 1 + 1) = at_ xs (i + 2) := rfl
    rw [e1] at u1
    unfold con
    simp only [show ¬ (2 : Nat) = 1 from by decide, if_false, sumQ, poly, integ]
    generalize at_ xs i = x at *
    generalize at_ xs (i + 1) = y at *
    generalize at_ xs (i + 2) = z at *
    rcases rat_vals (a := y - x) (b := z - y) (by omega) (by omega) hr with ⟨k, h⟩ | ⟨k, l, h⟩ | ⟨k, l, h⟩ | ⟨k, l, h⟩ | ⟨k, l, h⟩ <;> rw [k]
    · obtain rfl : z = 2 * y - x := by omega
      have e : min (y - x) (2 * y - x - y) = y - x := by rw [Int.min_def]; split <;> omega
      rw [e, if_neg (by omega), if_neg (by omega)]
      simp only [show (6 : Int) / 1 = 6 from rfl]
      grind
    · obtain rfl : z = 3 * y - 2 * x := by omega
      have e : min (y - x) (3 * y - 2 * x - y) = y - x := by rw [Int.min_def]; split <;> omega
      rw [e, if_neg (by omega), if_neg (by omega)]
      simp only [show (6 : Int) / 2 = 3 from rfl]
      grind
    · obtain rfl : x = 3 * y - 2 * z := by omega
      have e : min (y - (3 * y - 2 * z)) (z - y) = z - y := by rw [Int.min_def]; split <;> omega
      rw [e, if_pos (by omega), if_pos (by omega)]
      simp only [show (6 : Int) / 2 = 3 from rfl]
      grind
    · obtain rfl : z = 4 * y - 3 * x := by omega
      have e : min (y - x) (4 * y - 3 * x - y) = y - x := by rw [Int.min_def]; split <;> omega
      rw [e, if_neg (by omega), if_neg (by omega)]
      simp only [show (6 : Int) / 3 = 2 from rfl]
      grind
    · obtain rfl : x = 4 * y - 3 * z := by omega
      have e : min (y - (4 * y - 3 * z)) (z - y) = z - y := by rw [Int.min_def]; split <;> omega
      rw [e, if_pos (by omega), if_pos (by omega)]
      simp only [show (6 : Int) / 3 = 2 from rfl]
      grind

/-- With intervals of at most M what a group adds is at most 48 M. -/
theorem con_48 {M : Int} {xs : List Int} {i m : Nat} (hi : i + 1 < xs.length) (hm : m = many xs i) (hM : 0 ≤ M) (hg : ∀ i, i + 1 < xs.length → 1 ≤ at_ xs (i + 1) - at_ xs i ∧ at_ xs (i + 1) - at_ xs i ≤ M) :
    ∀ q ∈ con xs (i, m), -(48 * M) ≤ q.2 ∧ q.2 ≤ 48 * M := by
  have u0 := hg i hi
  rcases many_or xs i with h | h
  · rw [h] at hm; subst hm
    unfold con
    intro q hq
    simp only [if_true, List.mem_cons, List.not_mem_nil, or_false] at hq
    rcases hq with rfl | rfl <;> (simp only; omega)
  · rw [h] at hm; subst hm
    obtain ⟨h2, hr⟩ := many_two' h
    have u1 := hg (i + 1) h2
    have e1 : at_ xs (i + 1 + 1) = at_ xs (i + 2) := rfl
    rw [e1] at u1
    unfold con
    intro q hq
    simp only [show ¬ (2 : Nat) = 1 from by decide, if_false, List.mem_cons, List.not_mem_nil, or_false] at hq
    generalize at_ xs i = x at *
    generalize at_ xs (i + 1) = y at *
    generalize at_ xs (i + 2) = z at *
    rcases rat_vals (a := y - x) (b := z - y) (by omega) (by omega) hr with ⟨k, h⟩ | ⟨k, l, h⟩ | ⟨k, l, h⟩ | ⟨k, l, h⟩ | ⟨k, l, h⟩ <;> rw [k] at hq <;> rw [Int.min_def] at hq <;>
      simp only [show (6 : Int) / 1 = 6 from rfl, show (6 : Int) / 2 = 3 from rfl, show (6 : Int) / 3 = 2 from rfl] at hq <;>
      rcases hq with rfl | rfl | rfl <;> simp only <;> (repeat' split) <;> omega

theorem grF_exact (c0 c1 c2 : Int) {xs : List Int} (hu : Up xs) (f : Nat) : ∀ i, xs.length ≤ i + f → i < xs.length → (c2 = 0 ∨ ∀ g ∈ grF xs f i, g.2 = 2) →
    sumQ c0 c1 c2 xs ((grF xs f i).flatMap (con xs)) = integ c0 c1 c2 (at_ xs i) (at_ xs (xs.length - 1)) := by
  induction f with
  | zero => intro i h1 h2; omega
  | succ f ih =>
    intro i h1 h2 hc
    by_cases h : i + 1 < xs.length
    · have hb := grF_bd xs (f + 1) i
      have ho := many_or xs i
      have hlt : i + many xs i < xs.length := by unfold many; split <;> omega
      unfold grF at hc ⊢
      rw [if_pos h] at hc ⊢
      rw [List.flatMap_cons, sumQ_app, con_exact c0 c1 c2 hu h rfl, ih _ (by omega) hlt, integ_add]
      · rcases hc with hc | hc
        · exact .inl hc
        · exact .inr fun g hg => hc g (List.mem_cons_of_mem _ hg)
      · rcases hc with hc | hc
        · exact .inl hc
        · exact .inr (hc _ List.mem_cons_self)
    · rw [grF_end _ _ _ h]
      obtain rfl : i = xs.length - 1 := by omega
      rw [integ_self]; rfl

theorem cons_exact (c0 c1 c2 : Int) {xs : List Int} (hu : Up xs) (h2 : 1 ≤ xs.length) (hc : c2 = 0 ∨ ∀ g ∈ grs xs, g.2 = 2) : sumQ c0 c1 c2 xs (cons xs) = integ c0 c1 c2 (at_ xs 0) (at_ xs (xs.length - 1)) :=
  grF_exact c0 c1 c2 hu xs.length 0 (by omega) (by omega) hc

/-- The sum over the groups is the sum that a dot gives. -/
theorem dot_sumQ (c0 c1 c2 : Int) (xs vs : List Int) (L : List (Nat × Int)) (h : ∀ p ∈ L, at_ vs p.1 = poly c0 c1 c2 (at_ xs p.1)) : ∀ s, L.foldl (sumP vs) s = s + sumQ c0 c1 c2 xs L := by
  induction L with
  | nil => intro s; simp [sumQ]
  | cons p L ih =>
    intro s
    rw [List.foldl_cons, ih (fun q hq => h q (List.mem_cons_of_mem _ hq))]
    simp only [sumQ, sumP]
    rw [h p List.mem_cons_self]; omega

theorem at_part (xs : List Int) (a m i : Nat) (h : i < m) : at_ ((xs.drop a).take m) i = at_ xs (a + i) := by
  unfold at_; rw [List.getElem?_take_of_lt h, List.getElem?_drop]

theorem grs_two {xs : List Int} (hl : xs.length = 3) (hr : rat (at_ xs 1 - at_ xs 0) (at_ xs 2 - at_ xs 1) ≠ 0) : grs xs = [(0, 2)] := by
  have hm : many xs 0 = 2 := by unfold many; rw [if_pos ⟨by omega, hr⟩]
  unfold grs
  rw [grsFrom_step xs 0 (by omega), hm, grsFrom_end xs _ (by omega)]
end Go.Proofs.YtfbgnnelnpcbiaaDoor

namespace Go.Proofs.YtfbgnnelnpcbiaaDoor
open Go.RowKit

/-- Positions from 0 to 49 on, with steps of at most M. -/
structure Stp (M : Int) (xs : List Int) : Prop where
  one : 1 ≤ xs.length
  lo : 0 ≤ at_ xs 0
  hi : at_ xs 0 ≤ 49
  gap : ∀ i, i + 1 < xs.length → 1 ≤ at_ xs (i + 1) - at_ xs i ∧ at_ xs (i + 1) - at_ xs i ≤ M

theorem Stp.bd {M : Int} {xs : List Int} (h : Stp M xs) : ∀ i : Nat, i < xs.length → 0 ≤ at_ xs i ∧ at_ xs i ≤ 49 + M * i := by
  intro i
  induction i with
  | zero => intro _; have := h.lo; have := h.hi; simp; omega
  | succ i ih =>
    intro hi
    have := ih (by omega)
    have := h.gap i hi
    rw [Int.natCast_add, Int.mul_add]; omega

theorem at_snoc (xs : List Int) (x : Int) (i : Nat) : at_ (xs ++ [x]) i = if i = xs.length then x else at_ xs i := by
  unfold at_
  by_cases h : i < xs.length
  · rw [List.getElem?_append_left h, if_neg (by omega)]
  · rw [List.getElem?_append_right (by omega)]
    by_cases h2 : i = xs.length
    · subst h2; simp
    · rw [if_neg h2, List.getElem?_eq_none (show xs.length ≤ i by omega), List.getElem?_eq_none (show [x].length ≤ i - xs.length by simp only [List.length_cons, List.length_nil]; omega)]

theorem Stp.snoc {M : Int} {xs : List Int} (h : Stp M xs) {j : Nat} (hj : xs.length = j + 1) {p : Int} (h1 : 1 ≤ p) (h2 : p ≤ M) : Stp M (xs ++ [at_ xs j + p]) := by
  refine ⟨by simp, ?_, ?_, fun i hi => ?_⟩
  · rw [at_snoc, if_neg (by omega)]; exact h.lo
  · rw [at_snoc, if_neg (by omega)]; exact h.hi
  · simp only [List.length_append, List.length_cons, List.length_nil] at hi
    rw [at_snoc, at_snoc, if_neg (show ¬ i = xs.length by omega)]
    by_cases h3 : i + 1 = xs.length
    · rw [if_pos h3]
      obtain rfl : i = j := by omega
      omega
    · rw [if_neg h3]; exact h.gap i (by omega)

theorem Stp.single {M x : Int} (h1 : 0 ≤ x) (h2 : x ≤ 49) : Stp M [x] := ⟨by simp, by simpa [at_] using h1, by simpa [at_] using h2, fun i hi => by simp at hi⟩

theorem Stp.fb {M : Int} {xs : List Int} (h : Stp M xs) (h9 : xs.length ≤ 9) (hM : 0 ≤ M) (hM2 : M ≤ 100000) : ∀ x ∈ xs, FB x := by
  intro x hx
  obtain ⟨i, hi, rfl⟩ := List.mem_iff_getElem.1 hx
  have := h.bd i hi
  rw [at_get hi] at this
  have h2 : M * (i : Int) ≤ M * 9 := Int.mul_le_mul_of_nonneg_left (by omega) hM
  exact ⟨by omega, by omega⟩

/-- What a call has drawn up: a fresh slice of positions. -/
def Drawn (B : Nat) (most : Int) (many : Nat) (e : Ending) (w w' : World) : Prop :=
  ∃ v xs, e = .returned v ∧ Own B w' v xs ∧ Stp (3 * most) xs ∧ 2 ≤ xs.length ∧ xs.length ≤ many ∧ Below w.heap.size w w'

end Go.Proofs.YtfbgnnelnpcbiaaDoor

namespace Go.Proofs.YtfbgnnelnpcbiaaDoor
open Go.RowKit

/-- The sum of the first k products of two lists. -/
def ipN (l vs : List Int) : Nat → Int
  | 0 => 0
  | k + 1 => ipN l vs k + at_ l k * at_ vs k

theorem ipN_add (l vs : List Int) (i : Nat) (x : Int) (hi : i < l.length) (k : Nat) : ipN (addW l (i, x)) vs k = ipN l vs k + (if i < k then x * at_ vs i else 0) := by
  induction k with
  | zero => simp [ipN]
  | succ k ih =>
    show ipN (addW l (i, x)) vs k + at_ (addW l (i, x)) k * at_ vs k = ipN l vs k + at_ l k * at_ vs k + _
    rw [ih]
    have e : at_ (addW l (i, x)) k = if k = i ∧ i < l.length then at_ l i + x else at_ l k := at_set l i k _
    rw [e]
    by_cases h : k = i
    · subst h; rw [if_neg (show ¬ k < k by omega), if_pos (show k = k ∧ k < l.length from ⟨rfl, hi⟩), if_pos (show k < k + 1 by omega), Int.add_mul]; omega
    · rw [if_neg (show ¬ (k = i ∧ i < l.length) from fun h' => h h'.1)]
      by_cases h2 : i < k
      · rw [if_pos h2, if_pos (show i < k + 1 by omega)]; omega
      · rw [if_neg h2, if_neg (show ¬ i < k + 1 by omega)]; omega

theorem ipN_fold (vs : List Int) (n : Nat) (L : List (Nat × Int)) : ∀ (l : List Int) (s : Int), l.length = n → (∀ p ∈ L, p.1 < n) → ipN (L.foldl addW l) vs n + s = ipN l vs n + L.foldl (sumP vs) s := by
  induction L with
  | nil => intro l s _ _; rfl
  | cons p L ih =>
    intro l s hl hp
    have h2 := ih (addW l p) (sumP vs s p) (by rw [addW_len]; exact hl) (fun q hq => hp q (List.mem_cons_of_mem _ hq))
    have h1 : ipN (addW l p) vs n = ipN l vs n + p.2 * at_ vs p.1 := by
      have := ipN_add l vs p.1 p.2 (by rw [hl]; exact hp p List.mem_cons_self) n
      rw [if_pos (hp p List.mem_cons_self)] at this
      exact this
    have e : sumP vs s p = s + p.2 * at_ vs p.1 := rfl
    rw [List.foldl_cons, List.foldl_cons]
    omega

theorem ipN_zero (n : Nat) (vs : List Int) (k : Nat) : ipN (List.replicate n 0) vs k = 0 := by
  induction k with
  | zero => rfl
  | succ k ih =>
    show ipN _ vs k + at_ _ k * _ = 0
    have e : at_ (List.replicate n 0) k = 0 := by have := lim_zero n k; omega
    rw [ih, e]; simp

theorem dot_ip {xs : List Int} (vs : List Int) (hp : Pos xs) : dot xs vs = ipN (wts xs) vs xs.length := by
  have h := ipN_fold vs xs.length (cons xs) (List.replicate xs.length 0) 0 (by simp) (fun p h => ((cons_bd hp).2 p h).1)
  rw [ipN_zero] at h
  unfold dot wts; omega

theorem ipN_lim {K V : Int} {l vs : List Int} (hl : Lim K l) (hv : Lim V vs) (k : Nat) : -(K * V * k) ≤ ipN l vs k ∧ ipN l vs k ≤ K * V * k := by
  induction k with
  | zero => simp [ipN]
  | succ k ih =>
    have h := mul_lim (hl k) (hv k)
    have e : K * V * ((k + 1 : Nat) : Int) = K * V * (k : Int) + K * V := by rw [Int.natCast_add, Int.mul_add]; omega
    rw [e]
    have e2 : ipN l vs (k + 1) = ipN l vs k + at_ l k * at_ vs k := rfl
    omega

/-- A step of the sum of weights times ordinates, with all that the arithmetic asks. -/
theorem ip_step {xs ys : List Int} (hp : Pos xs) (hy : Lim 20000 ys) (k : Nat) (hk : k ≤ 9) :
    ipN (wts xs) ys (k + 1) = ipN (wts xs) ys k + at_ (wts xs) k * at_ ys k ∧ (-90000000000000 ≤ ipN (wts xs) ys k ∧ ipN (wts xs) ys k ≤ 90000000000000) ∧ (-9600000000000 ≤ at_ (wts xs) k * at_ ys k ∧ at_ (wts xs) k * at_ ys k ≤ 9600000000000) := by
  have h1 := ipN_lim (wts_lim hp) hy k
  have h2 := mul_lim (wts_lim hp k) (hy k)
  refine ⟨rfl, ⟨by omega, by omega⟩, by omega, by omega⟩

theorem ipm_step {xs ys : List Int} {about : Int} (hp : Pos xs) (hy : Lim 20000 ys) (h0 : 0 ≤ about) (h1 : about ≤ 100000) (k : Nat) (hk : k < 9) (hx : k < xs.length) :
    ipN (wts xs) (levL xs ys about) (k + 1) = ipN (wts xs) (levL xs ys about) k + at_ (wts xs) k * at_ ys k * (at_ xs k - about) ∧
    (-7680000000000000000 ≤ ipN (wts xs) (levL xs ys about) k ∧ ipN (wts xs) (levL xs ys about) k ≤ 7680000000000000000) ∧
    (-9600000000000 ≤ at_ (wts xs) k * at_ ys k ∧ at_ (wts xs) k * at_ ys k ≤ 9600000000000) ∧
    (-960000000000000000 ≤ at_ (wts xs) k * at_ ys k * (at_ xs k - about) ∧ at_ (wts xs) k * at_ ys k * (at_ xs k - about) ≤ 960000000000000000) ∧
    (-100000 ≤ at_ xs k - about ∧ at_ xs k - about ≤ 100000) := by
  have h3 := ipN_lim (wts_lim hp) (levL_lim hp hy h0 h1) k
  have h4 := mul_lim (wts_lim hp k) (hy k)
  have h5 := pos_bd hp k
  have h6 := mul_lim (a := at_ (wts xs) k * at_ ys k) (b := at_ xs k - about) (K := 9600000000000) (V := 100000) (by omega) (by omega)
  refine ⟨?_, ⟨by omega, by omega⟩, ⟨by omega, by omega⟩, ⟨by omega, by omega⟩, by omega, by omega⟩
  show ipN _ _ k + at_ (wts xs) k * at_ (levL xs ys about) k = _
  rw [levL_at _ _ _ _ hx]; unfold lev; rw [Int.mul_assoc]
end Go.Proofs.YtfbgnnelnpcbiaaDoor

/- Plain words: sums of weights times values are linear; where the groups of positions are those of two parts, the sums add up. No program here. -/
namespace Go.Proofs.YtfbgnnelnpcbiaaDoor

def sumV (vs : List Int) : List (Nat × Int) → Int
  | [] => 0
  | p :: L => p.2 * at_ vs p.1 + sumV vs L

theorem fold_sumV (vs : List Int) (L : List (Nat × Int)) : ∀ s, L.foldl (sumP vs) s = s + sumV vs L := by
  induction L with
  | nil => intro s; simp [sumV]
  | cons p L ih => intro s; rw [List.foldl_cons, ih]; simp only [sumV, sumP]; omega
theorem dot_sumV (xs vs : List Int) : dot xs vs = sumV vs (cons xs) := by unfold dot; rw [fold_sumV]; omega

theorem sumV_app (vs : List Int) (L M : List (Nat × Int)) : sumV vs (L ++ M) = sumV vs L + sumV vs M := by
  induction L with
  | nil => simp [sumV]
  | cons p L ih => simp only [List.cons_append, sumV, ih]; omega

theorem sumV_congr {vs us : List Int} {L : List (Nat × Int)} (h : ∀ p ∈ L, at_ vs p.1 = at_ us p.1) : sumV vs L = sumV us L := by
  induction L with
  | nil => rfl
  | cons p L ih => simp only [sumV, h p List.mem_cons_self, ih fun q hq => h q (List.mem_cons_of_mem _ hq)]

theorem sumV_lin {vs al bs : List Int} {P Q : Int} {L : List (Nat × Int)} (h : ∀ p ∈ L, at_ vs p.1 = P * at_ al p.1 + Q * at_ bs p.1) : sumV vs L = P * sumV al L + Q * sumV bs L := by
  induction L with
  | nil => simp [sumV]
  | cons p L ih =>
    have := ih fun q hq => h q (List.mem_cons_of_mem _ hq)
    simp only [sumV, h p List.mem_cons_self]
    rw [this]; grind

def shP (a : Nat) (p : Nat × Int) : Nat × Int := (p.1 + a, p.2)
def shG (a : Nat) (g : Nat × Nat) : Nat × Nat := (g.1 + a, g.2)

theorem sumV_shift {vs us : List Int} {a : Nat} {L : List (Nat × Int)} (h : ∀ p ∈ L, at_ vs (p.1 + a) = at_ us p.1) : sumV vs (L.map (shP a)) = sumV us L := by
  induction L with
  | nil => rfl
  | cons p L ih => simp only [List.map_cons, sumV, shP, h p List.mem_cons_self, ih fun q hq => h q (List.mem_cons_of_mem _ hq)]

theorem con_lt {xs : List Int} {g : Nat × Nat} (hg : g ∈ grs xs) : ∀ p ∈ con xs g, p.1 < xs.length := by
  obtain ⟨_, h1, h2, _⟩ := grF_bd xs xs.length 0 g hg
  obtain ⟨i, m⟩ := g
  simp only at h1 h2
  rcases h2 with rfl | rfl
  · intro p hp; unfold con at hp; simp at hp; rcases hp with rfl | rfl <;> (simp only; omega)
  · intro p hp; unfold con at hp; simp at hp; rcases hp with rfl | rfl | rfl <;> (simp only; omega)

theorem cons_lt {xs : List Int} : ∀ p ∈ cons xs, p.1 < xs.length := by
  intro p hp
  obtain ⟨g, hg, h⟩ := List.mem_flatMap.1 hp
  exact con_lt hg p h

theorem at_take (xs : List Int) (m i : Nat) (h : i < m) : at_ (xs.take m) i = at_ xs i := by unfold at_; rw [List.getElem?_take_of_lt h]
theorem at_drop (xs : List Int) (a i : Nat) : at_ (xs.drop a) i = at_ xs (a + i) := by unfold at_; rw [List.getElem?_drop]

theorem con_take {xs : List Int} {m : Nat} {g : Nat × Nat} (hg : g ∈ grs (xs.take m)) : con (xs.take m) g = con xs g := by
  obtain ⟨_, h1, h2, _⟩ := grF_bd (xs.take m) (xs.take m).length 0 g hg
  obtain ⟨i, k⟩ := g
  simp only at h1 h2
  rw [List.length_take] at h1
  unfold con
  simp only
  rw [at_take _ _ _ (show i < m by omega), at_take _ _ _ (show i + 1 < m by omega)]
  rcases h2 with rfl | rfl
  · rfl
  · rw [at_take _ _ _ (show i + 2 < m by omega)]

theorem con_drop (xs : List Int) (a : Nat) (g : Nat × Nat) : con xs (shG a g) = (con (xs.drop a) g).map (shP a) := by
  obtain ⟨i, k⟩ := g
  unfold con shG
  simp only [at_drop, show a + i = i + a by omega, show a + (i + 1) = i + a + 1 by omega, show a + (i + 2) = i + a + 2 by omega]
  by_cases hk : k = 1
  · simp only [hk, if_true, List.map_cons, List.map_nil, shP, show i + 1 + a = i + a + 1 by omega]
  · simp only [hk, if_false, List.map_cons, List.map_nil, shP, show i + 1 + a = i + a + 1 by omega, show i + 2 + a = i + a + 2 by omega]

/-- The groups of the whole are those of both parts, which meet at an index. -/
def Agree (xs : List Int) (a : Nat) : Prop := grs xs = grs (xs.take (a + 1)) ++ (grs (xs.drop a)).map (shG a)

theorem Agree.cons {xs : List Int} {a : Nat} (h : Agree xs a) : cons xs = cons (xs.take (a + 1)) ++ (cons (xs.drop a)).map (shP a) := by
  unfold Go.Proofs.YtfbgnnelnpcbiaaDoor.cons
  rw [h, List.flatMap_append]
  congr 1
  · rw [List.flatMap, List.flatMap]; congr 1; exact List.map_congr_left fun g hg => (con_take hg).symm
  · rw [List.map_flatMap, List.flatMap, List.flatMap, List.map_map]; congr 1; exact List.map_congr_left fun g _ => con_drop xs a g

theorem Agree.dot {xs : List Int} {a : Nat} (h : Agree xs a) {vs v1 v2 : List Int} (h1 : ∀ i, i < a + 1 → i < xs.length → at_ v1 i = at_ vs i) (h2 : ∀ i, i + a < xs.length → at_ v2 i = at_ vs (i + a)) :
    dot xs vs = dot (xs.take (a + 1)) v1 + dot (xs.drop a) v2 := by
  rw [dot_sumV, dot_sumV, dot_sumV, h.cons, sumV_app]
  rw [sumV_congr (us := v1) (L := Go.Proofs.YtfbgnnelnpcbiaaDoor.cons (xs.take (a + 1))), sumV_shift (us := v2)]
  · intro p hp
    have := cons_lt p hp
    rw [List.length_drop] at this
    exact (h2 p.1 (by omega)).symm
  · intro p hp
    have := cons_lt p hp
    rw [List.length_take] at this
    exact (h1 p.1 (by omega) (by omega)).symm

theorem dot_lin {xs vs al bs : List Int} {P Q : Int} (h : ∀ i, i < xs.length → at_ vs i = P * at_ al i + Q * at_ bs i) : dot xs vs = P * dot xs al + Q * dot xs bs := by
  rw [dot_sumV, dot_sumV, dot_sumV]
  exact sumV_lin fun p hp => h p.1 (cons_lt p hp)

/-- The weights add up to 36 times the length. -/
theorem dot_ones {xs vs : List Int} (hu : Up xs) (h1 : 1 ≤ xs.length) (h : ∀ i, i < xs.length → at_ vs i = 1) : dot xs vs = 36 * (at_ xs (xs.length - 1) - at_ xs 0) := by
  unfold dot
  rw [dot_sumQ 1 0 0 xs vs (Go.Proofs.YtfbgnnelnpcbiaaDoor.cons xs) (fun p hp => by rw [h p.1 (cons_lt p hp)]; unfold poly; simp), cons_exact 1 0 0 hu h1 (.inl rfl)]
  unfold integ; simp
end Go.Proofs.YtfbgnnelnpcbiaaDoor
