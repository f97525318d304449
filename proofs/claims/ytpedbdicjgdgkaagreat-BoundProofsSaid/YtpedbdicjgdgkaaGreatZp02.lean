import Derived.Test.YtpedbdicjgdgkaaGreatZp01
import Derived.Laws.AppendOwnNone
import Derived.Maps.AppendAt
import Derived.Deep.AppendLies
import Derived.Laws.OwnMore
import Derived.OwnWalk
import Derived.Outline
set_option linter.unusedVariables false
set_option linter.unusedSimpArgs false
/- Slices of the call's own, of any length that can be: of numbers, of limits. -/
namespace Go.Proofs.YtpedbdicjgdgkaaGreat
open Go Go.RowKit

theorem grownBy_refl (w : World) (r : Option Nat) : w.grownBy w r := ⟨rfl, rfl, rfl, Nat.le_refl _, fun _ _ _ => rfl⟩
theorem infoI : (Tryz.prog.info? 3).map (fun i => (i.zero, i.size, i.bytes)) = some (some (.int .i64 0), 1, 8) := by kernel_rfl
theorem infoL : (Tryz.prog.info? 26).map (fun i => (i.zero, i.size, i.bytes)) = some (some (.agg #[.int .i64 0, .int .i64 0, .int .i64 0, .int .i64 0]), 4, 32) := by kernel_rfl

/-- 'append(s, x...)' in a row of operations: s of the call's own, x nil or not. -/
theorem cat_g {ops : Array Oper} {rest : List Oper} {o : Oper} {a : Act} {Q : Exit → Act → World → Prop} (hgd : o.guard = none) (s x : Operand) (t e : TypeId) (i : TypeInfo) (z : Value) (size bytes : Nat)
    (ho : o.op = .call { callee := .builtin .append, args := #[s, x], argTypes := #[t, t] })
    (ht : Tryz.prog.underlying t = some (.slice e)) (hi : Tryz.prog.info? e = some i) (hz : i.zero = some z) (hsize : i.size = size) (hby : i.bytes = bytes) (hzs : z.cells.size = size) (hsz : 0 < size)
    (B : Nat) (W : World) (v : Value) (n : Nat) (xs : List Value) (hs : a.eval s = v) (hown : W.ownsRow B e size v n xs) (y : Value) (m : Nat) (news : List Value) (hx : a.eval x = y)
    (hy : (y = .slice none 0 0 ∧ m = 0) ∨ ∃ b off c, y = .slice (some ⟨b, off, none⟩) m c ∧ ∀ j u, news[j]? = some u → W.cell? ⟨b, off + j, none⟩ = some u) (hl : news.length = m * size) (h1 : ∀ u ∈ news, u.oneCell' = true)
    (hb0 : 0 < bytes) (hbytes : (n + m) * bytes ≤ 140737488355328) (hB : B ≤ W.heap.size)
    (h : ∀ v' w', w'.ownsRow B e size v' (n + m) (xs ++ news) → W.grownBy w' v.ownBlock → (v'.ownBlock = v.ownBlock ∨ v'.ownBlock = some W.heap.size) → (0 < n + m → ∃ g c, v' = .slice (some ⟨g, 0, none⟩) (n + m) c) → wpList Tryz.prog ops Q rest (a.put o.dst v') w') :
    wpList Tryz.prog ops Q (o :: rest) a W := by
  have hform : ∀ {v' : Value} {w' : World}, w'.ownsRow B e size v' (n + m) (xs ++ news) → 0 < n + m → ∃ g c, v' = .slice (some ⟨g, 0, none⟩) (n + m) c := by
    intro v' w' ho h0
    obtain ⟨g, c, e, _⟩ := ho.form h0
    exact ⟨g, c, e⟩
  rcases hy with ⟨rfl, rfl⟩ | ⟨b, off, c, rfl, hc⟩
  · have hn : news = [] := List.eq_nil_of_length_eq_zero (by omega)
    subst hn
    have hown' : W.ownsRow B e size v (n + 0) (xs ++ []) := by simpa using hown
    exact wpList_append_own_none hgd s x t ho B e i size ht hi v n xs hs hown hx (h v W hown' (grownBy_refl W _) (.inl rfl) (hform hown'))
  · have hle : (n + m) * 1 ≤ (n + m) * bytes := Nat.mul_le_mul_left _ hb0
    refine wpList_append_own_at _ hgd s x t ho B e i z size bytes ht hi hz hsize hby hzs hsz v n xs hs hown ⟨b, off, none⟩ m c news hx hl ?_ h1 (by unfold maxLen; omega) hbytes hB ?_
    · intro j u hj
      have := hc j u hj
      by_cases h0 : j = 0
      · subst h0; simpa [Addr.add] using this
      · simpa [Addr.add, h0] using this
    · intro v' w' h1 h2 h3 h4
      exact h v' w' h1 h2 h4 (hform h1)

def OwI (B : Nat) (w : World) (v : Value) (xs : List Int) : Prop := w.ownsRow B 3 1 v xs.length (xs.map (Value.int .i64))
def lmF (l : Lm) : List Value := [.int .i64 l.a, .int .i64 l.b, .int .i64 l.m, .int .i64 l.y]
def OwL (B : Nat) (w : World) (v : Value) (ls : List Lm) : Prop := w.ownsRow B 26 4 v ls.length (ls.flatMap lmF)
/-- A slice that came in, or was made: nil, or with an address. -/
def Nice (v : Value) : Prop := v = .slice none 0 0 ∨ ∃ b off n c, v = .slice (some ⟨b, off, none⟩) n c

theorem lmF_len (ls : List Lm) : (ls.flatMap lmF).length = ls.length * 4 := by
  induction ls with
  | nil => rfl
  | cons l ls ih => rw [List.flatMap_cons, List.length_append, ih]; simp [lmF]; omega
theorem lmF_get (ls : List Lm) : ∀ (i : Nat) (r : Nat), i < ls.length → r < 4 → (ls.flatMap lmF)[i * 4 + r]? = (lmF (lmAt ls i))[r]? := by
  induction ls with
  | nil => intro i r h; simp at h
  | cons l ls ih =>
    intro i r hi hr
    rw [List.flatMap_cons]
    cases i with
    | zero =>
      rw [List.getElem?_append_left (by simp [lmF]; omega)]
      simp [lmAt]
    | succ i =>
      rw [List.getElem?_append_right (by simp [lmF]; omega)]
      have : (i + 1) * 4 + r - (lmF l).length = i * 4 + r := by simp [lmF]; omega
      rw [this, ih i r (by simpa using hi) hr]
      simp [lmAt]
theorem lmF_one (ls : List Lm) : ∀ u ∈ ls.flatMap lmF, u.oneCell' = true := by
  intro u hu
  obtain ⟨l, _, h⟩ := List.mem_flatMap.1 hu
  simp only [lmF, List.mem_cons, List.not_mem_nil, or_false] at h
  rcases h with rfl | rfl | rfl | rfl <;> rfl
theorem ints_one (xs : List Int) : ∀ u ∈ xs.map (Value.int .i64), u.oneCell' = true := by
  intro u hu
  obtain ⟨x, _, rfl⟩ := List.mem_map.1 hu
  rfl

theorem OwI.isL {B : Nat} {w : World} {v : Value} {xs : List Int} (h : OwI B w v xs) (hf : ∀ x ∈ xs, FB x) : IsL w v xs := by
  have h0 := h
  obtain ⟨h1, h2⟩ := h
  rcases h2 with ⟨rfl, hn⟩ | ⟨g, cap, cur, rfl, hb, hh, hc, hm, hsz, ht⟩
  · exact ⟨none, 0, by rw [hn], by omega, Nat.zero_le _, hf, fun hne => absurd (List.length_eq_zero_iff.1 hn) hne⟩
  · refine ⟨some ⟨g, 0, none⟩, cap, rfl, hc, hm, hf, fun _ => ⟨g, 0, rfl, (World.ownsRow.lt h0 g rfl).2, fun i hi => ?_⟩⟩
    rw [Nat.zero_add, World.ownsRow.cellAt h0 _ (by omega)]; simp [hi]
theorem OwL.isS {B : Nat} {w : World} {v : Value} {ls : List Lm} (h : OwL B w v ls) (hf : ∀ l ∈ ls, FL l) : IsS w v ls := by
  have h0 := h
  obtain ⟨h1, h2⟩ := h
  rcases h2 with ⟨rfl, hn⟩ | ⟨g, cap, cur, rfl, hb, hh, hc, hm, hsz, ht⟩
  · exact ⟨none, 0, by rw [hn], by omega, Nat.zero_le _, hf, fun hne => absurd (List.length_eq_zero_iff.1 hn) hne⟩
  · refine ⟨some ⟨g, 0, none⟩, cap, rfl, hc, hm, hf, fun _ => ⟨g, 0, rfl, (World.ownsRow.lt h0 g rfl).2, fun i hi => ?_⟩⟩
    have key : ∀ r, r < 4 → w.cell? ⟨g, 0 + i * 4 + r, none⟩ = (lmF (lmAt ls i))[r]? := fun r hr => by
      rw [Nat.zero_add, World.ownsRow.cellAt h0 _ (by omega)]
      exact lmF_get ls i r hi hr
    exact ⟨key 0 (by omega), key 1 (by omega), key 2 (by omega), key 3 (by omega)⟩
theorem own_nice {B e size n : Nat} {w : World} {v : Value} {xs : List Value} (h : w.ownsRow B e size v n xs) : Nice v := by
  rcases h.2 with ⟨rfl, _⟩ | ⟨g, cap, cur, rfl, _⟩
  · exact .inl rfl
  · exact .inr ⟨_, _, _, _, rfl⟩

/-- What a source of an append holds, its cells in a row. -/
def SrcI (W : World) (y : Value) (ys : List Int) : Prop := (y = .slice none 0 0 ∧ ys = []) ∨ ∃ b off c, y = .slice (some ⟨b, off, none⟩) ys.length c ∧ ∀ i, i < ys.length → W.cell? ⟨b, off + i, none⟩ = some (.int .i64 (ys[i]?.getD 0))
theorem IsL.src {w : World} {v : Value} {xs : List Int} (h : IsL w v xs) (hn : Nice v) : SrcI w v xs := by
  obtain ⟨a, c, rfl, l1, m1, _, k1⟩ := h
  rcases hn with e | ⟨b, off, n, c', e⟩
  · obtain ⟨_, e2, _⟩ := Value.slice.inj e
    have := List.length_eq_zero_iff.1 e2
    subst this
    exact .inl ⟨e, rfl⟩
  · obtain ⟨rfl, rfl, rfl⟩ := Value.slice.inj e
    refine .inr ⟨b, off, _, rfl, fun i hi => ?_⟩
    obtain ⟨_, _, e, _, hc⟩ := k1 (by rintro rfl; simp at hi)
    cases e
    exact hc i hi
theorem catI_w {ops : Array Oper} {rest : List Oper} {o : Oper} {a : Act} {Q : Exit → Act → World → Prop} (hgd : o.guard = none) (s x : Operand)
    (ho : o.op = .call { callee := .builtin .append, args := #[s, x], argTypes := #[27, 27] })
    (B : Nat) (W : World) (v y : Value) (xs ys : List Int) (hown : OwI B W v xs) (hs : a.eval s = v) (hx : a.eval x = y) (hy : SrcI W y ys) (hl : (xs.length + ys.length) * 8 ≤ 140737488355328) (hB : B ≤ W.heap.size)
    (h : ∀ v' w', OwI B w' v' (xs ++ ys) → W.grownBy w' v.ownBlock → (v'.ownBlock = v.ownBlock ∨ v'.ownBlock = some W.heap.size) → (0 < xs.length + ys.length → ∃ g c, v' = .slice (some ⟨g, 0, none⟩) (xs.length + ys.length) c) → wpList Tryz.prog ops Q rest (a.put o.dst v') w') :
    wpList Tryz.prog ops Q (o :: rest) a W := by
  obtain ⟨i0, hi, hz0, hz1, hz2⟩ := info_parts infoI
  refine cat_g hgd s x 27 3 i0 _ 1 8 ho Tryz.underlying27 hi hz0 hz1 hz2 rfl (by decide) B W v xs.length (xs.map (Value.int .i64)) hs hown y ys.length (ys.map (Value.int .i64)) hx ?_ (by simp) (ints_one ys) (by decide) hl hB ?_
  · rcases hy with ⟨rfl, rfl⟩ | ⟨b, off, c, rfl, hc⟩
    · exact .inl ⟨rfl, rfl⟩
    · refine .inr ⟨b, off, c, rfl, fun j u hj => ?_⟩
      rw [List.getElem?_map] at hj
      by_cases hjl : j < ys.length
      · rw [List.getElem?_eq_getElem hjl] at hj
        simp only [Option.map_some, Option.some.injEq] at hj
        subst hj
        have := hc j hjl
        simpa [hjl] using this
      · rw [List.getElem?_eq_none (by omega)] at hj; simp at hj
  · intro v' w' h1 h2 h3 h4
    refine h v' w' ?_ h2 h3 h4
    unfold OwI
    simpa using h1
theorem OwI.none' {B : Nat} (w : World) (hB : B ≤ w.heap.size) : OwI B (w.alloc (.cells #[] 3)) (.slice (some ⟨w.heap.size, 0, none⟩) 0 0) [] := World.ownsRow_lit w #[] 0 hB (by decide) rfl
theorem OwI.nil (B : Nat) (w : World) : OwI B w (.slice none 0 0) [] := World.ownsRow_nil _ _ _ _
theorem grown_bel {B : Nat} {W w' : World} {v : Value} {e size n : Nat} {xs : List Value} (hown : W.ownsRow B e size v n xs) (hB : B ≤ W.heap.size) (hg : W.grownBy w' v.ownBlock) : Below B W w' :=
  (Below.refl B W).grown hg hB (fun k hk => (World.ownsRow.lt hown k hk).1)
theorem srcI_below {B : Nat} {w w' : World} {v : Value} {xs : List Int} (h : IsLB B w v xs) (hn : Nice v) (hb : Below B w w') (hB : B ≤ w.heap.size) : SrcI w' v xs := IsL.src ((h.below hb).isL (Nat.le_trans hB hb.size)) hn
end Go.Proofs.YtpedbdicjgdgkaaGreat

/- A rising list with one number more: the reference's Put. -/
namespace Go.Proofs.YtpedbdicjgdgkaaGreat
open Go Go.RowKit

def insS : List Int → Int → List Int
  | [], n => [n]
  | x :: t, n => if n < x then n :: x :: t else if n = x then x :: t else x :: insS t n
theorem insS_at (n : Int) : ∀ (xs : List Int) (k : Nat), k ≤ xs.length → (∀ i, i < k → xs[i]?.getD 0 < n) → (∀ i, k ≤ i → i < xs.length → n ≤ xs[i]?.getD 0) → insS xs n = if xs[k]? = some n then xs else xs.take k ++ n :: xs.drop k
  | [], k, hk, _, _ => by
    have : k = 0 := by simpa using hk
    subst this
    simp [insS]
  | x :: t, 0, _, _, hhi => by
    have h0 : n ≤ x := by simpa using hhi 0 (Nat.le_refl _) (by simp)
    simp only [insS]
    by_cases h1 : n < x
    · rw [if_pos h1, if_neg (by simp; omega)]; simp
    · have : n = x := by omega
      subst this
      simp
  | x :: t, k + 1, hk, hlo, hhi => by
    have h0 : x < n := by simpa using hlo 0 (by omega)
    simp only [insS]
    rw [if_neg (by omega), if_neg (by omega)]
    rw [insS_at n t k (by simpa using hk) (fun i hi => by simpa using hlo (i + 1) (by omega)) (fun i h1 h2 => by simpa using hhi (i + 1) (by omega) (by simpa using h2))]
    simp only [List.getElem?_cons_succ, List.take_succ_cons, List.drop_succ_cons]
    split <;> simp
theorem insS_mem (n z : Int) : ∀ xs : List Int, z ∈ insS xs n ↔ z = n ∨ z ∈ xs
  | [] => by simp [insS]
  | x :: t => by
    simp only [insS]
    split
    · simp
    · split
      · rename_i h; subst h; simp
      · rw [List.mem_cons, insS_mem n z t, List.mem_cons]
        constructor
        · rintro (h | h | h)
          · exact .inr (.inl h)
          · exact .inl h
          · exact .inr (.inr h)
        · rintro (h | h | h)
          · exact .inr (.inl h)
          · exact .inl h
          · exact .inr (.inr h)
theorem insS_inc (n : Int) : ∀ xs : List Int, xs.Pairwise (· < ·) → (insS xs n).Pairwise (· < ·)
  | [], _ => by simp [insS]
  | x :: t, h => by
    obtain ⟨h1, h2⟩ := List.pairwise_cons.1 h
    simp only [insS]
    split
    · rename_i hx
      refine List.pairwise_cons.2 ⟨fun y hy => ?_, h⟩
      rcases List.mem_cons.1 hy with rfl | hy
      · exact hx
      · have := h1 y hy; omega
    · split
      · exact h
      · refine List.pairwise_cons.2 ⟨fun y hy => ?_, insS_inc n t h2⟩
        rcases (insS_mem n y t).1 hy with rfl | hy
        · omega
        · exact h1 y hy
theorem insS_len (n : Int) : ∀ xs : List Int, (insS xs n).length ≤ xs.length + 1
  | [] => by simp [insS]
  | x :: t => by
    simp only [insS]
    split
    · simp
    · split
      · simp
      · have := insS_len n t; simp; omega
theorem inc_lt {xs : List Int} (h : xs.Pairwise (· < ·)) {i j : Nat} (hij : i < j) (hj : j < xs.length) : xs[i]?.getD 0 < xs[j]?.getD 0 := by
  have := List.pairwise_iff_getElem.1 h i j (by omega) hj hij
  simp [hj, show i < xs.length by omega]
  exact this
/-- Two rising lists with the same members are one list. -/
theorem inc_eq : ∀ {xs ys : List Int}, xs.Pairwise (· < ·) → ys.Pairwise (· < ·) → (∀ z, z ∈ xs ↔ z ∈ ys) → xs = ys
  | [], [], _, _, _ => rfl
  | [], y :: ys, _, _, h => by have := (h y).2 (by simp); cases this
  | x :: xs, [], _, _, h => by have := (h x).1 (by simp); cases this
  | x :: xs, y :: ys, hx, hy, h => by
    obtain ⟨h1, h2⟩ := List.pairwise_cons.1 hx
    obtain ⟨h3, h4⟩ := List.pairwise_cons.1 hy
    have e : x = y := by
      have a := (h x).1 (by simp)
      have b := (h y).2 (by simp)
      rcases List.mem_cons.1 a with a | a
      · exact a
      · rcases List.mem_cons.1 b with b | b
        · exact b.symm
        · have := h3 x a; have := h1 y b; omega
    subst e
    rw [inc_eq h2 h4 (fun z => ?_)]
    constructor
    · intro hz
      have := (h z).1 (List.mem_cons_of_mem _ hz)
      rcases List.mem_cons.1 this with e | e
      · subst e; have := h1 z hz; omega
      · exact e
    · intro hz
      have := (h z).2 (List.mem_cons_of_mem _ hz)
      rcases List.mem_cons.1 this with e | e
      · subst e; have := h3 z hz; omega
      · exact e

theorem take_get {xs : List Int} {k i : Nat} (h : i < (xs.take k).length) : (xs.take k)[i]?.getD 0 = xs[i]?.getD 0 := by
  have : i < k := by rw [List.length_take] at h; omega
  simp [List.getElem?_take, this]
theorem drop_get {xs : List Int} {k i : Nat} : (xs.drop k)[i]?.getD 0 = xs[k + i]?.getD 0 := by simp
end Go.Proofs.YtpedbdicjgdgkaaGreat

/- The reference's Put, walked. -/
namespace Go.Proofs.YtpedbdicjgdgkaaGreat
open Go Go.RowKit

theorem one_src {W : World} {n : Int} {o : Obj} (h : o = .cells #[.int .i64 n] 3) : SrcI (W.alloc o) (.slice (some ⟨W.heap.size, 0, none⟩) 1 1) [n] := by
  subst h
  refine .inr ⟨W.heap.size, 0, 1, rfl, fun i hi => ?_⟩
  have : i = 0 := by simpa using hi
  subst this
  simp

set_option maxRecDepth 100000 in
set_option maxHeartbeats 4000000 in
theorem put_nil_w (n : Int) (w : World) :
    Calls Tryz.prog 66 #[.slice none 0 0, .int .i64 n] w fun e w' => ∃ v, e = .returned v ∧ OwI w.heap.size w' v [n] ∧ Below w.heap.size w w' := by
  have hz0 : (w.alloc (.cells #[] 3)).heap.size = w.heap.size + 1 := World.size_alloc _ _
  have HZ0 := hide hz0
  clear hz0
  go_enter Tryz.func66, Tryz.ntmps66
  go_wp2
  go_loop [5] (fun i => i = .int .i64 0) (fun _ => 0)
  case atStart => rfl
  case round =>
    subst hrel
    go_wp2_with (first
      | (at_builtin; refine catI_w rfl (.tmp 35) (.tmp 38) rfl w.heap.size (w.alloc (.cells #[] 3)) _ (.slice none 0 0) [] [] (OwI.none' w (Nat.le_refl _)) rfl rfl (.inl ⟨rfl, rfl⟩) (by decide) (by rw [HZ0.out]; omega) ?_; intro v1 w1 ho1 hg1 _ _; have hb1 := ((Below.refl w.heap.size w).alloc (Nat.le_refl _) (.cells #[] 3)).trans (grown_bel (OwI.none' w (Nat.le_refl _)) (by rw [HZ0.out]; omega) hg1); have HO1 := hide ho1; have HB1 := hide hb1; clear ho1 hb1 hg1)
      | (at_builtin; refine catI_w rfl (.tmp 40) (.tmp 42) rfl w.heap.size (w1.alloc (.cells #[.int .i64 n] 3)) v1 (.slice (some ⟨w1.heap.size, 0, none⟩) 1 1) ([] ++ []) [n] (World.ownsRow.alloc HO1.out _) rfl rfl (one_src rfl) (by simp) (by have := HB1.out.size; simp; omega) ?_; intro v2 w2 ho2 hg2 _ _; have hb2 := (HB1.out.alloc HB1.out.size _).trans (grown_bel (World.ownsRow.alloc HO1.out _) (by have := HB1.out.size; simp; omega) hg2); have HO2 := hide ho2; have HB2 := hide hb2; clear ho2 hb2 hg2)
      | (at_builtin; refine catI_w rfl (.tmp 44) (.tmp 47) rfl w.heap.size w2 v2 (.slice none 0 0) ([] ++ [] ++ [n]) [] HO2.out rfl rfl (.inl ⟨rfl, rfl⟩) (by simp) HB2.out.size ?_; intro v3 w3 ho3 hg3 _ _; have hb3 := HB2.out.trans (grown_bel HO2.out HB2.out.size hg3)))
    go_ret
    exact ⟨_, rfl, by simpa using ho3, hb3⟩
end Go.Proofs.YtpedbdicjgdgkaaGreat

/- The reference's Put at a slice that is not nil. -/
namespace Go.Proofs.YtpedbdicjgdgkaaGreat
open Go Go.RowKit

theorem src_take {W : World} {b off c k : Nat} {xs : List Int} (hk : k ≤ xs.length) (hc : ∀ i, i < xs.length → W.cell? ⟨b, off + i, none⟩ = some (.int .i64 (xs[i]?.getD 0))) : SrcI W (.slice (some ⟨b, off, none⟩) k c) (xs.take k) := by
  have hl : (xs.take k).length = k := by rw [List.length_take]; omega
  refine .inr ⟨b, off, c, by rw [hl], fun i hi => ?_⟩
  rw [take_get hi]
  exact hc i (by omega)
theorem src_drop {W : World} {b off c k : Nat} {xs : List Int} (hc : ∀ i, i < xs.length → W.cell? ⟨b, off + i, none⟩ = some (.int .i64 (xs[i]?.getD 0))) : SrcI W (.slice (some ⟨b, off + k, none⟩) (xs.length - k) c) (xs.drop k) := by
  refine .inr ⟨b, off + k, c, by rw [List.length_drop], fun i hi => ?_⟩
  rw [drop_get, Nat.add_assoc]
  exact hc _ (by rw [List.length_drop] at hi; omega)

theorem src_drop0 {W : World} {b off c k : Nat} {xs : List Int} (h : xs.length ≤ k) : SrcI W (.slice (some ⟨b, off, none⟩) (xs.length - k) c) (xs.drop k) :=
  .inr ⟨b, off, c, by rw [List.length_drop], fun i hi => absurd hi (by rw [List.length_drop]; omega)⟩

theorem src_end {W : World} {b off c k : Nat} {xs : List Int} (h : xs.length ≤ k) : SrcI W (.slice (some ⟨b, off, none⟩) 0 c) (xs.drop k) := by
  have e : xs.drop k = [] := List.drop_eq_nil_of_le h
  rw [e]
  exact .inr ⟨b, off, c, rfl, fun i hi => absurd hi (by simp)⟩

set_option maxRecDepth 100000 in
set_option maxHeartbeats 4000000 in
theorem put_some_w (b off cap : Nat) (xs : List Int) (n : Int) (w : World) (h : IsL w (.slice (some ⟨b, off, none⟩) xs.length cap) xs) (hinc : xs.Pairwise (· < ·)) (hbig : (xs.length + 1) * 8 ≤ 140737488355328) :
    Calls Tryz.prog 66 #[.slice (some ⟨b, off, none⟩) xs.length cap, .int .i64 n] w fun e w' => ∃ v, e = .returned v ∧ (OwI w.heap.size w' v (insS xs n) ∨ (v = .slice (some ⟨b, off, none⟩) xs.length cap ∧ insS xs n = xs)) ∧ Below w.heap.size w w' := by
  obtain ⟨a', cap', hv, h1, h2, h3, h4⟩ := h
  obtain ⟨rfl, _, rfl⟩ := Value.slice.inj hv
  unfold maxLen at h2
  have hz0 : (w.alloc (.cells #[] 3)).heap.size = w.heap.size + 1 := World.size_alloc _ _
  have HZ0 := hide hz0
  have hcell : xs ≠ [] → b < w.heap.size ∧ ∀ i, i < xs.length → w.cell? ⟨b, off + i, none⟩ = some (.int .i64 (xs[i]?.getD 0)) := by
    intro hne
    obtain ⟨_, _, e, hlt, hc⟩ := h4 hne
    cases e
    exact ⟨hlt, hc⟩
  have HC := hide hcell; have H3 := hide h3; have HI := hide hinc; have HB := hide hbig
  clear hz0 hcell h3 h4 hinc hv hbig
  go_enter Tryz.func66, Tryz.ntmps66
  go_wp2
  go_loop [5] (fun i => ∃ k : Nat, i = .int .i64 k ∧ k ≤ xs.length ∧ Hid (∀ i, k ≤ i → i < xs.length → n ≤ xs[i]?.getD 0)) (fun i => (intOf i).toNat)
  case atStart => exact ⟨xs.length, rfl, Nat.le_refl _, hide (fun i h1 h2 => by omega)⟩
  case round =>
    obtain ⟨k, rfl, hk, hge⟩ := hrel
    by_cases hstop : k = 0 ∨ ∃ j x, k = j + 1 ∧ xs[j]?.getD 0 = x ∧ x < n
    · have HP : Hid (insS xs n = if xs[k]? = some n then xs else xs.take k ++ n :: xs.drop k) := by
        refine insS_at n xs k hk (fun i hi => ?_) hge.out
        rcases hstop with h0 | ⟨j, x, hj, hx, hlt⟩
        · omega
        · by_cases hij : i = j
          · subst hij; omega
          · have := inc_lt HI.out (i := i) (j := j) (by omega) (by omega)
            omega
      clear hge
      have HCW : Hid (∀ W, Below w.heap.size w W → ∀ i, i < xs.length → W.cell? ⟨b, off + i, none⟩ = some (.int .i64 (xs[i]?.getD 0))) := by
        intro W hW i hi
        obtain ⟨hlt, hc⟩ := HC.out (by rintro rfl; simp at hi)
        rw [hW.cell (p := ⟨b, off + i, none⟩) hlt]
        exact hc i hi
      rcases hstop with h0 | ⟨j, x, hkj, hx, hxn⟩
      · subst h0
        by_cases hlen : 0 < xs.length
        · obtain ⟨y, hy⟩ : ∃ y, xs[0]?.getD 0 = y := ⟨_, rfl⟩
          have hck : w.cell? ⟨b, off + 0, none⟩ = some (.int .i64 y) := by rw [← hy]; exact HCW.out w (Below.refl _ _) _ hlen
          have hsome : xs[0]? = some y := by rw [← hy]; simp [hlen]
          simp only [Nat.add_zero] at hck
          have hkc : ¬ cap = 0 := by omega
          by_cases hyn : y = n
          · have HR : Hid (insS xs n = xs) := by show _ = _; rw [HP.out, hsome, hyn, if_pos rfl]
            clear hsome hy HP
            subst hyn
            go_wp2
            go_ret
            exact ⟨_, rfl, .inr ⟨rfl, HR.out⟩, (by repeat (first | exact Below.refl _ _ | assumption | refine Below.alloc ?_ (by first | omega | (simp; omega) | simp) _ | refine Below.setCell ?_ (by first | omega | (simp; omega) | simp) _ | refine below_drewN ?_ _ | refine Below.drew ?_ | refine back ?_ (by assumption)))⟩
          have HR : Hid (insS xs n = xs.take 0 ++ n :: xs.drop 0) := by show _ = _; rw [HP.out, hsome, if_neg (by simp; exact hyn)]
          have hyn' : (y == n) = false := by simp [hyn]
          clear hsome hy HP
          go_wp2_with (first
            | (at_builtin; refine catI_w rfl (.tmp 35) (.tmp 38) rfl w.heap.size (w.alloc (.cells #[] 3)) _ _ [] (xs.take 0) (OwI.none' w (Nat.le_refl _)) rfl rfl (by exact src_take (by omega) (HCW.out _ ((Below.refl w.heap.size w).alloc (Nat.le_refl _) _))) (by have := HB.out; simp only [List.length_append, List.length_take, List.length_nil, List.length_cons]; omega) (by rw [HZ0.out]; omega) ?_; intro v1 w1 ho1 hg1 _ _; have hb1 := ((Below.refl w.heap.size w).alloc (Nat.le_refl _) (.cells #[] 3)).trans (grown_bel (OwI.none' w (Nat.le_refl _)) (by rw [HZ0.out]; omega) hg1); have HO1 := hide ho1; have HB1 := hide hb1; clear ho1 hb1 hg1)
            | (at_builtin; refine catI_w rfl (.tmp 40) (.tmp 42) rfl w.heap.size (w1.alloc (.cells #[.int .i64 n] 3)) v1 (.slice (some ⟨w1.heap.size, 0, none⟩) 1 1) ([] ++ xs.take 0) [n] (World.ownsRow.alloc HO1.out _) rfl rfl (one_src rfl) (by have := HB.out; simp only [List.length_append, List.length_take, List.length_nil, List.length_cons]; omega) (by have := HB1.out.size; simp; omega) ?_; intro v2 w2 ho2 hg2 _ _; have hb2 := (HB1.out.alloc HB1.out.size _).trans (grown_bel (World.ownsRow.alloc HO1.out _) (by have := HB1.out.size; simp; omega) hg2); have HO2 := hide ho2; have HB2 := hide hb2; clear ho2 hb2 hg2)
            | (at_builtin; refine catI_w rfl (.tmp 44) (.tmp 47) rfl w.heap.size w2 v2 _ ([] ++ xs.take 0 ++ [n]) (xs.drop 0) HO2.out rfl rfl (by exact src_drop (k := 0) (HCW.out _ HB2.out)) (by have := HB.out; simp only [List.length_append, List.length_take, List.length_drop, List.length_nil, List.length_cons]; omega) HB2.out.size ?_; intro v3 w3 ho3 hg3 _ _; have hb3 := HB2.out.trans (grown_bel HO2.out HB2.out.size hg3)))
          go_ret
          refine ⟨_, rfl, .inl ?_, hb3⟩
          rw [HR.out]
          simpa using ho3
        · have hkl : 0 = xs.length := by omega
          have HR : Hid (insS xs n = xs.take 0 ++ n :: xs.drop 0) := by show _ = _; rw [HP.out, if_neg (by rw [hkl]; simp)]
          have hnl : ¬ 0 < xs.length := by omega
          have HKL := hide hkl
          clear HP hkl
          by_cases hcap : cap = 0
          · subst hcap
            go_wp2_with (first
              | (at_builtin; refine catI_w rfl (.tmp 35) (.tmp 38) rfl w.heap.size (w.alloc (.cells #[] 3)) _ _ [] (xs.take 0) (OwI.none' w (Nat.le_refl _)) rfl rfl (by exact src_take (by omega) (HCW.out _ ((Below.refl w.heap.size w).alloc (Nat.le_refl _) _))) (by have := HB.out; simp only [List.length_append, List.length_take, List.length_nil, List.length_cons]; omega) (by rw [HZ0.out]; omega) ?_; intro v1 w1 ho1 hg1 _ _; have hb1 := ((Below.refl w.heap.size w).alloc (Nat.le_refl _) (.cells #[] 3)).trans (grown_bel (OwI.none' w (Nat.le_refl _)) (by rw [HZ0.out]; omega) hg1); have HO1 := hide ho1; have HB1 := hide hb1; clear ho1 hb1 hg1)
              | (at_builtin; refine catI_w rfl (.tmp 40) (.tmp 42) rfl w.heap.size (w1.alloc (.cells #[.int .i64 n] 3)) v1 (.slice (some ⟨w1.heap.size, 0, none⟩) 1 1) ([] ++ xs.take 0) [n] (World.ownsRow.alloc HO1.out _) rfl rfl (one_src rfl) (by have := HB.out; simp only [List.length_append, List.length_take, List.length_nil, List.length_cons]; omega) (by have := HB1.out.size; simp; omega) ?_; intro v2 w2 ho2 hg2 _ _; have hb2 := (HB1.out.alloc HB1.out.size _).trans (grown_bel (World.ownsRow.alloc HO1.out _) (by have := HB1.out.size; simp; omega) hg2); have HO2 := hide ho2; have HB2 := hide hb2; clear ho2 hb2 hg2)
              | (at_builtin; refine catI_w rfl (.tmp 44) (.tmp 47) rfl w.heap.size w2 v2 _ ([] ++ xs.take 0 ++ [n]) (xs.drop 0) HO2.out rfl rfl (by have := HKL.out; first | exact src_end (by omega) | exact src_drop0 (by omega) | exact src_drop (HCW.out _ HB2.out)) (by have := HB.out; simp only [List.length_append, List.length_take, List.length_drop, List.length_nil, List.length_cons]; omega) HB2.out.size ?_; intro v3 w3 ho3 hg3 _ _; have hb3 := HB2.out.trans (grown_bel HO2.out HB2.out.size hg3)))
            go_ret
            refine ⟨_, rfl, .inl ?_, hb3⟩
            rw [HR.out]
            simpa using ho3
          · skip
            go_wp2_with (first
              | (at_builtin; refine catI_w rfl (.tmp 35) (.tmp 38) rfl w.heap.size (w.alloc (.cells #[] 3)) _ _ [] (xs.take 0) (OwI.none' w (Nat.le_refl _)) rfl rfl (by exact src_take (by omega) (HCW.out _ ((Below.refl w.heap.size w).alloc (Nat.le_refl _) _))) (by have := HB.out; simp only [List.length_append, List.length_take, List.length_nil, List.length_cons]; omega) (by rw [HZ0.out]; omega) ?_; intro v1 w1 ho1 hg1 _ _; have hb1 := ((Below.refl w.heap.size w).alloc (Nat.le_refl _) (.cells #[] 3)).trans (grown_bel (OwI.none' w (Nat.le_refl _)) (by rw [HZ0.out]; omega) hg1); have HO1 := hide ho1; have HB1 := hide hb1; clear ho1 hb1 hg1)
              | (at_builtin; refine catI_w rfl (.tmp 40) (.tmp 42) rfl w.heap.size (w1.alloc (.cells #[.int .i64 n] 3)) v1 (.slice (some ⟨w1.heap.size, 0, none⟩) 1 1) ([] ++ xs.take 0) [n] (World.ownsRow.alloc HO1.out _) rfl rfl (one_src rfl) (by have := HB.out; simp only [List.length_append, List.length_take, List.length_nil, List.length_cons]; omega) (by have := HB1.out.size; simp; omega) ?_; intro v2 w2 ho2 hg2 _ _; have hb2 := (HB1.out.alloc HB1.out.size _).trans (grown_bel (World.ownsRow.alloc HO1.out _) (by have := HB1.out.size; simp; omega) hg2); have HO2 := hide ho2; have HB2 := hide hb2; clear ho2 hb2 hg2)
              | (at_builtin; refine catI_w rfl (.tmp 44) (.tmp 47) rfl w.heap.size w2 v2 _ ([] ++ xs.take 0 ++ [n]) (xs.drop 0) HO2.out rfl rfl (by exact src_drop (k := 0) (HCW.out _ HB2.out)) (by have := HB.out; simp only [List.length_append, List.length_take, List.length_drop, List.length_nil, List.length_cons]; omega) HB2.out.size ?_; intro v3 w3 ho3 hg3 _ _; have hb3 := HB2.out.trans (grown_bel HO2.out HB2.out.size hg3)))
            go_ret
            refine ⟨_, rfl, .inl ?_, hb3⟩
            rw [HR.out]
            simpa using ho3
      · subst hkj
        obtain ⟨hlt, hc⟩ := HC.out (by rintro rfl; simp at hk)
        have hcj := hc j (by omega)
        rw [hx] at hcj
        clear hx hc
        have e1 : ((j : Int) + 1 - 1) = j := by omega
        by_cases hlen : (j + 1) < xs.length
        · obtain ⟨y, hy⟩ : ∃ y, xs[(j + 1)]?.getD 0 = y := ⟨_, rfl⟩
          have hck : w.cell? ⟨b, off + (j + 1), none⟩ = some (.int .i64 y) := by rw [← hy]; exact HCW.out w (Below.refl _ _) _ hlen
          have hsome : xs[(j + 1)]? = some y := by rw [← hy]; simp [hlen]
          skip
          have hkc : ¬ cap = (j + 1) := by omega
          by_cases hyn : y = n
          · have HR : Hid (insS xs n = xs) := by show _ = _; rw [HP.out, hsome, hyn, if_pos rfl]
            clear hsome hy HP
            subst hyn
            go_wp2
            go_ret
            exact ⟨_, rfl, .inr ⟨rfl, HR.out⟩, (by repeat (first | exact Below.refl _ _ | assumption | refine Below.alloc ?_ (by first | omega | (simp; omega) | simp) _ | refine Below.setCell ?_ (by first | omega | (simp; omega) | simp) _ | refine below_drewN ?_ _ | refine Below.drew ?_ | refine back ?_ (by assumption)))⟩
          have HR : Hid (insS xs n = xs.take (j + 1) ++ n :: xs.drop (j + 1)) := by show _ = _; rw [HP.out, hsome, if_neg (by simp; exact hyn)]
          have hyn' : (y == n) = false := by simp [hyn]
          clear hsome hy HP
          go_wp2_with (first
            | (at_builtin; refine catI_w rfl (.tmp 35) (.tmp 38) rfl w.heap.size (w.alloc (.cells #[] 3)) _ _ [] (xs.take (j + 1)) (OwI.none' w (Nat.le_refl _)) rfl rfl (by exact src_take (by omega) (HCW.out _ ((Below.refl w.heap.size w).alloc (Nat.le_refl _) _))) (by have := HB.out; simp only [List.length_append, List.length_take, List.length_nil, List.length_cons]; omega) (by rw [HZ0.out]; omega) ?_; intro v1 w1 ho1 hg1 _ _; have hb1 := ((Below.refl w.heap.size w).alloc (Nat.le_refl _) (.cells #[] 3)).trans (grown_bel (OwI.none' w (Nat.le_refl _)) (by rw [HZ0.out]; omega) hg1); have HO1 := hide ho1; have HB1 := hide hb1; clear ho1 hb1 hg1)
            | (at_builtin; refine catI_w rfl (.tmp 40) (.tmp 42) rfl w.heap.size (w1.alloc (.cells #[.int .i64 n] 3)) v1 (.slice (some ⟨w1.heap.size, 0, none⟩) 1 1) ([] ++ xs.take (j + 1)) [n] (World.ownsRow.alloc HO1.out _) rfl rfl (one_src rfl) (by have := HB.out; simp only [List.length_append, List.length_take, List.length_nil, List.length_cons]; omega) (by have := HB1.out.size; simp; omega) ?_; intro v2 w2 ho2 hg2 _ _; have hb2 := (HB1.out.alloc HB1.out.size _).trans (grown_bel (World.ownsRow.alloc HO1.out _) (by have := HB1.out.size; simp; omega) hg2); have HO2 := hide ho2; have HB2 := hide hb2; clear ho2 hb2 hg2)
            | (at_builtin; refine catI_w rfl (.tmp 44) (.tmp 47) rfl w.heap.size w2 v2 _ ([] ++ xs.take (j + 1) ++ [n]) (xs.drop (j + 1)) HO2.out rfl rfl (by exact src_drop (k := (j + 1)) (HCW.out _ HB2.out)) (by have := HB.out; simp only [List.length_append, List.length_take, List.length_drop, List.length_nil, List.length_cons]; omega) HB2.out.size ?_; intro v3 w3 ho3 hg3 _ _; have hb3 := HB2.out.trans (grown_bel HO2.out HB2.out.size hg3)))
          go_ret
          refine ⟨_, rfl, .inl ?_, hb3⟩
          rw [HR.out]
          simpa using ho3
        · have hkl : (j + 1) = xs.length := by omega
          have HR : Hid (insS xs n = xs.take (j + 1) ++ n :: xs.drop (j + 1)) := by show _ = _; rw [HP.out, if_neg (by rw [hkl]; simp)]
          have hnl : ¬ (j + 1) < xs.length := by omega
          have HKL := hide hkl
          clear HP hkl
          by_cases hcap : cap = (j + 1)
          · subst hcap
            go_wp2_with (first
              | (at_builtin; refine catI_w rfl (.tmp 35) (.tmp 38) rfl w.heap.size (w.alloc (.cells #[] 3)) _ _ [] (xs.take (j + 1)) (OwI.none' w (Nat.le_refl _)) rfl rfl (by exact src_take (by omega) (HCW.out _ ((Below.refl w.heap.size w).alloc (Nat.le_refl _) _))) (by have := HB.out; simp only [List.length_append, List.length_take, List.length_nil, List.length_cons]; omega) (by rw [HZ0.out]; omega) ?_; intro v1 w1 ho1 hg1 _ _; have hb1 := ((Below.refl w.heap.size w).alloc (Nat.le_refl _) (.cells #[] 3)).trans (grown_bel (OwI.none' w (Nat.le_refl _)) (by rw [HZ0.out]; omega) hg1); have HO1 := hide ho1; have HB1 := hide hb1; clear ho1 hb1 hg1)
              | (at_builtin; refine catI_w rfl (.tmp 40) (.tmp 42) rfl w.heap.size (w1.alloc (.cells #[.int .i64 n] 3)) v1 (.slice (some ⟨w1.heap.size, 0, none⟩) 1 1) ([] ++ xs.take (j + 1)) [n] (World.ownsRow.alloc HO1.out _) rfl rfl (one_src rfl) (by have := HB.out; simp only [List.length_append, List.length_take, List.length_nil, List.length_cons]; omega) (by have := HB1.out.size; simp; omega) ?_; intro v2 w2 ho2 hg2 _ _; have hb2 := (HB1.out.alloc HB1.out.size _).trans (grown_bel (World.ownsRow.alloc HO1.out _) (by have := HB1.out.size; simp; omega) hg2); have HO2 := hide ho2; have HB2 := hide hb2; clear ho2 hb2 hg2)
              | (at_builtin; refine catI_w rfl (.tmp 44) (.tmp 47) rfl w.heap.size w2 v2 _ ([] ++ xs.take (j + 1) ++ [n]) (xs.drop (j + 1)) HO2.out rfl rfl (by have := HKL.out; first | exact src_end (by omega) | exact src_drop0 (by omega) | exact src_drop (HCW.out _ HB2.out)) (by have := HB.out; simp only [List.length_append, List.length_take, List.length_drop, List.length_nil, List.length_cons]; omega) HB2.out.size ?_; intro v3 w3 ho3 hg3 _ _; have hb3 := HB2.out.trans (grown_bel HO2.out HB2.out.size hg3)))
            go_ret
            refine ⟨_, rfl, .inl ?_, hb3⟩
            rw [HR.out]
            simpa using ho3
          · skip
            go_wp2_with (first
              | (at_builtin; refine catI_w rfl (.tmp 35) (.tmp 38) rfl w.heap.size (w.alloc (.cells #[] 3)) _ _ [] (xs.take (j + 1)) (OwI.none' w (Nat.le_refl _)) rfl rfl (by exact src_take (by omega) (HCW.out _ ((Below.refl w.heap.size w).alloc (Nat.le_refl _) _))) (by have := HB.out; simp only [List.length_append, List.length_take, List.length_nil, List.length_cons]; omega) (by rw [HZ0.out]; omega) ?_; intro v1 w1 ho1 hg1 _ _; have hb1 := ((Below.refl w.heap.size w).alloc (Nat.le_refl _) (.cells #[] 3)).trans (grown_bel (OwI.none' w (Nat.le_refl _)) (by rw [HZ0.out]; omega) hg1); have HO1 := hide ho1; have HB1 := hide hb1; clear ho1 hb1 hg1)
              | (at_builtin; refine catI_w rfl (.tmp 40) (.tmp 42) rfl w.heap.size (w1.alloc (.cells #[.int .i64 n] 3)) v1 (.slice (some ⟨w1.heap.size, 0, none⟩) 1 1) ([] ++ xs.take (j + 1)) [n] (World.ownsRow.alloc HO1.out _) rfl rfl (one_src rfl) (by have := HB.out; simp only [List.length_append, List.length_take, List.length_nil, List.length_cons]; omega) (by have := HB1.out.size; simp; omega) ?_; intro v2 w2 ho2 hg2 _ _; have hb2 := (HB1.out.alloc HB1.out.size _).trans (grown_bel (World.ownsRow.alloc HO1.out _) (by have := HB1.out.size; simp; omega) hg2); have HO2 := hide ho2; have HB2 := hide hb2; clear ho2 hb2 hg2)
              | (at_builtin; refine catI_w rfl (.tmp 44) (.tmp 47) rfl w.heap.size w2 v2 _ ([] ++ xs.take (j + 1) ++ [n]) (xs.drop (j + 1)) HO2.out rfl rfl (by exact src_drop (k := (j + 1)) (HCW.out _ HB2.out)) (by have := HB.out; simp only [List.length_append, List.length_take, List.length_drop, List.length_nil, List.length_cons]; omega) HB2.out.size ?_; intro v3 w3 ho3 hg3 _ _; have hb3 := HB2.out.trans (grown_bel HO2.out HB2.out.size hg3)))
            go_ret
            refine ⟨_, rfl, .inl ?_, hb3⟩
            rw [HR.out]
            simpa using ho3
    · have hpos : 0 < k := by rcases Nat.eq_zero_or_pos k with h0 | h0
                              · exact absurd (.inl h0) hstop
                              · exact h0
      obtain ⟨j, rfl⟩ : ∃ j, k = j + 1 := ⟨k - 1, by omega⟩
      obtain ⟨hlt, hc⟩ := HC.out (by rintro rfl; simp at hk)
      have hcj := hc j (by omega)
      obtain ⟨x, hx⟩ : ∃ x, xs[j]?.getD 0 = x := ⟨_, rfl⟩
      rw [hx] at hcj
      have hnx : ¬ x < n := fun h => hstop (.inr ⟨j, x, rfl, hx, h⟩)
      have HN : Hid (∀ i, j ≤ i → i < xs.length → n ≤ xs[i]?.getD 0) := by
        show ∀ i, _
        intro i h1 h2
        by_cases hij : i = j
        · subst hij; rw [hx]; omega
        · exact hge.out i (by omega) h2
      clear hx hc hge hstop
      have e1 : ((j : Int) + 1 - 1) = j := by omega
      go_wp2
      go_round
      case rel => exact ⟨j, by go_num, by omega, HN⟩
      case measure => simp [intOf]
end Go.Proofs.YtpedbdicjgdgkaaGreat

/- The sources of a system, rising: the reference's side. -/
namespace Go.Proofs.YtpedbdicjgdgkaaGreat
open Go Go.RowKit

theorem insS_FB {xs : List Int} {n : Int} (h : ∀ x ∈ xs, FB x) (hn : FB n) : ∀ x ∈ insS xs n, FB x := by
  intro x hx
  rcases (insS_mem n x xs).1 hx with rfl | hx
  · exact hn
  · exact h x hx
theorem put_w (v : Value) (xs : List Int) (n : Int) (w : World) (h : IsL w v xs) (hv : Nice v) (hinc : xs.Pairwise (· < ·)) (hbig : (xs.length + 1) * 8 ≤ 140737488355328) (hn : FB n) :
    Calls Tryz.prog 66 #[v, .int .i64 n] w fun e w' => ∃ v', e = .returned v' ∧ Nice v' ∧ IsL w' v' (insS xs n) ∧ Below w.heap.size w w' := by
  have hf : ∀ x ∈ xs, FB x := by obtain ⟨_, _, _, _, _, hf, _⟩ := h; exact hf
  rcases hv with rfl | ⟨b, off, m, c, rfl⟩
  · have : xs = [] := by
      obtain ⟨_, _, e, _⟩ := h
      obtain ⟨_, e2, _⟩ := Value.slice.inj e
      exact List.length_eq_zero_iff.1 e2.symm
    subst this
    refine (put_nil_w n w).mono ?_
    rintro e w' ⟨v, rfl, ho, hb⟩
    exact ⟨v, rfl, own_nice ho, ho.isL (by simpa using hn), hb⟩
  · obtain ⟨_, _, e, _⟩ := id h
    obtain ⟨_, e2, _⟩ := Value.slice.inj e
    subst e2
    refine (put_some_w b off c xs n w h hinc hbig).mono ?_
    rintro e w' ⟨v, rfl, ho, hb⟩
    rcases ho with ho | ⟨rfl, he⟩
    · exact ⟨v, rfl, own_nice ho, ho.isL (insS_FB hf hn), hb⟩
    · exact ⟨_, rfl, .inr ⟨_, _, _, _, rfl⟩, by rw [he]; exact h.below hb, hb⟩

def srcs (ls : List Lm) : List Int := ls.foldl (fun acc l => insS acc l.y) []
theorem srcs_len (ls : List Lm) : (srcs ls).length ≤ ls.length := by
  have : ∀ (ls : List Lm) (acc : List Int), (ls.foldl (fun acc l => insS acc l.y) acc).length ≤ acc.length + ls.length := by
    intro ls
    induction ls with
    | nil => intro acc; simp
    | cons l ls ih => intro acc; have := ih (insS acc l.y); have := insS_len l.y acc; simp at *; omega
  simpa [srcs] using this ls []
theorem srcs_inc (ls : List Lm) : (srcs ls).Pairwise (· < ·) := by
  have : ∀ (ls : List Lm) (acc : List Int), acc.Pairwise (· < ·) → (ls.foldl (fun acc l => insS acc l.y) acc).Pairwise (· < ·) := by
    intro ls
    induction ls with
    | nil => intro acc h; exact h
    | cons l ls ih => intro acc h; exact ih _ (insS_inc l.y acc h)
  exact this ls [] List.Pairwise.nil
theorem srcs_mem (ls : List Lm) (z : Int) : z ∈ srcs ls ↔ ∃ l ∈ ls, l.y = z := by
  have : ∀ (ls : List Lm) (acc : List Int), z ∈ ls.foldl (fun acc l => insS acc l.y) acc ↔ z ∈ acc ∨ ∃ l ∈ ls, l.y = z := by
    intro ls
    induction ls with
    | nil => intro acc; simp
    | cons l ls ih =>
      intro acc
      rw [List.foldl_cons, ih, insS_mem]
      constructor
      · rintro ((h | h) | ⟨l', h1, h2⟩)
        · exact .inr ⟨l, by simp, h.symm⟩
        · exact .inl h
        · exact .inr ⟨l', by simp [h1], h2⟩
      · rintro (h | ⟨l', h1, h2⟩)
        · exact .inl (.inr h)
        · rcases List.mem_cons.1 h1 with rfl | h1
          · exact .inl (.inl h2.symm)
          · exact .inr ⟨l', h1, h2⟩
  simpa [srcs] using this ls []
theorem srcs_take (ls : List Lm) (k : Nat) (hk : k < ls.length) (l : Lm) (hl : lmAt ls k = l) : srcs (ls.take (k + 1)) = insS (srcs (ls.take k)) l.y := by
  have e : ls[k] = l := by rw [← hl]; simp [lmAt, hk]
  unfold srcs
  rw [List.take_succ_eq_append_getElem hk, List.foldl_append, e]
  rfl

set_option maxRecDepth 100000 in
set_option maxHeartbeats 4000000 in
theorem rsources_w (many : Int) (a : Option Addr) (n cap : Nat) (ls : List Lm) (w : World) (h : IsS w (.slice a n cap) ls) (hbig : ls.length * 32 ≤ 140737488355328) :
    Calls Tryz.prog 20 #[.agg #[.int .i64 many, .slice a n cap]] w fun e w' => ∃ v, e = .returned v ∧ Nice v ∧ IsL w' v (srcs ls) ∧ Below w.heap.size w w' := by
  obtain ⟨a', cap', hv, h1, h2, h3, h4⟩ := h
  cases hv
  unfold maxLen at h2
  have H3 := hide (fun (i : Nat) (hi : i < ls.length) => lmAt_FL h3 hi); have HB := hide hbig; clear h3 hbig
  go_enter Tryz.func20, Tryz.ntmps20
  go_wp2
  go_outline
  go_loopw [3, 9] (fun o i wr => ∃ k : Nat, i = .int .i64 k ∧ k ≤ ls.length ∧ Hid (Nice o) ∧ Hid (IsL wr o (srcs (ls.take k))) ∧ Below w.heap.size w wr ∧ w.heap.size < wr.heap.size) (fun _ i _ => ls.length - (intOf i).toNat)
  case atStart => exact ⟨0, rfl, Nat.zero_le _, hide (.inl rfl), hide ⟨none, 0, rfl, by simp [srcs], Nat.zero_le _, by simp [srcs], fun h => absurd rfl h⟩, (by repeat (first | exact Below.refl _ _ | assumption | refine Below.alloc ?_ (by first | omega | (simp; omega) | simp) _ | refine Below.setCell ?_ (by first | omega | (simp; omega) | simp) _ | refine below_drewN ?_ _ | refine Below.drew ?_ | refine back ?_ (by assumption))), by simp⟩
  case round =>
    obtain ⟨k, rfl, hk, hn, hil, hbw, hlw⟩ := hrel
    by_cases hlt : k < ls.length
    · obtain ⟨b, off, rfl, hbl, hc⟩ := h4 (by intro h; subst h; simp at hlt)
      obtain ⟨l, hl⟩ : ∃ l, lmAt ls k = l := ⟨_, rfl⟩
      have hck := (hc k hlt).below hbw hbl
      rw [hl] at hck
      obtain ⟨d1, d2, d3, d4⟩ := hck
      have HT := hide (srcs_take ls k hlt l hl)
      have HF := H3.out k hlt
      rw [hl] at HF
      have HFy := hide HF.2.2.2
      clear hl hc HF
      have hbw' : b < wr.heap.size := by omega
      have hput := fun X : World => fun hX : Below wr.heap.size wr X => hide (put_w _ (srcs (ls.take k)) l.y X (hil.out.below hX) hn.out (srcs_inc _) (by have := HB.out; have := srcs_len (ls.take k); rw [List.length_take] at this; omega) HFy.out)
      go_wp2_with (go_at_call 66; refine (hput _ (by repeat (first | exact Below.refl _ _ | assumption | refine Below.alloc ?_ (by first | omega | (simp; omega) | simp) _ | refine Below.setCell ?_ (by first | omega | (simp; omega) | simp) _ | refine below_drewN ?_ _ | refine Below.drew ?_ | refine back ?_ (by assumption)))).out.mono ?_; rintro e w2 ⟨v2, rfl, hn2, hi2, hb2⟩)
      rw [← HT.out] at hi2
      have hz2 := hb2.size
      simp at hz2
      have hB2 : Below w.heap.size w w2 := (by repeat (first | exact Below.refl _ _ | assumption | refine Below.alloc ?_ (by first | omega | (simp; omega) | simp) _ | refine Below.setCell ?_ (by first | omega | (simp; omega) | simp) _ | refine below_drewN ?_ _ | refine Below.drew ?_ | refine back ?_ (by assumption)))
      exact ⟨⟨k + 1, by go_num, by omega, hide hn2, hide hi2, hB2, by omega⟩, by simp [intOf]; omega⟩
    · have hkl : k = ls.length := by omega
      have HE : Hid (ls.take k = ls) := by show _ = _; rw [hkl, List.take_length]
      clear hkl
      go_wp2
      go_ret
      exact ⟨_, rfl, hn.out, by have := hil.out; rw [HE.out] at this; exact this, hbw⟩
end Go.Proofs.YtpedbdicjgdgkaaGreat

/- Appends of limits to a slice of the call's own. -/
namespace Go.Proofs.YtpedbdicjgdgkaaGreat
open Go Go.RowKit

def SrcL (W : World) (y : Value) (ys : List Lm) : Prop := (y = .slice none 0 0 ∧ ys = []) ∨ ∃ b off c, y = .slice (some ⟨b, off, none⟩) ys.length c ∧ ∀ j u, (ys.flatMap lmF)[j]? = some u → W.cell? ⟨b, off + j, none⟩ = some u
theorem IsS.src {w : World} {v : Value} {ls : List Lm} (h : IsS w v ls) (hn : Nice v) : SrcL w v ls := by
  obtain ⟨a, c, rfl, l1, m1, _, k1⟩ := h
  rcases hn with e | ⟨b, off, n, c', e⟩
  · obtain ⟨_, e2, _⟩ := Value.slice.inj e
    have := List.length_eq_zero_iff.1 e2
    subst this
    exact .inl ⟨e, rfl⟩
  · obtain ⟨rfl, rfl, rfl⟩ := Value.slice.inj e
    refine .inr ⟨b, off, _, rfl, fun j u hj => ?_⟩
    have hjl : j < ls.length * 4 := by
      rw [← lmF_len]
      exact (List.getElem?_eq_some_iff.1 hj).1
    obtain ⟨_, _, e, _, hc⟩ := k1 (by rintro rfl; simp at hjl)
    cases e
    have hj4 : j = j / 4 * 4 + j % 4 := by omega
    have hlt : j / 4 < ls.length := by omega
    have hr : j % 4 < 4 := Nat.mod_lt _ (by decide)
    rw [hj4, lmF_get ls _ _ hlt hr] at hj
    obtain ⟨d1, d2, d3, d4⟩ := hc (j / 4) hlt
    obtain ⟨q, hq⟩ : ∃ q, j / 4 = q := ⟨_, rfl⟩
    obtain ⟨r, hr'⟩ : ∃ r, j % 4 = r := ⟨_, rfl⟩
    rw [hr', hq] at hj4
    rw [hq] at hj d1 d2 d3 d4
    rw [hr'] at hj hr
    subst hj4
    match r, hr with
    | 0, _ => simp [lmF] at hj; subst hj; simpa using d1
    | 1, _ => simp [lmF] at hj; subst hj; simpa [Nat.add_assoc] using d2
    | 2, _ => simp [lmF] at hj; subst hj; simpa [Nat.add_assoc] using d3
    | 3, _ => simp [lmF] at hj; subst hj; simpa [Nat.add_assoc] using d4
theorem one_srcL {W : World} {l : Lm} {o : Obj} (h : o = .cells #[.int .i64 l.a, .int .i64 l.b, .int .i64 l.m, .int .i64 l.y] 26) : SrcL (W.alloc o) (.slice (some ⟨W.heap.size, 0, none⟩) 1 1) [l] := by
  subst h
  refine .inr ⟨W.heap.size, 0, 1, rfl, fun j u hj => ?_⟩
  have hj4 : j < 4 := by
    have := (List.getElem?_eq_some_iff.1 hj).1
    simpa [lmF] using this
  match j, hj4 with
  | 0, _ => simp [lmF] at hj; subst hj; simp
  | 1, _ => simp [lmF] at hj; subst hj; simp
  | 2, _ => simp [lmF] at hj; subst hj; simp
  | 3, _ => simp [lmF] at hj; subst hj; simp
theorem catL_w {ops : Array Oper} {rest : List Oper} {o : Oper} {a : Act} {Q : Exit → Act → World → Prop} (hgd : o.guard = none) (s x : Operand)
    (ho : o.op = .call { callee := .builtin .append, args := #[s, x], argTypes := #[22, 22] })
    (B : Nat) (W : World) (v y : Value) (xs ys : List Lm) (hown : OwL B W v xs) (hs : a.eval s = v) (hx : a.eval x = y) (hy : SrcL W y ys) (hl : (xs.length + ys.length) * 32 ≤ 140737488355328) (hB : B ≤ W.heap.size)
    (h : ∀ v' w', OwL B w' v' (xs ++ ys) → W.grownBy w' v.ownBlock → (v'.ownBlock = v.ownBlock ∨ v'.ownBlock = some W.heap.size) → (0 < xs.length + ys.length → ∃ g c, v' = .slice (some ⟨g, 0, none⟩) (xs.length + ys.length) c) → wpList Tryz.prog ops Q rest (a.put o.dst v') w') :
    wpList Tryz.prog ops Q (o :: rest) a W := by
  obtain ⟨i0, hi, hz0, hz1, hz2⟩ := info_parts infoL
  refine cat_g hgd s x 22 26 i0 _ 4 32 ho Tryz.underlying22 hi hz0 hz1 hz2 rfl (by decide) B W v xs.length (xs.flatMap lmF) hs hown y ys.length (ys.flatMap lmF) hx (hy.imp (fun h => ⟨h.1, by rw [h.2]; rfl⟩) id) (lmF_len ys) (lmF_one ys) (by decide) hl hB ?_
  intro v' w' h1 h2 h3 h4
  refine h v' w' ?_ h2 h3 h4
  unfold OwL
  rw [List.length_append, List.flatMap_append]
  exact h1
theorem OwL.nil (B : Nat) (w : World) : OwL B w (.slice none 0 0) [] := World.ownsRow_nil _ _ _ _
theorem OwL.none' {B : Nat} (w : World) (hB : B ≤ w.heap.size) : OwL B (w.alloc (.cells #[] 26)) (.slice (some ⟨w.heap.size, 0, none⟩) 0 0) [] := World.ownsRow_lit w #[] 0 hB (by decide) rfl
/-- Behind a store into an elder block an own slice is what it was. -/
theorem ownsRow_set {B e size n : Nat} {w : World} {v u : Value} {xs : List Value} {p : Addr} (h : w.ownsRow B e size v n xs) (hp : p.block < B) : (w.setCell p u).ownsRow B e size v n xs := by
  refine ⟨h.1, ?_⟩
  rcases h.2 with hn | ⟨g, cap, cur, rfl, hb, hgg, rest⟩
  · exact .inl hn
  · refine .inr ⟨g, cap, cur, rfl, hb, ?_, rest⟩
    rw [Below.heap_setCell _ _ _ _ (by omega)]
    exact hgg
theorem ownsRow_below {B e size n : Nat} {w w' : World} {v : Value} {xs : List Value} (h : w.ownsRow B e size v n xs) (hb : Below w.heap.size w w') : w'.ownsRow B e size v n xs := by
  refine ⟨h.1, ?_⟩
  rcases h.2 with hn | ⟨g, cap, cur, rfl, hb', hgg, rest⟩
  · exact .inl hn
  · have hlt : g < w.heap.size := (World.ownsRow.lt h g rfl).2
    exact .inr ⟨g, cap, cur, rfl, hb', by rw [hb.block g hlt]; exact hgg, rest⟩

theorem cell_new {W : World} {cs : Array Value} {t b i : Nat} (h : b = W.heap.size) : (W.alloc (.cells cs t)).cell? ⟨b, i, none⟩ = cs[i]? := World.cell?_alloc_at cs t b i h
theorem cell_old {W : World} {o : Obj} {p : Addr} (h : p.block < W.heap.size) : (W.alloc o).cell? p = W.cell? p := ((Below.refl _ W).alloc (Nat.le_refl _) o).cell h
theorem frozen_new {W : World} {cs : Array Value} {t b i : Nat} (h : b = W.heap.size) : (W.alloc (.cells cs t)).frozen? ⟨b, i, none⟩ = false := World.frozen?_alloc_at cs t b i h
theorem frozen_old {W : World} {o : Obj} {p : Addr} (h : p.block < W.heap.size) : (W.alloc o).frozen? p = W.frozen? p := ((Below.refl _ W).alloc (Nat.le_refl _) o).frozen h

/-- The limits whose sources are none of some. -/
def wo (by_ : List Int) (ls : List Lm) : List Lm := ls.filter fun l => !decide (l.y ∈ by_)
theorem wo_take (by_ : List Int) (ls : List Lm) (k : Nat) (hk : k < ls.length) (l : Lm) (hl : lmAt ls k = l) : wo by_ (ls.take (k + 1)) = wo by_ (ls.take k) ++ (if l.y ∈ by_ then [] else [l]) := by
  have e : ls[k] = l := by rw [← hl]; simp [lmAt, hk]
  unfold wo
  rw [List.take_succ_eq_append_getElem hk, List.filter_append, e]
  congr 1
  by_cases h : l.y ∈ by_ <;> simp [h]
theorem wo_len (by_ : List Int) (ls : List Lm) : (wo by_ ls).length ≤ ls.length := List.length_filter_le _ _
theorem wo_FL {by_ : List Int} {ls : List Lm} (h : ∀ l ∈ ls, FL l) : ∀ l ∈ wo by_ ls, FL l := fun l hl => h l (List.mem_filter.1 hl).1
end Go.Proofs.YtpedbdicjgdgkaaGreat
