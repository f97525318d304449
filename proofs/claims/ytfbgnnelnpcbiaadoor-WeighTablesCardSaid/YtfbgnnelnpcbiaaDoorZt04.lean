import Derived.Test.YtfbgnnelnpcbiaaDoorZt03
set_option linter.unusedVariables false
set_option linter.unusedSimpArgs false
namespace Go.Proofs.YtfbgnnelnpcbiaaDoor
open Go.RowKit

theorem addW_len (l : List Int) (p : Nat × Int) : (addW l p).length = l.length := by simp [addW]
theorem foldW_len (L : List (Nat × Int)) : ∀ l : List Int, (L.foldl addW l).length = l.length := by
  induction L with
  | nil => intro l; rfl
  | cons p L ih => intro l; rw [List.foldl_cons, ih, addW_len]

def Lim (M : Int) (l : List Int) : Prop := ∀ i, -M ≤ at_ l i ∧ at_ l i ≤ M

theorem at_set (l : List Int) (k i : Nat) (x : Int) : at_ (l.set k x) i = if i = k ∧ k < l.length then x else at_ l i := by
  unfold at_
  rw [List.getElem?_set]
  by_cases h : k = i
  · subst h
    by_cases hl : k < l.length
    · simp [hl]
    · simp [hl]
  · rw [if_neg h, if_neg (by intro h'; exact h h'.1.symm)]

theorem addW_lim {M K : Int} {l : List Int} {p : Nat × Int} (h : Lim M l) (hM : 0 ≤ K) (hp : -K ≤ p.2 ∧ p.2 ≤ K) : Lim (M + K) (addW l p) := by
  intro i
  unfold addW
  rw [at_set]
  have h1 := h i
  have h2 := h p.1
  split <;> omega

theorem foldW_lim (K : Int) (hK : 0 ≤ K) (L : List (Nat × Int)) : ∀ (M : Int) (l : List Int), Lim M l → (∀ p ∈ L, -K ≤ p.2 ∧ p.2 ≤ K) → Lim (M + K * L.length) (L.foldl addW l) := by
  induction L with
  | nil => intro M l h _; simpa using h
  | cons p L ih =>
    intro M l h hp
    have := ih (M + K) (addW l p) (addW_lim h hK (hp p List.mem_cons_self)) (fun q hq => hp q (List.mem_cons_of_mem _ hq))
    rw [List.foldl_cons, List.length_cons]
    have e : M + K * ((L.length + 1 : Nat) : Int) = M + K + K * (L.length : Int) := by
      rw [Int.natCast_add, Int.mul_add]; omega
    rw [e]; exact this

theorem lim_zero (n : Nat) : Lim 0 (List.replicate n 0) := by
  intro i; unfold at_; rw [List.getElem?_replicate]; split <;> simp

theorem con_bd {xs : List Int} (hp : Pos xs) {g : Nat × Nat} (hg : g ∈ grs xs) : (con xs g).length ≤ 3 ∧ ∀ p ∈ con xs g, p.1 < xs.length ∧ -20000000 ≤ p.2 ∧ p.2 ≤ 20000000 := by
  obtain ⟨_, h1, h2, h3⟩ := grF_bd xs xs.length 0 g hg
  obtain ⟨i, m⟩ := g
  simp only at h1 h2 h3
  rcases h2 with rfl | rfl
  · have u := hp.up i h1
    have b0 := hp.bd i (by omega)
    have b1 := hp.bd (i + 1) h1
    have e : con xs (i, 1) = [(i, 18 * (at_ xs (i + 1) - at_ xs i)), (i + 1, 18 * (at_ xs (i + 1) - at_ xs i))] := by unfold con; simp
    rw [e]
    refine ⟨by simp, fun p hp => ?_⟩
    simp only [List.mem_cons, List.not_mem_nil, or_false] at hp
    rcases hp with rfl | rfl <;> (simp only; omega)
  · have hr := (many_two h3.symm).2
    have u := hp.up i (by omega)
    have v : at_ xs (i + 1) < at_ xs (i + 2) := hp.up (i + 1) h1
    have b0 := hp.bd i (by omega)
    have b1 := hp.bd (i + 1) (by omega)
    have b2 := hp.bd (i + 2) h1
    obtain ⟨a, ha⟩ : ∃ a, at_ xs (i + 1) - at_ xs i = a := ⟨_, rfl⟩
    obtain ⟨b, hb⟩ : ∃ b, at_ xs (i + 2) - at_ xs (i + 1) = b := ⟨_, rfl⟩
    rw [ha, hb] at hr
    have hm : 1 ≤ min a b ∧ min a b ≤ 100000 := by omega
    obtain ⟨c, hc⟩ : ∃ c, min a b = c := ⟨_, rfl⟩
    rw [hc] at hm
    rcases rat_or a b with h | h | h | h
    · exact absurd h hr
    all_goals
      rw [con_two ha hb h, hc]
      refine ⟨by simp, fun p hp => ?_⟩
      simp only [List.mem_cons, List.not_mem_nil, or_false] at hp
      rcases hp with rfl | rfl | rfl <;> (simp only; (repeat' split) <;> omega)

theorem flat_len (xs : List Int) (gs : List (Nat × Nat)) (h : ∀ g ∈ gs, (con xs g).length ≤ 3) : (gs.flatMap (con xs)).length ≤ 3 * gs.length := by
  induction gs with
  | nil => simp
  | cons g gs ih =>
    rw [List.flatMap_cons, List.length_append, List.length_cons]
    have := ih fun q hq => h q (List.mem_cons_of_mem _ hq)
    have := h g List.mem_cons_self
    omega

theorem cons_bd {xs : List Int} (hp : Pos xs) : (cons xs).length ≤ 24 ∧ ∀ p ∈ cons xs, p.1 < xs.length ∧ -20000000 ≤ p.2 ∧ p.2 ≤ 20000000 := by
  constructor
  · have h1 := flat_len xs (grs xs) fun g hg => (con_bd hp hg).1
    have h2 := grF_len xs xs.length 0
    have h3 := hp.hi
    have h4 : (grs xs).length ≤ xs.length - 1 - 0 := h2
    unfold cons; omega
  · intro p hp'
    unfold cons at hp'
    rw [List.mem_flatMap] at hp'
    obtain ⟨g, hg, hpg⟩ := hp'
    exact (con_bd hp hg).2 p hpg

theorem pre_bd {xs : List Int} (hp : Pos xs) {pre rest : List (Nat × Int)} {p : Nat × Int} (h : cons xs = pre ++ p :: rest) : p.1 < xs.length ∧ -20000000 ≤ p.2 ∧ p.2 ≤ 20000000 ∧ Lim 480000000 (pre.foldl addW (List.replicate xs.length 0)) := by
  obtain ⟨h1, h2⟩ := cons_bd hp
  rw [h] at h1 h2
  have hl : pre.length ≤ 24 := by simp at h1; omega
  obtain ⟨a, b, c⟩ := h2 p (by simp)
  refine ⟨a, b, c, ?_⟩
  have := foldW_lim 20000000 (by omega) pre 0 (List.replicate xs.length 0) (lim_zero _) fun q hq => (h2 q (by simp [hq])).2
  intro i
  have := this i
  omega

theorem wts_lim {xs : List Int} (hp : Pos xs) : Lim 480000000 (wts xs) := by
  obtain ⟨h1, h2⟩ := cons_bd hp
  have := foldW_lim 20000000 (by omega) (cons xs) 0 (List.replicate xs.length 0) (lim_zero _) fun q hq => (h2 q hq).2
  intro i
  have := this i
  unfold wts; omega
theorem wts_len (xs : List Int) : (wts xs).length = xs.length := by unfold wts; rw [foldW_len]; simp

theorem infoI : (Tryd.prog.info? 3).map (fun i => (i.zero, i.size, i.bytes)) = some (some (.int .i64 0), 1, 8) := by kernel_rfl
end Go.Proofs.YtfbgnnelnpcbiaaDoor

namespace Go.Proofs.YtfbgnnelnpcbiaaDoor
open Go.RowKit

theorem make_ints (n : Nat) (h : n ≤ 1000000) (w : World) : (Instr.makeSlice 22 (.int .i64 (n : Int)) (.int .i64 (n : Int))).run Tryd.prog w = .ok (.slice (some ⟨w.heap.size, 0, none⟩) n n) (w.alloc (.cells (ints (List.replicate n 0)) 3)) := by
  obtain ⟨i0, hi, hz0, hz1, hz2⟩ := info_parts infoI
  have := run_make (P := Tryd.prog) w 22 3 i0 _ Tryd.underlying22 hi hz0 .i64 .i64 n n (by omega) (Int.le_refl _) (by rw [hz2]; omega) (by omega)
  rw [this]
  have e : madeCells (Value.cells (.int .i64 0)) ((n : Int).toNat * i0.size) = ints (List.replicate n 0) := by
    rw [hz1, Int.toNat_natCast, Nat.mul_one]
    apply Array.toList_inj.1
    show (madeCells #[Value.int .i64 0] n).toList = _
    rw [toList_madeCells_one]; simp [ints]
  rw [e]; simp

theorem WSt.keep {tb wb : Nat} {l : List Int} {W W' : World} (h : WSt tb wb l W) (hb : Below W.heap.size W W') : WSt tb wb l W' :=
  ⟨(hb.block _ h.tal.lt).trans h.tal, (hb.block _ h.row.lt).trans h.row, h.ne⟩

theorem adder_weights {xs : List Int} (hp : Pos xs) (tb wb : Nat) :
    Adder (fun k => k = tb ∨ k = wb) 55 ⟨tb, 0, none⟩ (cons xs) (fun pre W => WSt tb wb (pre.foldl addW (List.replicate xs.length 0)) W) where
  step := by
    intro pre i j x W hj hI hL
    subst hj
    obtain ⟨rest, hL⟩ := hL
    obtain ⟨h1, h2, h3, h4⟩ := pre_bd hp hL
    have hlen : (pre.foldl addW (List.replicate xs.length 0)).length = xs.length := by rw [foldW_len]; simp
    have h5 := h4 i
    simp only at h1 h2 h3
    refine (addWeight_w tb wb _ i x W hI (by omega) (by omega) (by omega)).mono ?_
    rintro e W' ⟨he, hI', hw⟩
    refine ⟨he, by rw [List.foldl_append]; exact hI', ?_⟩
    rw [hw]
    exact (Only.refl _ _).setCell _ _ (.inr rfl)
  run := run_addWeight
  keep := fun _ _ _ h hb => h.keep hb

theorem Blk.new (w : World) (t : TypeId) (cs : Array Value) : Blk (w.alloc (.cells cs t)) w.heap.size t cs := heap_alloc_new w _
theorem Blk.alloc {w : World} {g : Nat} {t : TypeId} {cs : Array Value} (h : Blk w g t cs) (o : Obj) : Blk (w.alloc o) g t cs := (Below.heap_alloc w o g h.lt).trans h

theorem IsLB.of_blk {w : World} {g n : Nat} {l : List Int} (h : Blk w g 3 (ints l)) (hn : n = l.length) (hb : ∀ x ∈ l, FB x) (hm : l.length ≤ 1000000) : IsLB w.heap.size w (.slice (some ⟨g, 0, none⟩) n n) l := by
  subst hn
  exact ⟨_, _, rfl, Nat.le_refl _, by unfold maxLen; omega, hb, fun _ => ⟨g, 0, rfl, h.lt, fun i hi => by rw [h.cell, Nat.zero_add, ints_at _ _ hi]; rfl⟩⟩

theorem lim_FB {M : Int} {l : List Int} (h : Lim M l) (hM : M ≤ 9223372036854775807) : ∀ x ∈ l, FB x := by
  intro x hx
  obtain ⟨i, hi, rfl⟩ := List.mem_iff_getElem.1 hx
  have := h i
  rw [at_get hi] at this
  exact ⟨by omega, by omega⟩

set_option maxHeartbeats 1000000 in
theorem weightsOf_w (a : Option Addr) (n cap : Nat) (xs : List Int) (w : World) (h : IsL w (.slice a n cap) xs) (hp : Pos xs) :
    Calls Tryd.prog 36 #[.slice a n cap] w fun e w' => ∃ v, e = .returned v ∧ IsL w' v (wts xs) ∧ Fresh w.heap.size v ∧ Below w.heap.size w w' := by
  have hn : n = xs.length := by obtain ⟨_, _, hv, _⟩ := h; cases hv; rfl
  subst hn
  have h9 := hp.hi
  have hmk := make_ints xs.length (by omega)
  have HH := hide h; clear h
  go_enter Tryd.func36, Tryd.ntmps36
  go_wp2_with fail
  refine (spread_w (fun k => k = w.heap.size + 1 ∨ k = w.heap.size) 55 ⟨w.heap.size + 1, 0, none⟩ _ w.heap.size a xs.length cap xs (adder_weights hp (w.heap.size + 1) w.heap.size) _ ?_ ?_ hp ?_ ?_).mono ?_
  · exact IsLB.below (B := w.heap.size) HH.out (((Below.refl _ _).alloc (Nat.le_refl _) _).alloc (by simp) _)
  · simp; omega
  · intro k hk; simp; omega
  · refine ⟨?_, ?_, by omega⟩
    · have := Blk.new (w.alloc (.cells (ints (List.replicate xs.length 0)) 3)) 90 #[.slice (some ⟨w.heap.size, 0, none⟩) (List.replicate xs.length (0 : Int)).length (List.replicate xs.length (0 : Int)).length, .slice none 0 0, .int .i64 0]
      simpa using this
    · exact (Blk.new w 3 (ints (List.replicate xs.length 0))).alloc _
  rintro e w1 ⟨rfl, hst, ho⟩
  have hb := ho.below (B := w.heap.size) (by simp; omega) (fun k hk => by omega)
  have hb2 : Below w.heap.size w w1 := (((Below.refl w.heap.size w).alloc (Nat.le_refl _) _).alloc (by simp) _).trans hb
  have hl : ((cons xs).foldl addW (List.replicate xs.length 0)).length = xs.length := by rw [foldW_len]; simp
  have c0 : w1.cell? ⟨w.heap.size + 1, 0, none⟩ = some (.slice (some ⟨w.heap.size, 0, none⟩) xs.length xs.length) := by
    have := hst.tal.cell 0
    rw [hl] at this; exact this
  have hr : IsL w1 (.slice (some ⟨w.heap.size, 0, none⟩) xs.length xs.length) (wts xs) := IsLB.of_blk hst.row (wts_len xs).symm (lim_FB (wts_lim hp) (by omega)) (by rw [wts_len]; omega)
  have HR := hide hr; clear hr hst ho hb
  go_wp2
  go_ret
  exact ⟨_, rfl, HR.out, (fun k hk => by simp [Value.ownBlock] at hk; omega), hb2⟩
end Go.Proofs.YtfbgnnelnpcbiaaDoor

namespace Go.Proofs.YtfbgnnelnpcbiaaDoor
open Go.RowKit

theorem mul_lim {a b K V : Int} (ha : -K ≤ a ∧ a ≤ K) (hb : -V ≤ b ∧ b ≤ V) : -(K * V) ≤ a * b ∧ a * b ≤ K * V := by
  have h1 : (K - a) * (V + b) ≥ 0 := Int.mul_nonneg (by omega) (by omega)
  have h2 : (K + a) * (V - b) ≥ 0 := Int.mul_nonneg (by omega) (by omega)
  have h3 : (K + a) * (V + b) ≥ 0 := Int.mul_nonneg (by omega) (by omega)
  have h4 : (K - a) * (V - b) ≥ 0 := Int.mul_nonneg (by omega) (by omega)
  simp only [Int.sub_mul, Int.add_mul, Int.mul_sub, Int.mul_add] at h1 h2 h3 h4
  omega

theorem sumP_lim (K V : Int) (hK : 0 ≤ K) (hV : 0 ≤ V) (vs : List Int) (hv : Lim V vs) (L : List (Nat × Int)) : ∀ s M : Int, -M ≤ s → s ≤ M → (∀ p ∈ L, -K ≤ p.2 ∧ p.2 ≤ K) →
    -(M + K * V * L.length) ≤ L.foldl (sumP vs) s ∧ L.foldl (sumP vs) s ≤ M + K * V * L.length := by
  induction L with
  | nil => intro s M h1 h2 _; simp; omega
  | cons p L ih =>
    intro s M h1 h2 hp
    have hpp := hp p List.mem_cons_self
    have hvv := hv p.1
    have hprod : -(K * V) ≤ p.2 * at_ vs p.1 ∧ p.2 * at_ vs p.1 ≤ K * V := mul_lim hpp hvv
    have := ih (sumP vs s p) (M + K * V) (by unfold sumP; omega) (by unfold sumP; omega) (fun q hq => hp q (List.mem_cons_of_mem _ hq))
    rw [List.foldl_cons, List.length_cons]
    have e : K * V * ((L.length + 1 : Nat) : Int) = K * V + K * V * (L.length : Int) := by rw [Int.natCast_add, Int.mul_add]; omega
    rw [e]; omega

theorem pre_sum {xs vs : List Int} (hp : Pos xs) (hv : Lim 2000000000 vs) {pre rest : List (Nat × Int)} {p : Nat × Int} (h : cons xs = pre ++ p :: rest) :
    p.1 < xs.length ∧ (-40000000000000000 ≤ p.2 * at_ vs p.1 ∧ p.2 * at_ vs p.1 ≤ 40000000000000000) ∧ -960000000000000000 ≤ pre.foldl (sumP vs) 0 ∧ pre.foldl (sumP vs) 0 ≤ 960000000000000000 := by
  obtain ⟨h1, h2⟩ := cons_bd hp
  rw [h] at h1 h2
  have hl : pre.length ≤ 24 := by simp at h1; omega
  obtain ⟨a, b, c⟩ := h2 p (by simp)
  have hb := mul_lim ⟨b, c⟩ (hv p.1)
  have := sumP_lim 20000000 2000000000 (by omega) (by omega) vs hv pre 0 0 (by omega) (by omega) fun q hq => (h2 q (by simp [hq])).2
  refine ⟨a, by omega, by omega, by omega⟩

theorem dot_lim {xs vs : List Int} (hp : Pos xs) (hv : Lim 2000000000 vs) : -960000000000000000 ≤ dot xs vs ∧ dot xs vs ≤ 960000000000000000 := by
  obtain ⟨h1, h2⟩ := cons_bd hp
  have := sumP_lim 20000000 2000000000 (by omega) (by omega) vs hv (cons xs) 0 0 (by omega) (by omega) fun q hq => (h2 q hq).2
  unfold dot; omega

theorem adder_products {xs vs : List Int} (hp : Pos xs) (hl : vs.length = xs.length) (hv : Lim 2000000000 vs) (tb : Nat) (a : Option Addr) (n cap : Nat) :
    Adder (fun k => k = tb) 60 ⟨tb, 0, none⟩ (cons xs) (fun pre W => Blk W tb 90 #[.slice none 0 0, .slice a n cap, .int .i64 (pre.foldl (sumP vs) 0)] ∧ IsLB tb W (.slice a n cap) vs) where
  step := by
    intro pre i j x W hj hI hL
    subst hj
    obtain ⟨rest, hL⟩ := hL
    obtain ⟨h1, h2, h3, h4⟩ := pre_sum hp hv hL
    simp only at h1 h2
    obtain ⟨h2a, h2b⟩ := h2
    refine (addProduct_w tb a n cap vs _ i x W hI.1 hI.2 (by omega) (by omega) (by omega) (by omega) (by omega)).mono ?_
    rintro e W' ⟨he, q, rfl⟩
    refine ⟨he, ⟨?_, ?_⟩, ?_⟩
    · have h5 : Blk (W.drewN q) tb 90 #[.slice none 0 0, .slice a n cap, .int .i64 (pre.foldl (sumP vs) 0)] := hI.1
      have := h5.set 2 (.int .i64 (pre.foldl (sumP vs) 0 + x * at_ vs i))
      rw [List.foldl_append]
      exact this
    · refine IsLB.keep (hI.2.drewN q) (fun p hp => ?_)
      exact World.cell?_setCell_other _ _ _ _ (fun e => by subst e; simp at hp)
    · exact ((Only.refl _ _).drewN q).setCell _ _ rfl
  run := run_addProduct
  keep := fun _ _ _ h hb => ⟨(hb.block _ h.1.lt).trans h.1, h.2.below (hb.mono (Nat.le_of_lt h.1.lt))⟩

set_option maxHeartbeats 1000000 in
theorem integrate_w (a1 a2 : Option Addr) (n1 n2 cap1 cap2 : Nat) (xs vs : List Int) (w : World) (h1 : IsL w (.slice a1 n1 cap1) xs) (h2 : IsL w (.slice a2 n2 cap2) vs) (hp : Pos xs) (hl : vs.length = xs.length) (hv : Lim 2000000000 vs) :
    Calls Tryd.prog 52 #[.slice a1 n1 cap1, .slice a2 n2 cap2] w fun e w' => e = .returned (.int .i64 (dot xs vs)) ∧ Below w.heap.size w w' := by
  have H1 := hide h1; have H2 := hide h2; clear h1 h2
  have HL := hide hl; clear hl
  go_enter Tryd.func52, Tryd.ntmps52
  go_wp2_with fail
  refine (spread_w (fun k => k = w.heap.size) 60 ⟨w.heap.size, 0, none⟩ _ w.heap.size a1 n1 cap1 xs (adder_products hp HL.out hv w.heap.size a2 n2 cap2) _ ?_ ?_ hp ?_ ?_).mono ?_
  · exact IsLB.below (B := w.heap.size) H1.out ((Below.refl _ _).alloc (Nat.le_refl _) _)
  · simp
  · intro k hk; simp; omega
  · exact ⟨Blk.new w 90 _, IsLB.below (B := w.heap.size) H2.out ((Below.refl _ _).alloc (Nat.le_refl _) _)⟩
  rintro e w1 ⟨rfl, hst, ho⟩
  have hb2 : Below w.heap.size w w1 := ((Below.refl w.heap.size w).alloc (Nat.le_refl _) _).trans (ho.below (B := w.heap.size) (by simp) (fun k hk => by omega))
  have c0 : w1.cell? ⟨w.heap.size, 2, none⟩ = some (.int .i64 (dot xs vs)) := hst.1.cell 2
  clear hst ho
  go_wp2
  go_ret
  exact ⟨rfl, hb2⟩
end Go.Proofs.YtfbgnnelnpcbiaaDoor

namespace Go.Proofs.YtfbgnnelnpcbiaaDoor
open Go.RowKit

theorem row2 {w : World} {wb i : Nat} {l : List Int} {p q v0 v1 : Int} (h : Blk w wb 3 (ints l)) (e0 : v0 = at_ l i + p) (e1 : v1 = at_ l (i + 1) + q) :
    Blk ((w.setCell ⟨wb, i, none⟩ (.int .i64 v0)).setCell ⟨wb, i + 1, none⟩ (.int .i64 v1)) wb 3 (ints ([(i, p), (i + 1, q)].foldl addW l)) := by
  have h1 := h.set i (.int .i64 v0)
  rw [ints_set] at h1
  have h2 := h1.set (i + 1) (.int .i64 v1)
  rw [ints_set] at h2
  subst e0; subst e1
  have e : [(i, p), (i + 1, q)].foldl addW l = (l.set i (at_ l i + p)).set (i + 1) (at_ l (i + 1) + q) := by
    simp only [List.foldl_cons, List.foldl_nil, addW]
    rw [at_set]; simp
  rw [e]; exact h2

theorem row3 {w : World} {wb i : Nat} {l : List Int} {p q r v0 v1 v2 : Int} (h : Blk w wb 3 (ints l)) (e0 : v0 = at_ l i + p) (e1 : v1 = at_ l (i + 1) + q) (e2 : v2 = at_ l (i + 2) + r) :
    Blk (((w.setCell ⟨wb, i, none⟩ (.int .i64 v0)).setCell ⟨wb, i + 1, none⟩ (.int .i64 v1)).setCell ⟨wb, i + 2, none⟩ (.int .i64 v2)) wb 3 (ints ([(i, p), (i + 1, q), (i + 2, r)].foldl addW l)) := by
  have h1 := row2 (p := p) (q := q) h e0 e1
  have h2 := h1.set (i + 2) (.int .i64 v2)
  rw [ints_set] at h2
  subst e2
  have e : [(i, p), (i + 1, q), (i + 2, r)].foldl addW l = ([(i, p), (i + 1, q)].foldl addW l).set (i + 2) (at_ l (i + 2) + r) := by
    simp only [List.foldl_cons, List.foldl_nil, addW]
    simp [at_set]
  rw [e]; exact h2

theorem Blk.drewN {w : World} {g : Nat} {t : TypeId} {cs : Array Value} (h : Blk w g t cs) (n : Nat) : Blk (w.drewN n) g t cs := h

theorem pre_lim {xs : List Int} (hp : Pos xs) {pre rest : List (Nat × Int)} (h : cons xs = pre ++ rest) : Lim 480000000 (pre.foldl addW (List.replicate xs.length 0)) := by
  obtain ⟨h1, h2⟩ := cons_bd hp
  rw [h] at h1 h2
  have hl : pre.length ≤ 24 := by simp at h1; omega
  have := foldW_lim 20000000 (by omega) pre 0 (List.replicate xs.length 0) (lim_zero _) fun q hq => (h2 q (by simp [hq])).2
  intro i
  have := this i
  omega

set_option maxRecDepth 100000 in
set_option maxHeartbeats 8000000 in
theorem rweights_w (a : Option Addr) (n cap : Nat) (xs : List Int) (w : World) (h : IsL w (.slice a n cap) xs) (hp : Pos xs) :
    Calls Tryd.prog 19 #[.slice a n cap] w fun e w' => ∃ v, e = .returned v ∧ IsL w' v (wts xs) ∧ Fresh w.heap.size v ∧ Below w.heap.size w w' := by
  have hn : n = xs.length := by obtain ⟨_, _, hv, _⟩ := h; cases hv; rfl
  subst hn
  have h9 := hp.hi
  have hmk := make_ints xs.length (by omega)
  have HH := hide h; clear h
  have hg := rgroups_w a xs.length cap xs (w.alloc (.cells (ints (List.replicate xs.length 0)) 3)) (HH.out.below ((Below.refl _ _).alloc (Nat.le_refl _) _)) hp
  have HG := hide hg; clear hg
  go_enter Tryd.func19, Tryd.ntmps19
  go_wp2_with (go_at_call 38; refine HG.out.mono ?_; rintro e w1 ⟨v, rfl, hv, hf, hb⟩; obtain ⟨a1, c1, rfl, l1, m1, k1⟩ := id hv)
  clear k1 l1
  unfold maxLen at m1
  have hz1 : w.heap.size + 1 ≤ w1.heap.size := by have := hb.size; simpa using this
  have hB1 : Below w.heap.size w w1 := ((Below.refl _ _).alloc (Nat.le_refl _) _).trans (hb.mono (by simp))
  have hrow0 : Blk w1 w.heap.size 3 (ints (List.replicate xs.length 0)) := (hb.block _ (by simp)).trans (Blk.new w 3 _)
  have HF := hide hf; clear hf
  have HP := hide hp
  obtain ⟨a0, cap0, e0, hl1, hl2, hfb, h4⟩ := id HH.out
  cases e0
  unfold maxLen at hl2
  obtain ⟨b, off, rfl, hbl, _⟩ := h4 (by intro h; subst h; have := hp.lo; simp at this)
  clear h4 hfb
  have hbd := grF_bd xs xs.length 0
  have HBD := hide hbd; clear hbd
  have hbw : b ≠ w.heap.size := by omega
  go_loopw [5] (fun i wr => ∃ k : Nat, i = .int .i64 k ∧ k ≤ (grs xs).length ∧ Hid (Blk wr w.heap.size 3 (ints ((((grs xs).take k).flatMap (con xs)).foldl addW (List.replicate xs.length 0)))) ∧ Hid (Only (fun j => j = w.heap.size) w1 wr)) (fun i _ => (grs xs).length - (intOf i).toNat)
  case atStart => exact ⟨0, rfl, Nat.zero_le _, hide (by simpa using hrow0), hide (Only.refl _ _)⟩
  case round =>
    obtain ⟨k, rfl, hk, hrow, ho⟩ := hrel
    have hwz : w1.heap.size ≤ wr.heap.size := ho.out.size
    have hgv := hv.only (S := fun j => j = w.heap.size) (Nat.le_refl _) HF.out (by intro j hj; subst hj; simp) ho.out
    have hBr : Below w.heap.size w wr := hB1.trans (ho.out.below (by omega) (by intro j hj; omega))
    have HBR := hide hBr; clear hBr
    by_cases hlt : k < (grs xs).length
    · have hxs := (IsLB.below (B := w.heap.size) HH.out HBR.out)
      obtain ⟨a0, cap0, e0, _, _, _, h4⟩ := hxs
      cases e0
      obtain ⟨_, _, e1, _, hcx⟩ := h4 (by intro h; have := HP.out.lo; rw [h] at this; simp at this)
      cases e1
      have HCX := hide hcx; clear hcx h4
      obtain ⟨a2, c2, e2, l2, m2, k2⟩ := hgv
      cases e2
      obtain ⟨gb, go, rfl, hgbl, hc⟩ := k2 (by intro h; rw [h] at hlt; simp at hlt)
      have hck := hc k hlt
      have hgk : (grs xs)[k]?.getD (0, 0) = (grs xs)[k] := by simp [hlt]
      have hmem := HBD.out (grs xs)[k] (List.getElem_mem hlt)
      obtain ⟨rest, hcut⟩ := cut_flat xs (grs xs) k hlt
      have htk := take_flat xs (grs xs) k hlt
      obtain ⟨g, hge⟩ : ∃ g, (grs xs)[k] = g := ⟨_, rfl⟩
      rw [hgk, hge] at hck
      rw [hge] at hmem hcut htk
      obtain ⟨gi, gm⟩ := g
      simp only at hck hmem
      obtain ⟨ck1, ck2⟩ := hck
      obtain ⟨_, mb, mo, mm⟩ := hmem
      have HM := hide mm; clear mm
      have ck3 : wr.cell? ⟨gb, go + (k * 2 + 1), none⟩ = some (.int .i64 (gm : Nat)) := ck2
      have hlim1 := pre_lim HP.out (pre := ((grs xs).take k).flatMap (con xs)) (rest := con xs (gi, gm) ++ rest) (by unfold cons; rw [hcut, List.append_assoc])
      obtain ⟨L, hL⟩ : ∃ L, (((grs xs).take k).flatMap (con xs)).foldl addW (List.replicate xs.length 0) = L := ⟨_, rfl⟩
      have hLl : L.length = xs.length := by rw [← hL, foldW_len]; simp
      rw [hL] at hrow hlim1
      have HTK : Hid ((((grs xs).take (k + 1)).flatMap (con xs)).foldl addW (List.replicate xs.length 0) = (con xs (gi, gm)).foldl addW L) := by show _ = _; rw [htk, List.foldl_append, hL]
      clear hcut htk hge hgk hc k2 hL
      have hl3 : (k : Int) < (grs xs).length := by omega
      have r0 : wr.cell? ⟨w.heap.size, gi, none⟩ = some (.int .i64 (at_ L gi)) := by rw [hrow.out.cell, ints_at _ _ (by omega)]
      have r1 : wr.cell? ⟨w.heap.size, gi + 1, none⟩ = some (.int .i64 (at_ L (gi + 1))) := by rw [hrow.out.cell, ints_at _ _ (by omega)]
      have f0 := hrow.out.frozen gi
      have f1 := hrow.out.frozen (gi + 1)
      have m0 := hlim1 gi
      have m1' := hlim1 (gi + 1)
      obtain ⟨m0a, m0b⟩ := m0
      obtain ⟨m1a, m1b⟩ := m1'
      have c0 : wr.cell? ⟨b, off + gi, none⟩ = some (.int .i64 (at_ xs gi)) := HCX.out gi (by omega)
      have c1 : wr.cell? ⟨b, off + (gi + 1), none⟩ = some (.int .i64 (at_ xs (gi + 1))) := HCX.out (gi + 1) (by omega)
      have u := HP.out.up gi (by omega)
      have b0 := HP.out.bd gi (by omega)
      have b1 := HP.out.bd (gi + 1) (by omega)
      have hi3 : (gi : Int) + 1 < xs.length := by omega
      have hi0 : (gi : Int) < xs.length := by omega
      rcases mo with rfl | rfl
      · simp only [Int.cast_ofNat_Int, Int.natCast_one] at ck2 ck3
        have hcon : con xs (gi, 1) = [(gi, 18 * (at_ xs (gi + 1) - at_ xs gi)), (gi + 1, 18 * (at_ xs (gi + 1) - at_ xs gi))] := by unfold con; simp
        have HCON := hide hcon; clear hcon
        obtain ⟨x, hx⟩ : ∃ x, at_ xs gi = x := ⟨_, rfl⟩
        obtain ⟨y, hy⟩ : ∃ x, at_ xs (gi + 1) = x := ⟨_, rfl⟩
        obtain ⟨s, hs⟩ : ∃ x, at_ L gi = x := ⟨_, rfl⟩
        obtain ⟨t, ht⟩ : ∃ x, at_ L (gi + 1) = x := ⟨_, rfl⟩
        rw [hx] at c0 u b0 HCON
        rw [hy] at c1 u b1 HCON
        rw [hs] at r0 m0a m0b
        rw [ht] at r1 m1a m1b
        have HSs := hide hs; have HTt := hide ht
        clear hx hy hs ht
        obtain ⟨b0a, b0b⟩ := b0
        obtain ⟨b1a, b1b⟩ := b1
        go_wp2
        go_quiet (fail)
        go_wp2
        go_roundw
        case rel => exact ⟨k + 1, by go_num, by omega, hide (by rw [HTK.out, HCON.out]; exact row2 (Blk.drewN hrow.out _) (by rw [HSs.out]) (by rw [HTt.out])), hide (((ho.out.drewN _).setCell _ _ rfl).setCell _ _ rfl)⟩
        case measure => simp [intOf]; omega
      · simp only [Int.cast_ofNat_Int] at ck2 ck3
        have hr := (many_two HM.out.symm).2
        have r2 : wr.cell? ⟨w.heap.size, gi + 2, none⟩ = some (.int .i64 (at_ L (gi + 2))) := by rw [hrow.out.cell, ints_at _ _ (by omega)]
        have f2 := hrow.out.frozen (gi + 2)
        have m2' := hlim1 (gi + 2)
        obtain ⟨m2a, m2b⟩ := m2'
        have c2 : wr.cell? ⟨b, off + (gi + 2), none⟩ = some (.int .i64 (at_ xs (gi + 2))) := HCX.out (gi + 2) (by omega)
        have v : at_ xs (gi + 1) < at_ xs (gi + 2) := HP.out.up (gi + 1) (by omega)
        have b2 := HP.out.bd (gi + 2) (by omega)
        have hi4 : (gi : Int) + 2 < xs.length := by omega
        have hct := fun kk (hk : rat (at_ xs (gi + 1) - at_ xs gi) (at_ xs (gi + 2) - at_ xs (gi + 1)) = kk) => con_two (xs := xs) (i := gi) rfl rfl hk
        obtain ⟨x, hx⟩ : ∃ x, at_ xs gi = x := ⟨_, rfl⟩
        obtain ⟨y, hy⟩ : ∃ x, at_ xs (gi + 1) = x := ⟨_, rfl⟩
        obtain ⟨z, hz⟩ : ∃ x, at_ xs (gi + 2) = x := ⟨_, rfl⟩
        obtain ⟨s, hs⟩ : ∃ x, at_ L gi = x := ⟨_, rfl⟩
        obtain ⟨t, ht⟩ : ∃ x, at_ L (gi + 1) = x := ⟨_, rfl⟩
        obtain ⟨q, hq⟩ : ∃ x, at_ L (gi + 2) = x := ⟨_, rfl⟩
        rw [hx] at c0 u b0
        rw [hy] at c1 u b1 v
        rw [hz] at c2 b2 v
        rw [hx, hy, hz] at hr
        simp only [hx, hy, hz] at hct
        rw [hs] at r0 m0a m0b
        rw [ht] at r1 m1a m1b
        rw [hq] at r2 m2a m2b
        have HSs := hide hs; have HTt := hide ht; have HQq := hide hq; have HCT := hide hct
        clear hx hy hz hs ht hq hct
        obtain ⟨b0a, b0b⟩ := b0
        obtain ⟨b1a, b1b⟩ := b1
        obtain ⟨b2a, b2b⟩ := b2
        have hcases : (z - y ≥ y - x ∧ (rat (y - x) (z - y) = 1 ∨ rat (y - x) (z - y) = 2 ∨ rat (y - x) (z - y) = 3)) ∨ (z - y < y - x ∧ (rat (y - x) (z - y) = 2 ∨ rat (y - x) (z - y) = 3)) := by
          by_cases hord : y - x ≤ z - y
          · have := (rat_lt rfl hr hord (by omega)).2; left; exact ⟨hord, this⟩
          · have := (rat_gt rfl hr (by omega) (by omega)).2; right; exact ⟨by omega, this⟩
        clear hr
        rcases hcases with ⟨hord, hr | hr | hr⟩ | ⟨hord, hr | hr⟩
        · have hcon := HCT.out _ hr
          rw [if_neg (show ¬ (z - y < y - x) by omega), if_neg (show ¬ (z - y < y - x) by omega), Int.min_eq_left (show y - x ≤ z - y by omega)] at hcon
          have HCON : Hid (con xs (gi, 2) = [(gi, 12 * (y - x)), (gi + 1, 48 * (y - x)), (gi + 2, 12 * (y - x))]) := by
            show _ = _; rw [hcon]; simp only [List.cons.injEq, Prod.mk.injEq, true_and, and_true]; refine ⟨?_, ?_, ?_⟩ <;> omega
          clear hcon HCT
          go_wp2
          go_quiet (fail)
          go_wp2
          go_quiet (fail)
          go_wp2_with (go_at_call 39; refine (times_w _ _ _ (by omega) (by omega) (by omega) (by omega)).mono ?_; rintro e w' ⟨rfl, rfl⟩)
          go_roundw
          case rel => exact ⟨k + 1, by go_num, by omega, hide (by rw [HTK.out, HCON.out]; exact row3 (Blk.drewN hrow.out _) (by rw [HSs.out] <;> omega) (by rw [HTt.out] <;> omega) (by rw [HQq.out] <;> omega)), hide ((((ho.out.drewN _).setCell _ _ rfl).setCell _ _ rfl).setCell _ _ rfl)⟩
          case measure => simp [intOf]; omega
        · have hcon := HCT.out _ hr
          rw [if_neg (show ¬ (z - y < y - x) by omega), if_neg (show ¬ (z - y < y - x) by omega), Int.min_eq_left (show y - x ≤ z - y by omega)] at hcon
          have HCON : Hid (con xs (gi, 2) = [(gi, 0 * (y - x)), (gi + 1, 81 * (y - x)), (gi + 2, 27 * (y - x))]) := by
            show _ = _; rw [hcon]; simp only [List.cons.injEq, Prod.mk.injEq, true_and, and_true]; refine ⟨?_, ?_, ?_⟩ <;> omega
          clear hcon HCT
          go_wp2
          go_quiet (fail)
          go_wp2
          go_quiet (fail)
          go_wp2_with (go_at_call 39; refine (times_w _ _ _ (by omega) (by omega) (by omega) (by omega)).mono ?_; rintro e w' ⟨rfl, rfl⟩)
          go_roundw
          case rel => exact ⟨k + 1, by go_num, by omega, hide (by rw [HTK.out, HCON.out]; exact row3 (Blk.drewN hrow.out _) (by rw [HSs.out] <;> omega) (by rw [HTt.out] <;> omega) (by rw [HQq.out] <;> omega)), hide ((((ho.out.drewN _).setCell _ _ rfl).setCell _ _ rfl).setCell _ _ rfl)⟩
          case measure => simp [intOf]; omega
        · have hcon := HCT.out _ hr
          rw [if_neg (show ¬ (z - y < y - x) by omega), if_neg (show ¬ (z - y < y - x) by omega), Int.min_eq_left (show y - x ≤ z - y by omega)] at hcon
          have HCON : Hid (con xs (gi, 2) = [(gi, -24 * (y - x)), (gi + 1, 128 * (y - x)), (gi + 2, 40 * (y - x))]) := by
            show _ = _; rw [hcon]; simp only [List.cons.injEq, Prod.mk.injEq, true_and, and_true]; refine ⟨?_, ?_, ?_⟩ <;> omega
          clear hcon HCT
          go_wp2
          go_quiet (fail)
          go_wp2
          go_quiet (fail)
          go_wp2_with (go_at_call 39; refine (times_w _ _ _ (by omega) (by omega) (by omega) (by omega)).mono ?_; rintro e w' ⟨rfl, rfl⟩)
          go_roundw
          case rel => exact ⟨k + 1, by go_num, by omega, hide (by rw [HTK.out, HCON.out]; exact row3 (Blk.drewN hrow.out _) (by rw [HSs.out] <;> omega) (by rw [HTt.out] <;> omega) (by rw [HQq.out] <;> omega)), hide ((((ho.out.drewN _).setCell _ _ rfl).setCell _ _ rfl).setCell _ _ rfl)⟩
          case measure => simp [intOf]; omega
        · have hcon := HCT.out _ hr
          rw [if_pos hord, if_pos hord, Int.min_eq_right (show z - y ≤ y - x by omega)] at hcon
          have HCON : Hid (con xs (gi, 2) = [(gi, 27 * (z - y)), (gi + 1, 81 * (z - y)), (gi + 2, 0 * (z - y))]) := by
            show _ = _; rw [hcon]; simp only [List.cons.injEq, Prod.mk.injEq, true_and, and_true]; refine ⟨?_, ?_, ?_⟩ <;> omega
          clear hcon HCT
          go_wp2
          go_quiet (fail)
          go_wp2
          go_quiet (fail)
          go_wp2_with (go_at_call 39; refine (times_w _ _ _ (by omega) (by omega) (by omega) (by omega)).mono ?_; rintro e w' ⟨rfl, rfl⟩)
          go_roundw
          case rel => exact ⟨k + 1, by go_num, by omega, hide (by rw [HTK.out, HCON.out]; exact row3 (Blk.drewN hrow.out _) (by rw [HSs.out] <;> omega) (by rw [HTt.out] <;> omega) (by rw [HQq.out] <;> omega)), hide ((((ho.out.drewN _).setCell _ _ rfl).setCell _ _ rfl).setCell _ _ rfl)⟩
          case measure => simp [intOf]; omega
        · have hcon := HCT.out _ hr
          rw [if_pos hord, if_pos hord, Int.min_eq_right (show z - y ≤ y - x by omega)] at hcon
          have HCON : Hid (con xs (gi, 2) = [(gi, 40 * (z - y)), (gi + 1, 128 * (z - y)), (gi + 2, -24 * (z - y))]) := by
            show _ = _; rw [hcon]; simp only [List.cons.injEq, Prod.mk.injEq, true_and, and_true]; refine ⟨?_, ?_, ?_⟩ <;> omega
          clear hcon HCT
          go_wp2
          go_quiet (fail)
          go_wp2
          go_quiet (fail)
          go_wp2_with (go_at_call 39; refine (times_w _ _ _ (by omega) (by omega) (by omega) (by omega)).mono ?_; rintro e w' ⟨rfl, rfl⟩)
          go_roundw
          case rel => exact ⟨k + 1, by go_num, by omega, hide (by rw [HTK.out, HCON.out]; exact row3 (Blk.drewN hrow.out _) (by rw [HSs.out] <;> omega) (by rw [HTt.out] <;> omega) (by rw [HQq.out] <;> omega)), hide ((((ho.out.drewN _).setCell _ _ rfl).setCell _ _ rfl).setCell _ _ rfl)⟩
          case measure => simp [intOf]; omega
    · have hl3 : ¬ ((k : Int) < (grs xs).length) := by omega
      have hfin := hrow.out
      rw [List.take_of_length_le (by omega)] at hfin
      have hr : IsL wr (.slice (some ⟨w.heap.size, 0, none⟩) xs.length xs.length) (wts xs) := IsLB.of_blk hfin (wts_len xs).symm (lim_FB (wts_lim HP.out) (by omega)) (by rw [wts_len]; omega)
      have HR := hide hr; clear hr hfin
      go_wp2
      go_ret
      exact ⟨_, rfl, HR.out, (fun j hj => by simp [Value.ownBlock] at hj; omega), HBR.out⟩
end Go.Proofs.YtfbgnnelnpcbiaaDoor

namespace Go.Proofs.YtfbgnnelnpcbiaaDoor
open Go.RowKit

def wtsE (xs : List Int) : List Int := if rise 9 100000 xs = true then wts xs else []
theorem IsLB.nil (B : Nat) (w : World) : IsLB B w (.slice none 0 0) [] := ⟨none, 0, rfl, Nat.le_refl _, Nat.zero_le _, by simp, fun h => absurd rfl h⟩

set_option maxHeartbeats 400000 in
theorem Weights_w (a : Option Addr) (n cap : Nat) (xs : List Int) (w : World) (h : IsL w (.slice a n cap) xs) :
    Calls Tryd.prog 33 #[.slice a n cap] w fun e w' => ∃ v, e = .returned (.tuple #[v, .int .i64 (pl xs)]) ∧ IsL w' v (wtsE xs) ∧ Fresh w.heap.size v ∧ Below w.heap.size w w' := by
  have hw := places_w a n cap xs w h
  cases hr : rise 9 100000 xs with
  | true =>
    have hg := fun k : Nat => weightsOf_w a n cap xs (w.drewN k) (h.drewN k) (Pos.of hr)
    have e1 : pl xs = 0 := by unfold pl; rw [hr]; rfl
    have e2 : Hid (wtsE xs = wts xs) := by show wtsE xs = _; unfold wtsE; rw [hr]; rfl
    rw [e1] at hw ⊢
    have HW := hide hw; have HG := hide hg; clear hw hg hr e1 h
    go_enter Tryd.func33, Tryd.ntmps33
    go_wp2_with (first | (go_at_call 35; refine HW.out.mono ?_; rintro e w' ⟨rfl, k, rfl⟩) | (go_at_call 36; refine (HG.out _).mono ?_; rintro e w1 ⟨v, rfl, hv, hf, hb⟩))
    go_ret2
    exact ⟨v, rfl, by rw [e2.out]; exact hv, hf, (below_drewN (Below.refl _ _) _).trans hb⟩
  | false =>
    have e1 : pl xs = 12 := by unfold pl; rw [hr]; rfl
    have e2 : Hid (wtsE xs = []) := by show wtsE xs = _; unfold wtsE; rw [hr]; rfl
    rw [e1] at hw ⊢
    have HW := hide hw; clear hw hr e1 h
    go_enter Tryd.func33, Tryd.ntmps33
    go_wp2_with (go_at_call 35; refine HW.out.mono ?_; rintro e w' ⟨rfl, k, rfl⟩)
    go_ret2
    exact ⟨_, rfl, by rw [e2.out]; exact IsLB.nil _ _, (fun k hk => by simp [Value.ownBlock] at hk), below_drewN (Below.refl _ _) _⟩

end Go.Proofs.YtfbgnnelnpcbiaaDoor
