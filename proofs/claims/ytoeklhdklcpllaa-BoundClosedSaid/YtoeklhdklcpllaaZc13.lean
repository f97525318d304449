import Derived.Test.YtoeklhdklcpllaaZc12
import Derived.Test.YtoeklhdklcpllaaZc10
set_option linter.unusedVariables false
set_option linter.unusedSimpArgs false
namespace Go.Proofs.Ytoeklhdklcpllaa
open Go Go.RowKit
namespace Ev
theorem Dj.start {ts : List (List Int)} {N : Nat} {t p : Nat -> Int} {S : Nat -> Prop} [DecidablePred S] {U : Int} {g : Tp} (h1 : ∀ v, v < N -> g.pr v = if S v then 0 else 1000000000) (h2 : ∀ v, v < N -> S v -> (g.cm v).fr = -1) (h3 : ∀ v, v < N -> g.lf v = false) (hU : ∀ v, v < N -> S v -> p v <= U) : Dj ts N t p S U g (fun _ => 0) := by
 have hc : cnB g.lf N = 0 := by
  have : ∀ k, k <= N -> cnB g.lf k = 0 := by
   intro k
   induction k with
   | zero => intro _; rfl
   | succ k ih =>
    intro hk
    show cnB g.lf k + (if g.lf k = true then 1 else 0) = 0
    rw [ih (by omega), h3 k (by omega)]; rfl
  exact this N (Nat.le_refl _)
 refine ⟨fun v hv s => ⟨by rw [h1 v hv, if_pos s], h2 v hv s⟩, fun v hv => ?_, fun v hv => ?_, fun v hv hf => ?_, fun v hv hl => ?_, fun v hv hl => ?_, fun u v hu hv hl => ?_, fun u hu hl => ?_⟩
 ·rw [h1 v hv]; split <;> decide
 ·rw [h1 v hv, hc]
  by_cases s : S v
  ·rw [if_pos s]; have := hU v hv s; exact .inr (by omega)
  ·rw [if_neg s]; exact .inl rfl
 ·rw [h1 v hv] at hf
  by_cases s : S v
  ·exact .inl s
  ·rw [if_neg s] at hf; exact absurd rfl hf
 ·rw [h3 v hv] at hl; cases hl
 ·rw [h3 v hv] at hl; cases hl
 ·rw [h3 u hu] at hl; cases hl
 ·rw [h3 u hu] at hl; cases hl
def ptN (p : Nat -> Int) (g : Tp) (v0 : Nat) (v : Nat) : Int := p v + min (g.pr v) (g.pr v0)
theorem ptN_st {ts : List (List Int)} {N : Nat} {t p : Nat -> Int} {S : Nat -> Prop} {U : Int} {g : Tp} {v0 : Nat} {rk : Nat -> Nat} (k : Kpt ts N t p) (hj : Dj ts N t p S U g rk) (hv : v0 < N) (hv2 : g.lf v0 = false) (hmin : ∀ v, v < N -> g.lf v = false -> g.pr v0 <= g.pr v) : Kpt ts N t (ptN p g v0) := by
 have low : ∀ u, u < N -> g.lf u = true -> g.pr u <= g.pr v0 := fun u hu hl => hj.ord u v0 hu hv hl hv2
 have fwd : ∀ i, i < ts.length -> ptN p g v0 (lb ts i) <= ptN p g v0 (la ts i) + lw ts i := fun i hi => by
  obtain ⟨a1, a2, _⟩ := k.lg i hi
  have h1 := k.st i hi
  unfold ptN
  cases e : g.lf (la ts i) with
  | true =>
   have h2 := (hj.rel _ a1 e i hi).1 rfl
   have h3 := low _ a1 e
   omega
  | false =>
   have h2 := hmin _ a1 e
   omega
 have bck : ∀ i, i < ts.length -> 0 < t i -> ptN p g v0 (la ts i) <= ptN p g v0 (lb ts i) - lw ts i := fun i hi ht => by
  obtain ⟨a1, a2, _⟩ := k.lg i hi
  have h1 := k.ti i hi ht
  unfold ptN
  cases e : g.lf (lb ts i) with
  | true =>
   have h2 := (hj.rel _ a2 e i hi).2 rfl ht
   have h3 := low _ a2 e
   omega
  | false =>
   have h2 := hmin _ a2 e
   omega
 exact ⟨k.lg, k.nn, fwd, fun i hi ht => by have := fwd i hi; have := bck i hi ht; omega⟩
def chn (g : Tp) (v0 : Nat) : Nat -> Nat
 | 0 => v0
 | j + 1 => (g.cm (chn g v0 j)).fr.toNat
structure Wy (ts : List (List Int)) (N : Nat) (t p : Nat -> Int) (S : Nat -> Prop) (g : Tp) (v0 : Nat) (rk : Nat -> Nat) (w : Nat) : Prop where
 lt : ∀ j, j <= w -> chn g v0 j < N
 fin : ∀ j, j <= w -> ¬ g.pr (chn g v0 j) = 1000000000
 lf : ∀ j, 0 < j -> j <= w -> g.lf (chn g v0 j) = true
 rs : ∀ j, j < w -> Rs ts t (chn g v0 (j + 1)) (g.cm (chn g v0 j)) /\ (g.cm (chn g v0 j)).to = chn g v0 j /\ g.pr (chn g v0 j) = g.pr (chn g v0 (j + 1)) + (g.cm (chn g v0 j)).ms + p (chn g v0 (j + 1)) - p (chn g v0 j)
 rk : ∀ j, j < w -> updX rk v0 (cnB g.lf N) (chn g v0 (j + 1)) < updX rk v0 (cnB g.lf N) (chn g v0 j)
theorem Wy.zero {ts : List (List Int)} {N : Nat} {t p : Nat -> Int} {S : Nat -> Prop} {g : Tp} {v0 : Nat} {rk : Nat -> Nat} (hv : v0 < N) (hf : ¬ g.pr v0 = 1000000000) : Wy ts N t p S g v0 rk 0 := by
 refine ⟨fun j hj => ?_, fun j hj => ?_, fun j h1 h2 => by omega, fun j hj => absurd hj (Nat.not_lt_zero j), fun j hj => absurd hj (Nat.not_lt_zero j)⟩
 ·rw [show j = 0 by omega]; exact hv
 ·rw [show j = 0 by omega]; exact hf
theorem Wy.rank {ts : List (List Int)} {N : Nat} {t p : Nat -> Int} {S : Nat -> Prop} {g : Tp} {v0 : Nat} {rk : Nat -> Nat} {w : Nat} (h : Wy ts N t p S g v0 rk w) : ∀ {j : Nat}, j <= w -> updX rk v0 (cnB g.lf N) (chn g v0 j) + j <= cnB g.lf N
 | 0, _ => by show updX rk v0 (cnB g.lf N) v0 + 0 <= _; rw [updX_eq]; exact Nat.le_refl _
 | j + 1, hj => by
  have := h.rank (j := j) (by omega)
  have := h.rk j (by omega)
  omega
theorem Wy.next {ts : List (List Int)} {N : Nat} {t p : Nat -> Int} {S : Nat -> Prop} {U : Int} {g : Tp} {v0 : Nat} {rk : Nat -> Nat} {w : Nat} (hj : Dj ts N t p S U g rk) (hv2 : g.lf v0 = false) (h : Wy ts N t p S g v0 rk w) (hn : ¬ (g.cm (chn g v0 w)).fr = -1) : Wy ts N t p S g v0 rk (w + 1) := by
 have hlt := h.lt w (Nat.le_refl _)
 have hnS : ¬ S (chn g v0 w) := fun s => hn (hj.src _ hlt s).2
 obtain ⟨u, u1, u2, u3, u4, u5, u6⟩ := (hj.cam _ hlt (h.fin w (Nat.le_refl _))).resolve_left hnS
 have e : chn g v0 (w + 1) = u := by
  show (g.cm (chn g v0 w)).fr.toNat = u
  rw [u3.fr, Int.toNat_natCast]
 have hu : u ≠ v0 := fun q => by rw [q, hv2] at u2; cases u2
 refine ⟨fun j hj' => ?_, fun j hj' => ?_, fun j h1 h2 => ?_, fun j hj' => ?_, fun j hj' => ?_⟩
 ·by_cases q : j = w + 1
  ·rw [q, e]; exact u1
  ·exact h.lt j (by omega)
 ·by_cases q : j = w + 1
  ·rw [q, e]; exact hj.fin u u1 u2
  ·exact h.fin j (by omega)
 ·by_cases q : j = w + 1
  ·rw [q, e]; exact u2
  ·exact h.lf j h1 (by omega)
 ·by_cases q : j = w
  ·rw [q, e]; exact ⟨u3, u4, u5⟩
  ·exact h.rs j (by omega)
 ·by_cases q : j = w
  ·rw [q, e, updX_ne hu]
   by_cases z : w = 0
   ·rw [z]
    show rk u < updX rk v0 _ v0
    rw [updX_eq]; exact hj.rkc u u1 u2
   ·have hl := h.lf w (by omega) (Nat.le_refl _)
    have hc : chn g v0 w ≠ v0 := fun q => by rw [q, hv2] at hl; cases hl
    rw [updX_ne hc]; exact u6 hl
  ·exact h.rk j (by omega)
def stp' (g : Tp) (v0 L m : Nat) : Cm := g.cm (chn g v0 (L - 1 - m))
def twT (t : Nat -> Int) (n : Int) (σ : Nat -> Cm) : Nat -> Nat -> Int
 | 0 => t
 | m + 1 => updX (twT t n σ m) (σ m).lim (if (σ m).bk = true then twT t n σ m (σ m).lim - n else twT t n σ m (σ m).lim + n)
theorem net_upd {ts : List (List Int)} {t : Nat -> Int} {i v : Nat} {d : Int} : ∀ {k : Nat}, net ts (updX t i (t i + d)) k v = net ts t k v + (if i < k then (if lb ts i = v then d else 0) - (if la ts i = v then d else 0) else 0)
 | 0 => by show (0 : Int) = 0 + _; rw [if_neg (Nat.not_lt_zero _)]; rfl
 | k + 1 => by
  have ih := net_upd (ts := ts) (t := t) (i := i) (v := v) (d := d) (k := k)
  show net ts (updX t i (t i + d)) k v + ((if lb ts k = v then updX t i (t i + d) k else 0) - (if la ts k = v then updX t i (t i + d) k else 0)) = net ts t k v + ((if lb ts k = v then t k else 0) - (if la ts k = v then t k else 0)) + _
  rw [ih]
  by_cases q : k = i
  ·subst q
   rw [updX_eq, if_neg (Nat.lt_irrefl _), if_pos (Nat.lt_succ_self _)]
   by_cases c1 : lb ts k = v
   ·by_cases c2 : la ts k = v
    ·simp only [if_pos c1, if_pos c2]; omega
    ·simp only [if_pos c1, if_neg c2]; omega
   ·by_cases c2 : la ts k = v
    ·simp only [if_neg c1, if_pos c2]; omega
    ·simp only [if_neg c1, if_neg c2]; omega
  ·rw [updX_ne q]
   by_cases c : i < k
   ·rw [if_pos c, if_pos (show i < k + 1 by omega)]; omega
   ·rw [if_neg c, if_neg (show ¬ i < k + 1 by omega)]; omega
theorem tw_net {ts : List (List Int)} {N : Nat} {t p : Nat -> Int} {S : Nat -> Prop} {g : Tp} {v0 : Nat} {rk : Nat -> Nat} {L : Nat} {n : Int} (h : Wy ts N t p S g v0 rk L) {v : Nat} : ∀ {m : Nat}, m <= L -> net ts (twT t n (stp' g v0 L) m) ts.length v = net ts t ts.length v + ((if chn g v0 (L - m) = v then n else 0) - (if chn g v0 L = v then n else 0))
 | 0, _ => by
  show net ts t ts.length v = _
  rw [Nat.sub_zero]; omega
 | m + 1, hm => by
  have ih := tw_net h (n := n) (v := v) (m := m) (by omega)
  obtain ⟨r1, r2, r3⟩ := h.rs (L - 1 - m) (by omega)
  rw [show L - 1 - m + 1 = L - m by omega] at r1
  have e : chn g v0 (L - (m + 1)) = chn g v0 (L - 1 - m) := by congr 1; omega
  rw [e]
  have hlt := r1.lt
  rcases r1.wh with ⟨w0, w1, w2, w3⟩ | ⟨w0, w1, w2, w3, w4⟩
  ·have e2 : twT t n (stp' g v0 L) (m + 1) = updX (twT t n (stp' g v0 L) m) (stp' g v0 L m).lim (twT t n (stp' g v0 L) m (stp' g v0 L m).lim + n) := by
    show updX _ _ (if (stp' g v0 L m).bk = true then _ else _) = _
    rw [if_neg (by show ¬ (g.cm (chn g v0 (L - 1 - m))).bk = true; rw [w0]; decide)]
   rw [e2, net_upd, ih]
   have hlt' : (stp' g v0 L m).lim < ts.length := hlt
   rw [if_pos hlt']
   have a1 : la ts (stp' g v0 L m).lim = chn g v0 (L - m) := w1
   have a2 : lb ts (stp' g v0 L m).lim = chn g v0 (L - 1 - m) := w2.symm.trans r2
   rw [a1, a2]
   omega
  ·have e2 : twT t n (stp' g v0 L) (m + 1) = updX (twT t n (stp' g v0 L) m) (stp' g v0 L m).lim (twT t n (stp' g v0 L) m (stp' g v0 L m).lim + -n) := by
    show updX _ _ (if (stp' g v0 L m).bk = true then _ else _) = _
    rw [if_pos (show (stp' g v0 L m).bk = true from w0)]; rfl
   rw [e2, net_upd, ih]
   have hlt' : (stp' g v0 L m).lim < ts.length := hlt
   rw [if_pos hlt']
   have a1 : lb ts (stp' g v0 L m).lim = chn g v0 (L - m) := w1
   have a2 : la ts (stp' g v0 L m).lim = chn g v0 (L - 1 - m) := w2.symm.trans r2
   rw [a1, a2]
   by_cases c1 : chn g v0 (L - m) = v
   ·by_cases c2 : chn g v0 (L - 1 - m) = v
    ·simp only [if_pos c1, if_pos c2]; omega
    ·simp only [if_pos c1, if_neg c2]; omega
   ·by_cases c2 : chn g v0 (L - 1 - m) = v
    ·simp only [if_neg c1, if_pos c2]; omega
    ·simp only [if_neg c1, if_neg c2]; omega
theorem tw_or {t : Nat -> Int} {n : Int} {σ : Nat -> Cm} {i : Nat} : ∀ {m : Nat}, twT t n σ m i = t i ∨ ∃ j, j < m /\ (σ j).lim = i
 | 0 => .inl rfl
 | m + 1 => by
  rcases tw_or (t := t) (n := n) (σ := σ) (i := i) (m := m) with h | ⟨j, h1, h2⟩
  ·by_cases q : i = (σ m).lim
   ·exact .inr ⟨m, by omega, q.symm⟩
   ·refine .inl ?_
    show updX _ _ _ i = _
    rw [updX_ne q]; exact h
  ·exact .inr ⟨j, by omega, h2⟩
theorem Wy.inj {ts : List (List Int)} {N : Nat} {t p : Nat -> Int} {S : Nat -> Prop} {g : Tp} {v0 : Nat} {rk : Nat -> Nat} {w : Nat} (h : Wy ts N t p S g v0 rk w) {i j : Nat} (hi : i <= w) (hj : j <= w) (e : chn g v0 i = chn g v0 j) : i = j := by
 have key : ∀ d i, i + (d + 1) <= w -> updX rk v0 (cnB g.lf N) (chn g v0 (i + (d + 1))) < updX rk v0 (cnB g.lf N) (chn g v0 i) := by
  intro d
  induction d with
  | zero => intro i hi; exact h.rk i (by omega)
  | succ d ih =>
   intro i hi
   have h1 := ih i (by omega)
   have h2 := h.rk (i + (d + 1)) (by omega)
   rw [show i + (d + 1 + 1) = i + (d + 1) + 1 by omega]
   omega
 refine Classical.byContradiction (fun q => ?_)
 rcases Nat.lt_or_ge i j with c | c
 ·have := key (j - i - 1) i (by omega)
  rw [show i + (j - i - 1 + 1) = j by omega, e] at this
  omega
 ·have := key (i - j - 1) j (by omega)
  rw [show j + (i - j - 1 + 1) = i by omega, e] at this
  omega
theorem tw_nn {ts : List (List Int)} {N : Nat} {t p : Nat -> Int} {S : Nat -> Prop} {g : Tp} {v0 : Nat} {rk : Nat -> Nat} {L : Nat} {n : Int} (k : Kpt ts N t p) (h : Wy ts N t p S g v0 rk L) (hn : 0 <= n) (hb : ∀ m, m < L -> (stp' g v0 L m).bk = true -> n <= t (stp' g v0 L m).lim) : ∀ {m : Nat}, m <= L -> (∀ i, i < ts.length -> 0 <= twT t n (stp' g v0 L) m i) /\ ∀ j, m <= j -> j < L -> (stp' g v0 L j).bk = true -> n <= twT t n (stp' g v0 L) m (stp' g v0 L j).lim
 | 0, _ => ⟨k.nn, fun j _ hj hk => hb j hj hk⟩
 | m + 1, hm => by
  obtain ⟨i1, i2⟩ := tw_nn k h hn hb (m := m) (by omega)
  refine ⟨fun i hi => ?_, fun j hj hj2 hk => ?_⟩
  ·show 0 <= updX _ _ _ i
   by_cases q : i = (stp' g v0 L m).lim
   ·rw [q, updX_eq]
    have h1 := i1 i hi
    rw [q] at h1
    by_cases c : (stp' g v0 L m).bk = true
    ·rw [if_pos c]; have := i2 m (Nat.le_refl _) (by omega) c; omega
    ·rw [if_neg c]; omega
   ·rw [updX_ne q]; exact i1 i hi
  ·show n <= updX _ _ _ (stp' g v0 L j).lim
   have h2 := i2 j (by omega) hj2 hk
   by_cases q : (stp' g v0 L j).lim = (stp' g v0 L m).lim
   ·rw [q, updX_eq]
    rw [q] at h2
    by_cases c : (stp' g v0 L m).bk = true
    ·obtain ⟨r1, r2, _⟩ := h.rs (L - 1 - m) (by omega)
     obtain ⟨s1, s2, _⟩ := h.rs (L - 1 - j) (by omega)
     have a1 := (r1.wh.resolve_left (fun z => by have : (stp' g v0 L m).bk = false := z.1; rw [this] at c; cases c)).2.2.1
     have a2 := (s1.wh.resolve_left (fun z => by have : (stp' g v0 L j).bk = false := z.1; rw [this] at hk; cases hk)).2.2.1
     rw [r2] at a1
     rw [s2] at a2
     have a3 : la ts (g.cm (chn g v0 (L - 1 - j))).lim = la ts (g.cm (chn g v0 (L - 1 - m))).lim := congrArg (la ts) q
     have := h.inj (i := L - 1 - m) (j := L - 1 - j) (by omega) (by omega) (by rw [a1, a2]; exact a3.symm)
     omega
    ·rw [if_neg c]; omega
   ·rw [updX_ne q]; exact h2
theorem tw_sum {ts : List (List Int)} {t : Nat -> Int} {n : Int} {σ : Nat -> Cm} {K : Nat} (hn : 0 <= n) : ∀ {m : Nat}, (∀ j, j < m -> (σ j).lim < K) -> tot (twT t n σ m) K <= tot t K + n * (m : Int)
 | 0, _ => by show tot t K <= tot t K + n * 0; omega
 | m + 1, h => by
  have ih := tw_sum (ts := ts) (t := t) (σ := σ) hn (m := m) (fun j hj => h j (by omega))
  have hl := h m (by omega)
  show tot (updX _ _ _) K <= _
  rw [tot_upd hl, Int.natCast_add, Int.mul_add]
  split
  ·show _ + (_ - n - _) <= _ + (_ + n * 1); omega
  ·show _ + (_ + n - _) <= _ + (_ + n * 1); omega
theorem tw_dv {t : Nat -> Int} {n d : Int} {σ : Nat -> Cm} {K : Nat} (hn : d ∣ n) (ht : ∀ i, i < K -> d ∣ t i) : ∀ {m : Nat}, ∀ i, i < K -> d ∣ twT t n σ m i
 | 0, i, hi => ht i hi
 | m + 1, i, hi => by
  have ih := tw_dv hn ht (σ := σ) (m := m)
  show d ∣ updX _ _ _ i
  by_cases q : i = (σ m).lim
  ·rw [q, updX_eq]
   have h1 := ih i hi
   rw [q] at h1
   split
   ·exact Int.dvd_sub h1 hn
   ·exact Int.dvd_add h1 hn
  ·rw [updX_ne q]; exact ih i hi
theorem way_ti {ts : List (List Int)} {N : Nat} {t p : Nat -> Int} {S : Nat -> Prop} {U : Int} {g : Tp} {v0 : Nat} {rk : Nat -> Nat} {L : Nat} (hj : Dj ts N t p S U g rk) (hv : v0 < N) (hv2 : g.lf v0 = false) (h : Wy ts N t p S g v0 rk L) {j : Nat} (hjL : j < L) : ptN p g v0 (lb ts (stp' g v0 L j).lim) = ptN p g v0 (la ts (stp' g v0 L j).lim) + lw ts (stp' g v0 L j).lim := by
 obtain ⟨r1, r2, r3⟩ := h.rs (L - 1 - j) (by omega)
 have low : ∀ i, i <= L -> g.pr (chn g v0 i) <= g.pr v0 := fun i hi => by
  by_cases z : i = 0
  ·rw [z]; exact Int.le_refl _
  ·exact hj.ord _ v0 (h.lt i hi) hv (h.lf i (by omega) hi) hv2
 have l1 := low (L - 1 - j) (by omega)
 have l2 := low (L - 1 - j + 1) (by omega)
 unfold ptN
 rcases r1.wh with ⟨_, w1, w2, w3⟩ | ⟨_, w1, w2, w3, _⟩
 ·have a1 : la ts (stp' g v0 L j).lim = chn g v0 (L - 1 - j + 1) := w1
  have a2 : lb ts (stp' g v0 L j).lim = chn g v0 (L - 1 - j) := w2.symm.trans r2
  have a3 : lw ts (stp' g v0 L j).lim = (g.cm (chn g v0 (L - 1 - j))).ms := w3.symm
  rw [a1, a2, a3]; omega
 ·have a1 : lb ts (stp' g v0 L j).lim = chn g v0 (L - 1 - j + 1) := w1
  have a2 : la ts (stp' g v0 L j).lim = chn g v0 (L - 1 - j) := w2.symm.trans r2
  have a3 : (g.cm (chn g v0 (L - 1 - j))).ms = -(lw ts (stp' g v0 L j).lim) := w3
  rw [a1, a2]; omega
def dueN (due : Nat -> Int) (a b : Nat) (n : Int) : Nat -> Int := updX (updX due a (due a + n)) b (updX due a (due a + n) b - n)
theorem moved_ld {ts : List (List Int)} {N : Nat} {t p w due : Nat -> Int} {S : Nat -> Prop} {U : Int} {g : Tp} {v0 : Nat} {rk : Nat -> Nat} {L : Nat} {n : Int} (k : Kpt ts N t p) (hl : Ld ts N w due t p) (hj : Dj ts N t p S U g rk) (hv : v0 < N) (hv2 : g.lf v0 = false) (hmin : ∀ v, v < N -> g.lf v = false -> g.pr v0 <= g.pr v) (h : Wy ts N t p S g v0 rk L) (hn : 0 <= n) (hb : ∀ m, m < L -> (stp' g v0 L m).bk = true -> n <= t (stp' g v0 L m).lim) (hne : chn g v0 L ≠ v0) :
 Ld ts N w (dueN due (chn g v0 L) v0 n) (twT t n (stp' g v0 L) L) (ptN p g v0) /\ Kpt ts N (twT t n (stp' g v0 L) L) (ptN p g v0) := by
 have k2 := ptN_st k hj hv hv2 hmin
 have hnn := (tw_nn k h hn hb (Nat.le_refl L)).1
 have hti : ∀ i, i < ts.length -> 0 < twT t n (stp' g v0 L) L i -> ptN p g v0 (lb ts i) = ptN p g v0 (la ts i) + lw ts i := fun i hi hp => by
  rcases tw_or (t := t) (n := n) (σ := stp' g v0 L) (i := i) (m := L) with e | ⟨j, j1, j2⟩
  ·rw [e] at hp; exact k2.ti i hi hp
  ·rw [<- j2]; exact way_ti hj hv hv2 h j1
 refine ⟨⟨hnn, fun v hv' => ?_, k2.st, hti⟩, ⟨k.lg, hnn, k2.st, hti⟩⟩
 rw [tw_net h (Nat.le_refl L), hl.nt v hv', Nat.sub_self]
 show w v - due v + ((if v0 = v then n else 0) - (if chn g v0 L = v then n else 0)) = w v - updX _ _ _ v
 by_cases c1 : v = v0
 ·subst c1
  rw [updX_eq, updX_ne (fun e => hne e.symm), if_pos rfl, if_neg hne]; omega
 ·rw [updX_ne c1, if_neg (fun e => c1 e.symm)]
  by_cases c2 : v = chn g v0 L
  ·rw [c2, updX_eq, if_pos rfl]; omega
  ·rw [updX_ne c2, if_neg (fun e => c2 e.symm)]; omega
section
variable {X : FuncId -> List Value -> St -> (Value -> St -> Bool) -> Bool}
end
end Ev
end Go.Proofs.Ytoeklhdklcpllaa
namespace Go.Proofs.Ytoeklhdklcpllaa
open Go Go.RowKit
namespace Ev
def posS (d : Nat -> Int) (N : Nat) : Int := tot (fun v => max (d v) 0) N
theorem dueN_at {due : Nat -> Int} {a b v : Nat} {n : Int} (hab : a ≠ b) : dueN due a b n v = due v + (if a = v then n else 0) - (if b = v then n else 0) := by
 unfold dueN
 by_cases c1 : v = b
 ·subst c1
  rw [updX_eq, updX_ne (fun e => hab e.symm), if_neg hab, if_pos rfl]; omega
 ·rw [updX_ne c1, if_neg (show ¬ b = v from fun e => c1 e.symm)]
  by_cases c2 : v = a
  ·subst c2; rw [updX_eq, if_pos rfl]; omega
  ·rw [updX_ne c2, if_neg (show ¬ a = v from fun e => c2 e.symm)]; omega
theorem dueN_tot {due : Nat -> Int} {a b N : Nat} {n : Int} (hab : a ≠ b) (ha : a < N) (hb : b < N) : tot (dueN due a b n) N = tot due N := by
 rw [tot_congr (fun v _ => dueN_at hab), tot_sub, tot_add, tot_one (c := fun _ => n) ha, tot_one (c := fun _ => n) hb]; omega
theorem dueN_pos {due : Nat -> Int} {a b N : Nat} {n : Int} (hab : a ≠ b) (hb : b < N) (hn : 0 <= n) (h1 : due a + n <= 0) (h2 : n <= due b) : posS (dueN due a b n) N = posS due N - n := by
 unfold posS
 have e : ∀ v, v < N -> max (dueN due a b n v) 0 = max (due v) 0 - (if b = v then n else 0) := fun v _ => by
  rw [dueN_at hab]
  by_cases c1 : b = v
  ·subst c1; rw [if_pos rfl, if_neg hab]; omega
  ·rw [if_neg c1]
   by_cases c2 : a = v
   ·subst c2; rw [if_pos rfl]; omega
   ·rw [if_neg c2]; omega
 rw [tot_congr e, tot_sub, tot_one (c := fun _ => n) hb]
theorem Wy.dn {ts : List (List Int)} {N : Nat} {t p : Nat -> Int} {S : Nat -> Prop} {g : Tp} {v0 : Nat} {rk : Nat -> Nat} {w : Nat} (h : Wy ts N t p S g v0 rk w) : ∀ {d a : Nat}, a + d + 1 <= w -> updX rk v0 (cnB g.lf N) (chn g v0 (a + d + 1)) < updX rk v0 (cnB g.lf N) (chn g v0 a)
 | 0, a, hw => h.rk a (by omega)
 | d + 1, a, hw => by
  have h1 := Wy.dn h (d := d) (a := a) (by omega)
  have h2 := h.rk (a + d + 1) (by omega)
  have h3 : updX rk v0 (cnB g.lf N) (chn g v0 (a + (d + 1) + 1)) < updX rk v0 (cnB g.lf N) (chn g v0 (a + d + 1)) := h2
  omega
theorem Wy.ne {ts : List (List Int)} {N : Nat} {t p : Nat -> Int} {S : Nat -> Prop} {g : Tp} {v0 : Nat} {rk : Nat -> Nat} {w a b : Nat} (h : Wy ts N t p S g v0 rk w) (hab : a < b) (hb : b <= w) : chn g v0 a ≠ chn g v0 b := fun e => by
 have h1 := h.dn (d := b - a - 1) (a := a) (by omega)
 rw [show a + (b - a - 1) + 1 = b by omega, e] at h1
 exact absurd h1 (Nat.lt_irrefl _)
theorem Wy.ends {ts : List (List Int)} {N : Nat} {t p : Nat -> Int} {S : Nat -> Prop} {g : Tp} {v0 : Nat} {rk : Nat -> Nat} {w j : Nat} (h : Wy ts N t p S g v0 rk w) (hj : j < w) : (la ts (g.cm (chn g v0 j)).lim = chn g v0 j /\ lb ts (g.cm (chn g v0 j)).lim = chn g v0 (j + 1)) ∨ (lb ts (g.cm (chn g v0 j)).lim = chn g v0 j /\ la ts (g.cm (chn g v0 j)).lim = chn g v0 (j + 1)) := by
 obtain ⟨r1, r2, _⟩ := h.rs j hj
 rcases r1.wh with ⟨_, w1, w2, _⟩ | ⟨_, w1, w2, _⟩
 ·exact .inr ⟨w2.symm.trans r2, w1⟩
 ·exact .inl ⟨w2.symm.trans r2, w1⟩
theorem Wy.lims {ts : List (List Int)} {N : Nat} {t p : Nat -> Int} {S : Nat -> Prop} {g : Tp} {v0 : Nat} {rk : Nat -> Nat} {w : Nat} (h : Wy ts N t p S g v0 rk w) {a b : Nat} (hab : a < b) (hb : b < w) : (g.cm (chn g v0 a)).lim ≠ (g.cm (chn g v0 b)).lim := fun e => by
 have h1 := h.ends (j := a) (by omega)
 have h2 := h.ends hb
 rw [<- e] at h2
 have n1 := h.ne hab (by omega)
 have n2 := h.ne (show a < b + 1 by omega) (by omega)
 rcases h1 with ⟨p1, _⟩ | ⟨p1, _⟩ <;> rcases h2 with ⟨q1, q2⟩ | ⟨q1, q2⟩
 ·exact n1 (p1.symm.trans q1)
 ·exact n2 (p1.symm.trans q2)
 ·exact n2 (p1.symm.trans q2)
 ·exact n1 (p1.symm.trans q1)
theorem tw_one {t : Nat -> Int} {n : Int} {σ : Nat -> Cm} {L i : Nat} (hd : ∀ a b, a < b -> b < L -> (σ a).lim ≠ (σ b).lim) (hn : 0 <= n) : ∀ {m : Nat}, m <= L -> twT t n σ m i <= t i + n /\ ((∀ a, a < m -> (σ a).lim ≠ i) -> twT t n σ m i = t i)
 | 0, _ => ⟨by show t i <= _; omega, fun _ => rfl⟩
 | m + 1, hm => by
  obtain ⟨h1, h2⟩ := tw_one hd hn (m := m) (by omega) (t := t) (i := i)
  show updX _ _ _ i <= _ /\ (_ -> updX _ _ _ i = _)
  by_cases e : i = (σ m).lim
  ·have h3 := h2 (fun a ha q => hd a m ha (by omega) (q.trans e))
   rw [e, updX_eq]
   rw [e] at h3
   refine ⟨?_, fun q => absurd rfl (q m (by omega))⟩
   split <;> omega
  ·rw [updX_ne e]
   exact ⟨h1, fun q => h2 (fun a ha => q a (by omega))⟩
theorem Wy.stp {ts : List (List Int)} {N : Nat} {t p : Nat -> Int} {S : Nat -> Prop} {g : Tp} {v0 : Nat} {rk : Nat -> Nat} {L : Nat} (h : Wy ts N t p S g v0 rk L) : ∀ a b, a < b -> b < L -> (stp' g v0 L a).lim ≠ (stp' g v0 L b).lim := fun a b hab hb e => h.lims (a := L - 1 - b) (b := L - 1 - a) (by omega) (by omega) e.symm
structure Lv (ls : List (List Int)) (M : Nat) (w due t p : Nat -> Int) (P base : Int) : Prop where
 ld : Ld (ls ++ tollL M) (M + 1) w due t p
 dv : ∀ i, i < (ls ++ tollL M).length -> P ∣ t i
 sm : tot due (M + 1) = 0
 tm : tot t (ls ++ tollL M).length + 64 * posS due (M + 1) <= 230400000000000
 ps : ∀ v, v < M + 1 -> due v <= -P -> p v <= base
 pu : ∀ v, v < M + 1 -> p v <= base + 2560002
 pl : ∀ v, v < M + 1 -> -1300000 <= p v
 te : ∀ i, i < (ls ++ tollL M).length -> t i + posS due (M + 1) <= 3600000000000
theorem kpt_of {ls : List (List Int)} {M : Nat} {w due t p : Nat -> Int} (hl : lmB (M : Int) ls = true) (h : Ld (ls ++ tollL M) (M + 1) w due t p) : Kpt (ls ++ tollL M) (M + 1) t p :=
 ⟨fun i hi => by obtain ⟨a, b, c, d, e, _⟩ := lg_tl hl i hi; exact ⟨a, b, c, d, e⟩, h.nn, h.st, h.ti⟩
theorem near_all {ls : List (List Int)} {M : Nat} {t p : Nat -> Int} (k : Kpt (ls ++ tollL M) (M + 1) t p) : ∀ v, v < M + 1 -> p v <= p 0 + 1280001 /\ p 0 <= p v + 1280001 := fun v hv => by
 by_cases z : v = 0
 ·rw [z]; omega
 ·have hlen : (ls ++ tollL M).length = ls.length + 2 * M := by rw [List.length_append, toll_len]
  obtain ⟨t1, t2⟩ := tl_up (ls := ls) (show v - 1 < M by omega)
  obtain ⟨a1, a2, a3⟩ := fld t1
  obtain ⟨b1, b2, b3⟩ := fld t2
  have h1 := k.st (ls.length + 2 * (v - 1)) (by omega)
  have h2 := k.st (ls.length + 2 * (v - 1) + 1) (by omega)
  rw [a1, a2, a3, show v - 1 + 1 = v by omega] at h1
  rw [b1, b2, b3, show v - 1 + 1 = v by omega] at h2
  omega
theorem near_two {ls : List (List Int)} {M : Nat} {t p : Nat -> Int} (k : Kpt (ls ++ tollL M) (M + 1) t p) {u v : Nat} (hu : u < M + 1) (hv : v < M + 1) : p v <= p u + 2560002 := by
 have h1 := near_all k u hu
 have h2 := near_all k v hv
 omega
def nmV (t : Nat -> Int) (σ : Nat -> Cm) (z : Int) : Nat -> Int
 | 0 => z
 | m + 1 => if (σ m).bk = true then min (nmV t σ z m) (t (σ m).lim) else nmV t σ z m
theorem nm_le {t : Nat -> Int} {σ : Nat -> Cm} {z : Int} : ∀ {m : Nat}, nmV t σ z m <= z /\ ∀ j, j < m -> (σ j).bk = true -> nmV t σ z m <= t (σ j).lim
 | 0 => ⟨Int.le_refl _, fun j hj => absurd hj (Nat.not_lt_zero j)⟩
 | m + 1 => by
  obtain ⟨h1, h2⟩ := nm_le (t := t) (σ := σ) (z := z) (m := m)
  show (if (σ m).bk = true then min (nmV t σ z m) (t (σ m).lim) else nmV t σ z m) <= z /\ ∀ j, j < m + 1 -> (σ j).bk = true -> (if (σ m).bk = true then min (nmV t σ z m) (t (σ m).lim) else nmV t σ z m) <= t (σ j).lim
  by_cases c : (σ m).bk = true
  ·rw [if_pos c]
   refine ⟨by omega, fun j hj hb => ?_⟩
   by_cases e : j = m
   ·rw [e]; omega
   ·have := h2 j (by omega) hb; omega
  ·rw [if_neg c]
   refine ⟨h1, fun j hj hb => ?_⟩
   by_cases e : j = m
   ·rw [e] at hb; exact absurd hb c
   ·exact h2 j (by omega) hb
theorem nm_ge {t : Nat -> Int} {σ : Nat -> Cm} {z P : Int} (hz : P <= z) : ∀ {m : Nat}, (∀ j, j < m -> (σ j).bk = true -> P <= t (σ j).lim) -> P <= nmV t σ z m
 | 0, _ => hz
 | m + 1, h => by
  have ih := nm_ge hz (t := t) (σ := σ) (m := m) (fun j hj => h j (by omega))
  show P <= (if (σ m).bk = true then min (nmV t σ z m) (t (σ m).lim) else nmV t σ z m)
  split
  ·have := h m (by omega) (by assumption); omega
  ·exact ih
def mvV (x P : Int) : Int := x - x.tmod P
theorem mv_bd {x P : Int} (hP : 0 < P) (hx : P <= x) : P ∣ mvV x P /\ P <= mvV x P /\ mvV x P <= x := by
 unfold mvV
 have h1 : 0 <= x.tmod P := Int.tmod_nonneg P (by omega)
 have h2 : x.tmod P < P := Int.tmod_lt_of_pos x hP
 have h3 := Int.mul_tdiv_add_tmod x P
 have hd : P ∣ x - x.tmod P := ⟨x.tdiv P, by omega⟩
 refine ⟨hd, ?_, by omega⟩
 exact Int.le_of_dvd (by omega) hd
theorem posS_nn {d : Nat -> Int} {N : Nat} : 0 <= posS d N := tot_nn (fun v _ => by show 0 <= max (d v) 0; omega)
theorem Lv.move {ls : List (List Int)} {M : Nat} {w due t p : Nat -> Int} {P base : Int} {g : Tp} {v0 : Nat} {rk : Nat -> Nat} {L : Nat} {U : Int} (hl : lmB (M : Int) ls = true) (hM : M <= 64) (hP : 0 < P) (h : Lv ls M w due t p P base) (hj : Dj (ls ++ tollL M) (M + 1) t p (fun v => due v <= -P) U g rk) (hv : v0 < M + 1) (hv2 : g.lf v0 = false) (hmin : ∀ v, v < M + 1 -> g.lf v = false -> g.pr v0 <= g.pr v) (hd : P <= due v0)
 (hw : Wy (ls ++ tollL M) (M + 1) t p (fun v => due v <= -P) g v0 rk L) (hfr : (g.cm (chn g v0 L)).fr = -1) :
 0 < L /\ L <= 64 /\ chn g v0 L ≠ v0 /\ due (chn g v0 L) <= -P /\
 P <= nmV t (stp' g v0 L) (min (-(due (chn g v0 L))) (due v0)) L /\
 Lv ls M w (dueN due (chn g v0 L) v0 (mvV (nmV t (stp' g v0 L) (min (-(due (chn g v0 L))) (due v0)) L) P)) (twT t (mvV (nmV t (stp' g v0 L) (min (-(due (chn g v0 L))) (due v0)) L) P) (stp' g v0 L) L) (ptN p g v0) P base /\
 posS (dueN due (chn g v0 L) v0 (mvV (nmV t (stp' g v0 L) (min (-(due (chn g v0 L))) (due v0)) L) P)) (M + 1) < posS due (M + 1) := by
 have k := kpt_of hl h.ld
 have hlt := hw.lt L (Nat.le_refl _)
 have hS : due (chn g v0 L) <= -P := by
  rcases hj.cam _ hlt (hw.fin L (Nat.le_refl _)) with q | ⟨u, _, _, u3, _⟩
  ·exact q
  ·have := u3.fr; omega
 have hne : chn g v0 L ≠ v0 := fun e => by rw [e] at hS; omega
 have hL0 : 0 < L := by
  refine Nat.pos_of_ne_zero (fun z => hne ?_)
  rw [z]; rfl
 have hL : L <= 64 := by
  have h1 := hw.rank (Nat.le_refl L)
  have h2 := cnB_lt hv2 hv
  omega
 have hback : ∀ m, m < L -> (stp' g v0 L m).bk = true -> P <= t (stp' g v0 L m).lim := fun m hm hb => by
  obtain ⟨r1, _, _⟩ := hw.rs (L - 1 - m) (by omega)
  have h4 := (r1.wh.resolve_left (fun z => by have : (stp' g v0 L m).bk = false := z.1; rw [this] at hb; cases hb)).2.2.2.2
  exact Int.le_of_dvd h4 (h.dv _ r1.lt)
 have hP2 := nm_ge (t := t) (σ := stp' g v0 L) (z := min (-(due (chn g v0 L))) (due v0)) (P := P) (by omega) (m := L) hback
 obtain ⟨n1, n2⟩ := nm_le (t := t) (σ := stp' g v0 L) (z := min (-(due (chn g v0 L))) (due v0)) (m := L)
 obtain ⟨m1, m2, m3⟩ := mv_bd hP hP2
 have hps := fun n hn hn1 hn2 => dueN_pos (due := due) (a := chn g v0 L) (b := v0) (N := M + 1) (n := n) hne hv hn hn1 hn2
 refine ⟨hL0, hL, hne, hS, hP2, ?_, ?_⟩
 ·obtain ⟨l1, l2⟩ := moved_ld (L := L) (n := mvV (nmV t (stp' g v0 L) (min (-(due (chn g v0 L))) (due v0)) L) P) k h.ld hj hv hv2 hmin hw (by omega) (fun m hm hb => by have := n2 m hm hb; omega) hne
  have src : ∀ v, v < M + 1 -> due v <= -P -> ptN p g v0 v = p v := fun v hv' hs => by
   unfold ptN
   have h1 := (hj.src v hv' hs).1
   have h2 := hj.pos v0 hv
   omega
  have hf := src _ hlt hS
  have hfb := h.ps _ hlt hS
  refine ⟨l1, tw_dv m1 h.dv, ?_, ?_, fun v hv' hs => ?_, fun v hv' => ?_, fun v hv' => ?_, fun i hi => ?_⟩
  ·rw [dueN_tot hne hlt hv]; exact h.sm
  ·have h1 := tw_sum (ts := ls ++ tollL M) (t := t) (n := mvV (nmV t (stp' g v0 L) (min (-(due (chn g v0 L))) (due v0)) L) P) (σ := stp' g v0 L) (K := (ls ++ tollL M).length) (by omega) (m := L) (fun j hj' => (hw.rs (L - 1 - j) (by omega)).1.lt)
   have h2 := hps (mvV (nmV t (stp' g v0 L) (min (-(due (chn g v0 L))) (due v0)) L) P) (by omega) (by omega) (by omega)
   rw [h2]
   have h3 := h.tm
   have h4 := Int.mul_le_mul_of_nonneg_left (show (L : Int) <= 64 by omega) (show 0 <= mvV (nmV t (stp' g v0 L) (min (-(due (chn g v0 L))) (due v0)) L) P by omega)
   omega
  ·have hs' : due v <= -P := by
    rw [dueN_at hne] at hs
    by_cases c1 : v0 = v
    ·subst c1; rw [if_neg hne, if_pos rfl] at hs; omega
    ·rw [if_neg c1] at hs
     split at hs <;> omega
   rw [src v hv' hs']; exact h.ps v hv' hs'
  ·have := near_two l2 hlt hv'
   omega
  ·have h1 := h.pl v hv'
   have h2 := hj.pos v hv'
   have h3 := hj.pos v0 hv
   unfold ptN; omega
  ·have h1 := (tw_one (t := t) (n := mvV (nmV t (stp' g v0 L) (min (-(due (chn g v0 L))) (due v0)) L) P) (i := i) hw.stp (by omega) (Nat.le_refl L)).1
   have h2 := hps (mvV (nmV t (stp' g v0 L) (min (-(due (chn g v0 L))) (due v0)) L) P) (by omega) (by omega) (by omega)
   have h3 := h.te i hi
   rw [h2]; omega
 ·rw [hps _ (by omega) (by omega) (by omega)]; omega
theorem Lv.done {ls : List (List Int)} {M : Nat} {w due t p : Nat -> Int} {base : Int} {g : Tp} {rk : Nat -> Nat} {U : Int} (hl : lmB (M : Int) ls = true) (hM : M <= 64) (h : Lv ls M w due t p 1 base) (hb : -1300000 <= base /\ base <= 100000000) (hj : Dj (ls ++ tollL M) (M + 1) t p (fun v => due v <= -1) U g rk) (hall : ∀ v, v < M + 1 -> g.lf v = false -> g.pr v = 1000000000) (hnd : ∀ v, v < M + 1 -> g.lf v = true -> due v < 1) : ∀ v, v < M + 1 -> due v = 0 := by
 have k := kpt_of hl h.ld
 have hlen : (ls ++ tollL M).length = ls.length + 2 * M := by rw [List.length_append, toll_len]
 have hno : ∀ v, v < M + 1 -> ¬ due v <= -1 := fun s hs hd => by
  have near : ∀ v, v < M + 1 -> -1300000 <= p v /\ p v <= base + 2560002 := fun v hv => ⟨h.pl v hv, h.pu v hv⟩
  have vis : ∀ v, v < M + 1 -> ¬ g.pr v = 1000000000 -> g.lf v = true := fun v hv hf => by
   cases e : g.lf v with
   | true => rfl
   | false => exact absurd (hall v hv e) hf
  have p0 := (hj.src s hs hd).1
  have v1 := vis s hs (by omega)
  have go0 : g.lf 0 = true /\ g.pr 0 <= 1280001 + base + 2560002 + 1300000 := by
   by_cases z : s = 0
   ·rw [z] at v1 p0; exact ⟨v1, by omega⟩
   ·obtain ⟨_, t2⟩ := tl_up (ls := ls) (show s - 1 < M by omega)
    obtain ⟨b1, b2, b3⟩ := fld t2
    have h1 := (hj.rel s hs v1 (ls.length + 2 * (s - 1) + 1) (by omega)).1 (by rw [b1]; omega)
    rw [b2, b3] at h1
    have n1 := near s hs
    have n0 := near 0 (by omega)
    exact ⟨vis 0 (by omega) (by omega), by omega⟩
  have go : ∀ v, v < M + 1 -> g.lf v = true := fun v hv => by
   by_cases z : v = 0
   ·rw [z]; exact go0.1
   ·obtain ⟨t1, _⟩ := tl_up (ls := ls) (show v - 1 < M by omega)
    obtain ⟨a1, a2, a3⟩ := fld t1
    have h1 := (hj.rel 0 (by omega) go0.1 (ls.length + 2 * (v - 1)) (by omega)).1 a1
    rw [a2, a3, show v - 1 + 1 = v by omega] at h1
    have n1 := near v hv
    have n0 := near 0 (by omega)
    exact vis v hv (by omega)
  have le0 : ∀ v, v < M + 1 -> due v <= 0 := fun v hv => by have := hnd v hv (go v hv); omega
  have : tot due (M + 1) <= due s := by
   have h1 := tot_mem (f := fun v => -(due v)) (fun v hv => by have := le0 v hv; show 0 <= -(due v); omega) s hs
   have h2 := tot_sub (f := fun _ => 0) (g := due) (N := M + 1)
   rw [tot_nil (f := fun _ => (0 : Int)) (fun _ _ => rfl), tot_congr (f := fun v => (0 : Int) - due v) (g := fun v => -(due v)) (fun v _ => by omega)] at h2
   omega
  have := h.sm
  omega
 intro v hv
 have h1 := tot_mem (f := due) (fun v hv => by have := hno v hv; omega) v hv
 have h2 := hno v hv
 have h3 := h.sm
 omega
theorem Lv.finer {ls : List (List Int)} {M : Nat} {w due t p : Nat -> Int} {P Q base : Int} (h : Lv ls M w due t p P base) (hQ : Q ∣ P) : Lv ls M w due t p Q (base + 2560002) :=
 ⟨h.ld, fun i hi => Int.dvd_trans hQ (h.dv i hi), h.sm, h.tm, fun v hv _ => h.pu v hv, fun v hv => by have := h.pu v hv; omega, h.pl, h.te⟩
section
variable {X : FuncId -> List Value -> St -> (Value -> St -> Bool) -> Bool}
end
end Ev
end Go.Proofs.Ytoeklhdklcpllaa
namespace Go.Proofs.Ytoeklhdklcpllaa
open Go Go.RowKit
namespace Ev
def fm (f : Nat -> Value) (n : Nat) : List Value := (List.range n).map f
theorem fm_len {f : Nat -> Value} {n : Nat} : (fm f n).length = n := by simp [fm]
theorem fm_get {f : Nat -> Value} {n q : Nat} (h : q < n) : (fm f n)[q]? = some (f q) := by
 unfold fm
 rw [List.getElem?_map, List.getElem?_range h]; rfl
theorem fm_none {f : Nat -> Value} {n q : Nat} (h : n <= q) : (fm f n)[q]? = none := List.getElem?_eq_none (by rw [fm_len]; exact h)
theorem fm_ext {f g : Nat -> Value} {n : Nat} (h : ∀ q, q < n -> f q = g q) : fm f n = fm g n := List.map_congr_left (fun q hq => h q (List.mem_range.1 hq))
theorem fm_set {f g : Nat -> Value} {n i : Nat} {v : Value} (h : ∀ q, q < n -> g q = if q = i then v else f q) : (fm f n).set i v = fm g n := by
 refine List.ext_getElem? (fun j => ?_)
 rw [List.getElem?_set]
 by_cases hj : j < n
 ·rw [fm_get hj, fm_get hj, fm_len, h j hj]
  by_cases e : i = j
  ·subst e; rw [if_pos rfl, if_pos hj, if_pos rfl]
  ·rw [if_neg e, if_neg (fun q => e q.symm)]
 ·rw [fm_none (by omega), fm_none (by omega), fm_len]
  split
  ·rw [if_neg (by omega)]
  ·rfl
theorem seg_of {l : List Value} : ∀ {r : List Value} {i : Nat}, (∀ t, t < r.length -> l[i + t]? = r[t]?) -> segL l i r.length = some r
 | [], _, _ => rfl
 | v :: r, i, h => by
  have h0 := h 0 (by simp)
  have h1 := seg_of (l := l) (r := r) (i := i + 1) (fun t ht => by
   have := h (t + 1) (by simp; omega)
   simpa [Nat.add_assoc, Nat.add_comm 1 t] using this)
  rw [Nat.add_zero] at h0
  show segL l i (r.length + 1) = _
  unfold segL
  rw [h0, h1]; rfl
theorem fm_over {f g : Nat -> Value} {n i : Nat} {r : List Value} (hi : i + r.length <= n) (h : ∀ q, q < n -> some (g q) = if i <= q /\ q < i + r.length then r[q - i]? else some (f q)) : overL (fm f n) i r = some (fm g n) := by
 have hl : i + r.length <= (fm f n).length := by rw [fm_len]; exact hi
 obtain ⟨l', e⟩ := overL_some hl
 rw [e]
 obtain ⟨e2, _⟩ := overL_eq e (by omega)
 subst e2
 congr 1
 refine List.ext_getElem? (fun q => ?_)
 rw [over_get hl]
 by_cases hq : q < n
 ·rw [fm_get hq, fm_get hq, h q hq]
 ·rw [fm_none (by omega), fm_none (by omega), if_neg (by omega)]
def cmV (c : Cm) : Nat -> Value
 | 0 => .int .i64 (c.lim : Int)
 | 1 => .bool c.bk
 | 2 => .int .i64 c.fr
 | 3 => .int .i64 (c.to : Int)
 | _ => .int .i64 c.ms
def cmC (c : Cm) : List Value := [.int .i64 (c.lim : Int), .bool c.bk, .int .i64 c.fr, .int .i64 (c.to : Int), .int .i64 c.ms]
theorem cmC_get {c : Cm} {t : Nat} (h : t < 5) : (cmC c)[t]? = some (cmV c t) := by
 match t, h with
 | 0, _ => rfl
 | 1, _ => rfl
 | 2, _ => rfl
 | 3, _ => rfl
 | 4, _ => rfl
def cml (σ : Nat -> Cm) (n : Nat) : List Value := fm (fun q => cmV (σ (q / 5)) (q % 5)) (n * 5)
theorem cml_len {σ : Nat -> Cm} {n : Nat} : (cml σ n).length = n * 5 := fm_len
theorem cml_get {σ : Nat -> Cm} {n j t : Nat} (hj : j < n) (ht : t < 5) : (cml σ n)[0 + j * 5 + t]? = some (cmV (σ j) t) := by
 unfold cml
 rw [fm_get (by omega), show (0 + j * 5 + t) / 5 = j by omega, show (0 + j * 5 + t) % 5 = t by omega]
theorem cml_seg {σ : Nat -> Cm} {n j : Nat} (hj : j < n) : segL (cml σ n) (0 + j * 5) 5 = some (cmC (σ j)) := by
 have := seg_of (l := cml σ n) (r := cmC (σ j)) (i := 0 + j * 5) (fun t ht => by
  have ht' : t < 5 := ht
  rw [cml_get hj ht', cmC_get ht'])
 exact this
theorem cml_over {σ : Nat -> Cm} {n j : Nat} {c : Cm} (hj : j < n) : overL (cml σ n) (0 + j * 5) (cmC c) = some (cml (updX σ j c) n) := by
 refine fm_over (by show 0 + j * 5 + 5 <= n * 5; omega) (fun q hq => ?_)
 show some (cmV (updX σ j c (q / 5)) (q % 5)) = if 0 + j * 5 <= q /\ q < 0 + j * 5 + 5 then (cmC c)[q - (0 + j * 5)]? else some (cmV (σ (q / 5)) (q % 5))
 by_cases e : q / 5 = j
 ·rw [if_pos (by omega), e, updX_eq, cmC_get (by omega)]; congr 2; omega
 ·rw [if_neg (by omega), updX_ne e]
theorem cml_app {σ : Nat -> Cm} {n : Nat} : cml σ n ++ cmC (σ n) = cml σ (n + 1) := by
 refine List.ext_getElem? (fun q => ?_)
 by_cases h : q < n * 5
 ·rw [List.getElem?_append_left (by rw [cml_len]; exact h)]
  unfold cml
  rw [fm_get h, fm_get (by omega)]
 ·rw [List.getElem?_append_right (by rw [cml_len]; omega), cml_len]
  by_cases h2 : q < (n + 1) * 5
  ·rw [cmC_get (by omega)]
   unfold cml
   rw [fm_get h2, show q / 5 = n by omega]; congr 2; omega
  ·rw [List.getElem?_eq_none (by show 5 <= _; omega)]
   unfold cml
   rw [fm_none (by omega)]
theorem cml_ext {σ τ : Nat -> Cm} {n : Nat} (h : ∀ j, j < n -> σ j = τ j) : cml σ n = cml τ n := fm_ext (fun q hq => by show cmV (σ (q / 5)) _ = cmV (τ (q / 5)) _; rw [h (q / 5) (by omega)])
def trV (g : Tp) (q : Nat) : Value := if q < 65 then .int .i64 (g.pr q) else if q < 390 then cmV (g.cm ((q - 65) / 5)) ((q - 65) % 5) else .bool (g.lf (q - 390))
def trC (g : Tp) : List Value := fm (trV g) 455
theorem trC_len {g : Tp} : (trC g).length = 455 := fm_len
theorem trV_pr {g : Tp} {q : Nat} (h : q < 65) : trV g q = .int .i64 (g.pr q) := if_pos h
theorem trV_cm {g : Tp} {q : Nat} (h : ¬ q < 65) (h2 : q < 390) : trV g q = cmV (g.cm ((q - 65) / 5)) ((q - 65) % 5) := by unfold trV; rw [if_neg h, if_pos h2]
theorem trV_lf {g : Tp} {q : Nat} (h : ¬ q < 390) : trV g q = .bool (g.lf (q - 390)) := by unfold trV; rw [if_neg (by omega), if_neg h]
theorem tr_pr {g : Tp} {j : Nat} (h : j < 65) : (trC g)[0 + 0 + j * 1]? = some (.int .i64 (g.pr j)) := by
 unfold trC
 rw [fm_get (by omega), trV_pr (by omega), show 0 + 0 + j * 1 = j by omega]
theorem tr_lf {g : Tp} {j : Nat} (h : j < 65) : (trC g)[0 + 390 + j * 1]? = some (.bool (g.lf j)) := by
 unfold trC
 rw [fm_get (by omega), trV_lf (by omega), show 0 + 390 + j * 1 - 390 = j by omega]
theorem tr_fr {g : Tp} {j : Nat} (h : j < 65) : (trC g)[0 + 65 + j * 5 + 2]? = some (.int .i64 (g.cm j).fr) := by
 unfold trC
 rw [fm_get (by omega), trV_cm (by omega) (by omega), show (0 + 65 + j * 5 + 2 - 65) / 5 = j by omega, show (0 + 65 + j * 5 + 2 - 65) % 5 = 2 by omega]; rfl
theorem tr_cm {g : Tp} {j : Nat} (h : j < 65) : segL (trC g) (0 + 65 + j * 5) 5 = some (cmC (g.cm j)) := by
 have := seg_of (l := trC g) (r := cmC (g.cm j)) (i := 0 + 65 + j * 5) (fun t ht => by
  have ht' : t < 5 := ht
  unfold trC
  rw [fm_get (by omega), cmC_get ht', trV_cm (by omega) (by omega), show (0 + 65 + j * 5 + t - 65) / 5 = j by omega, show (0 + 65 + j * 5 + t - 65) % 5 = t by omega])
 exact this
theorem tr_prS {g : Tp} {j : Nat} {z : Int} (h : j < 65) : (trC g).set (0 + 0 + j * 1) (.int .i64 z) = trC ⟨updX g.pr j z, g.cm, g.lf⟩ := fm_set (fun q hq => by
 by_cases e2 : q < 65
 ·rw [trV_pr e2, trV_pr e2]
  dsimp only
  by_cases e : q = 0 + 0 + j * 1
  ·rw [if_pos e, show q = j by omega, updX_eq]
  ·rw [if_neg e, updX_ne (show q ≠ j by omega)]
 ·rw [if_neg (show ¬ q = 0 + 0 + j * 1 by omega)]
  by_cases e3 : q < 390
  ·rw [trV_cm e2 e3, trV_cm e2 e3]
  ·rw [trV_lf e3, trV_lf e3])
theorem tr_lfS {g : Tp} {j : Nat} {z : Bool} (h : j < 65) : (trC g).set (0 + 390 + j * 1) (.bool z) = trC ⟨g.pr, g.cm, updX g.lf j z⟩ := fm_set (fun q hq => by
 by_cases e2 : q < 65
 ·rw [if_neg (show ¬ q = 0 + 390 + j * 1 by omega), trV_pr e2, trV_pr e2]
 ·by_cases e3 : q < 390
  ·rw [if_neg (show ¬ q = 0 + 390 + j * 1 by omega), trV_cm e2 e3, trV_cm e2 e3]
  ·rw [trV_lf e3, trV_lf e3]
   dsimp only
   by_cases e : q = 0 + 390 + j * 1
   ·rw [if_pos e, show q - 390 = j by omega, updX_eq]
   ·rw [if_neg e, updX_ne (show q - 390 ≠ j by omega)])
theorem cmV_fr {c : Cm} {z : Int} {t : Nat} (h : t ≠ 2) : cmV ⟨c.lim, c.bk, z, c.to, c.ms⟩ t = cmV c t := by
 match t, h with
 | 0, _ => rfl
 | 1, _ => rfl
 | 2, h => exact absurd rfl h
 | 3, _ => rfl
 | n + 4, _ => rfl
theorem tr_frS {g : Tp} {j : Nat} {z : Int} (h : j < 65) : (trC g).set (0 + 65 + j * 5 + 2) (.int .i64 z) = trC ⟨g.pr, updX g.cm j ⟨(g.cm j).lim, (g.cm j).bk, z, (g.cm j).to, (g.cm j).ms⟩, g.lf⟩ := fm_set (fun q hq => by
 by_cases e2 : q < 65
 ·rw [if_neg (show ¬ q = 0 + 65 + j * 5 + 2 by omega), trV_pr e2, trV_pr e2]
 ·by_cases e3 : q < 390
  ·rw [trV_cm e2 e3, trV_cm e2 e3]
   dsimp only
   by_cases e4 : (q - 65) / 5 = j
   ·rw [e4, updX_eq]
    by_cases e : q = 0 + 65 + j * 5 + 2
    ·rw [if_pos e, show (q - 65) % 5 = 2 by omega]; rfl
    ·rw [if_neg e, cmV_fr (by omega)]
   ·rw [updX_ne e4, if_neg (show ¬ q = 0 + 65 + j * 5 + 2 by omega)]
  ·rw [if_neg (show ¬ q = 0 + 65 + j * 5 + 2 by omega), trV_lf e3, trV_lf e3])
theorem tr_cmS {g : Tp} {j : Nat} {c : Cm} (h : j < 65) : overL (trC g) (0 + 65 + j * 5) (cmC c) = some (trC ⟨g.pr, updX g.cm j c, g.lf⟩) := by
 refine fm_over (by show 0 + 65 + j * 5 + 5 <= 455; omega) (fun q hq => ?_)
 have hc : (cmC c).length = 5 := rfl
 rw [hc]
 by_cases e2 : q < 65
 ·rw [if_neg (show ¬ (0 + 65 + j * 5 <= q /\ q < 0 + 65 + j * 5 + 5) by omega), trV_pr e2, trV_pr e2]
 ·by_cases e3 : q < 390
  ·rw [trV_cm e2 e3, trV_cm e2 e3]
   dsimp only
   by_cases e4 : (q - 65) / 5 = j
   ·rw [e4, updX_eq, if_pos (show 0 + 65 + j * 5 <= q /\ q < 0 + 65 + j * 5 + 5 by omega), cmC_get (show q - (0 + 65 + j * 5) < 5 by omega), show q - (0 + 65 + j * 5) = (q - 65) % 5 by omega]
   ·rw [updX_ne e4, if_neg (show ¬ (0 + 65 + j * 5 <= q /\ q < 0 + 65 + j * 5 + 5) by omega)]
  ·rw [if_neg (show ¬ (0 + 65 + j * 5 <= q /\ q < 0 + 65 + j * 5 + 5) by omega), trV_lf e3, trV_lf e3]
def tp0 : Tp := ⟨fun _ => 0, fun _ => ⟨0, false, 0, 0, 0⟩, fun _ => false⟩
def limC (ts : List (List Int)) : List Value := fm (fun q => .int .i64 ((ts.getD (q / 4) []).getD (q % 4) 0)) (ts.length * 4)
theorem limC_len {ts : List (List Int)} : (limC ts).length = ts.length * 4 := fm_len
theorem limC_seg {ts : List (List Int)} {k : Nat} {y0 y1 y2 y3 : Int} (h : ts[k]? = some [y0, y1, y2, y3]) : segL (limC ts) (0 + k * 4) 4 = some [.int .i64 y0, .int .i64 y1, .int .i64 y2, .int .i64 y3] := by
 obtain ⟨hk, _⟩ := List.getElem?_eq_some_iff.1 h
 have e : ts.getD k [] = [y0, y1, y2, y3] := by rw [List.getD_eq_getElem?_getD, h]; rfl
 have := seg_of (l := limC ts) (r := [.int .i64 y0, .int .i64 y1, .int .i64 y2, .int .i64 y3]) (i := 0 + k * 4) (fun t ht => by
  have ht' : t < 4 := ht
  unfold limC
  rw [fm_get (by omega), show (0 + k * 4 + t) / 4 = k by omega, show (0 + k * 4 + t) % 4 = t by omega, e]
  match t, ht' with
  | 0, _ => rfl
  | 1, _ => rfl
  | 2, _ => rfl
  | 3, _ => rfl)
 exact this
theorem limC_app {a b : List (List Int)} : limC (a ++ b) = limC a ++ limC b := by
 refine List.ext_getElem? (fun q => ?_)
 by_cases h : q < a.length * 4
 ·rw [List.getElem?_append_left (by rw [limC_len]; exact h)]
  unfold limC
  rw [fm_get (by rw [List.length_append]; omega), fm_get h, List.getD_eq_getElem?_getD (l := a ++ b), List.getElem?_append_left (by omega), <- List.getD_eq_getElem?_getD]
 ·rw [List.getElem?_append_right (by rw [limC_len]; omega), limC_len]
  unfold limC
  by_cases h2 : q < (a ++ b).length * 4
  ·rw [fm_get h2]
   rw [List.length_append] at h2
   rw [fm_get (by omega), List.getD_eq_getElem?_getD (l := a ++ b), List.getElem?_append_right (by omega), <- List.getD_eq_getElem?_getD, show (q - a.length * 4) / 4 = q / 4 - a.length by omega, show (q - a.length * 4) % 4 = q % 4 by omega]
  ·rw [fm_none (by omega)]
   rw [List.length_append] at h2
   rw [fm_none (by omega)]
theorem Ats.of {s : St} {b : Nat} : ∀ {l : List Value} {off : Nat}, (∀ j v, l[j]? = some v -> At s b (off + j) v) -> Ats s b off l
 | [], _, _ => trivial
 | v :: l, off, h => ⟨by simpa using h 0 v (by simp), Ats.of (fun j u hj => by have := h (j + 1) u (by simpa using hj); simpa [Nat.add_assoc, Nat.add_comm 1 j] using this)⟩
theorem rows_ats {s : St} {a : Option Addr} {b o : Nat} {ts : List (List Int)} (h : RowsE s 4 a ts) (ha : a = some ⟨b, o, none⟩) : Ats s b o (limC ts) := Ats.of (fun q v hq => by
 have hlt : q < ts.length * 4 := by
  have := (List.getElem?_eq_some_iff.1 hq).1
  rwa [limC_len] at this
 unfold limC at hq
 rw [fm_get hlt] at hq
 cases hq
 have hk : q / 4 < ts.length := by omega
 have h1 := h.cells b o ha (q / 4) _ (List.getElem?_eq_getElem hk)
 have hw := h.width _ (List.getElem_mem hk)
 have h2 := h1.get (j := q % 4) (v := .int .i64 ((ts.getD (q / 4) []).getD (q % 4) 0)) (by
  have hm : q % 4 < (ts[q / 4]).length := by omega
  rw [List.getElem?_map, List.getElem?_eq_getElem hm, List.getD_eq_getElem?_getD, List.getD_eq_getElem?_getD, List.getElem?_eq_getElem hk]
  simp only [Option.map_some, Option.getD_some]
  rw [List.getElem?_eq_getElem hm]; rfl)
 rw [show o + q / 4 * 4 + q % 4 = o + q by omega] at h2
 exact h2)
theorem rows_own {s : St} {b e : Nat} {op : Bool} {M : Nat} {ts : List (List Int)} (hg : Lg M ts) (hM : M <= 64) (hn : ts.length < 140737488355328) (hf : ∀ r ∈ ts, r.length = 4 /\ ∀ x ∈ r, -9223372036854775808 <= x /\ x < 9223372036854775808) (h : Obj s b e op (limC ts)) : RowsE s 4 (some ⟨b, 0, none⟩) ts := by
 refine ⟨fun c hc => by cases hc; rfl, fun _ => ⟨b, 0, rfl⟩, fun c o hc k r hr => ?_, fun r hr => (hf r hr).1, fun r hr => (hf r hr).2, hn⟩
 cases hc
 obtain ⟨hk, e1⟩ := List.getElem?_eq_some_iff.1 hr
 obtain ⟨_, _, _, _, _, y3, e2⟩ := hg k hk
 rw [hr] at e2
 cases e2
 have := limC_seg hr
 have h2 := (segL_eq this).2
 exact h.ats (fun j hj => h2 j hj)
theorem a_eqN {P : Program} {C : Nat -> (CF -> Bool) -> Bool} {X : FuncId -> List Value -> St -> (Value -> St -> Bool) -> Bool} {s0 : St} {n nt t : Nat} {env : List (Nat × Value)} {A : List Ob} {R : Value -> List Ob -> Prop} {x y : Ev.X} {a : Option Addr} {m c : Nat} (hx : xv env x = some (.slice a m c)) (hy : xv env y = some (.slice none 0 0)) (hn : evBin P .eql t 1 (.slice none 0 0) (.slice none 0 0) = some (.bool true)) (h0 : a = none -> m = 0 /\ c = 0) (h1 : a = none -> R (.bool true) A) (h2 : ¬ a = none -> R (.bool false) A) : OpA P C X s0 n nt (.bin .eql t 1 x y) env A R := by
 cases a with
 | none =>
  obtain ⟨rfl, rfl⟩ := h0 rfl
  exact a_bin hx hy hn (h1 rfl)
 | some a => exact a_bin hx hy rfl (h2 (by simp))
theorem a_ldb {P : Program} {C : Nat -> (CF -> Bool) -> Bool} {X : FuncId -> List Value -> St -> (Value -> St -> Bool) -> Bool} {s0 : St} {n nt : Nat} {env : List (Nat × Value)} {A : List Ob} {R : Value -> List Ob -> Prop} {a : Ev.X} {b off e : Nat} {op t : Bool} {l : List Value} (ha : xv env a = some (.pointer (some ⟨b, off, none⟩))) (ho : Own A b e op l) (hv : l[off]? = some (.bool t)) (h1 : t = true -> R (.bool true) A) (h2 : t = false -> R (.bool false) A) : OpA P C X s0 n nt (.ld a none) env A R := by
 cases t with
 | true => exact a_ld ha ho hv (h1 rfl)
 | false => exact a_ld ha ho hv (h2 rfl)
theorem endcA {s0 : St} {env : List (Nat × Value)} {A A' : List Ob} {a b o m e : Nat} {op : Bool} {l r : List Value} {Q : Value -> List Ob -> Prop} (ha : look env a = some (.pointer (some ⟨b, o, none⟩))) (h0 : m ≠ 0) (hs : A'.Sublist A) (ho : Own A b e op l) (hv : segL l o m = some r) (hq : Q (.agg ⟨r⟩) A') : EndA s0 [.cell a (some m)] Q .ret env [] A :=
 ⟨rfl, [.agg ⟨r⟩], A', ⟨b, o, r, [], rfl, ha, h0, ⟨e, op, l, ho, hv⟩, rfl⟩, hs, hq⟩
theorem src_ints {s0 : St} {A : List Ob} {a : Option Addr} {l : List Int} {c : Nat} (h : IntsE s0 a l) (hl : l ≠ []) : Src s0 A 1 l.length (ints l) (.slice a l.length c) := by
 obtain ⟨b, o, rfl⟩ := h.addr hl
 exact ⟨b, o, c, rfl, by rw [ints_len, Nat.mul_one], fun e => hl (by cases l with | nil => rfl | cons x l => cases e), .inr (h.cells b o rfl)⟩
theorem src_rows {s0 : St} {A : List Ob} {a : Option Addr} {ts : List (List Int)} {c : Nat} (h : RowsE s0 4 a ts) (hl : ts ≠ []) : Src s0 A 4 ts.length (limC ts) (.slice a ts.length c) := by
 obtain ⟨b, o, rfl⟩ := h.addr hl
 refine ⟨b, o, c, rfl, limC_len, fun e => hl (List.eq_nil_of_length_eq_zero ?_), .inr (rows_ats h rfl)⟩
 have := congrArg List.length e
 rw [limC_len] at this
 have h4 : ts.length * 4 = 0 := this
 omega
def TlOk (TT : Nat) (a : Option Addr) (ts : List (List Int)) (TL : List Ob) : Prop := (ts = [] /\ TL = [] /\ ∀ b, a = some b -> b.spot = none) ∨ ∃ b op, a = some ⟨b, 0, none⟩ /\ TL = [.row b TT op (limC ts)]
theorem TlOk.own {TT : Nat} {a : Option Addr} {ts : List (List Int)} {TL : List Ob} (h : TlOk TT a ts TL) (h0 : 0 < ts.length) : ∃ b op, a = some ⟨b, 0, none⟩ /\ ∀ R, Own (TL ++ R) b TT op (limC ts) := by
 rcases h with ⟨h1, _⟩ | ⟨b, op, h1, h2⟩
 ·rw [h1] at h0; exact absurd h0 (Nat.lt_irrefl 0)
 ·exact ⟨b, op, h1, fun R => by rw [h2]; exact .here⟩
theorem TlOk.rows {TT : Nat} {s0 s : St} {a : Option Addr} {M : Nat} {ts : List (List Int)} {TL A : List Ob} (h : TlOk TT a ts TL) (hA : TL.Sublist A) (hs : Hld s0 A s) (hg : Lg M ts) (hM : M <= 64) (hn : ts.length < 140737488355328) (hf : ∀ r ∈ ts, r.length = 4 /\ ∀ x ∈ r, -9223372036854775808 <= x /\ x < 9223372036854775808) : RowsE s 4 a ts := by
 rcases h with ⟨h1, _, h3⟩ | ⟨b, op, h1, h2⟩
 ·subst h1
  exact ⟨h3, fun e => absurd rfl e, fun b o hb i r hr => (by simp at hr), fun r hr => (by cases hr), fun r hr => (by cases hr), (by simp)⟩
 ·subst h1
  exact rows_own hg hM hn hf ((hs.sub hA).own (by rw [h2]; exact .here))
theorem tl_fit {s : St} {a : Option Addr} {ls : List (List Int)} {M : Nat} (h : RowsE s 4 a ls) (hM : M <= 64) : ∀ r ∈ ls ++ tollL M, r.length = 4 /\ ∀ x ∈ r, -9223372036854775808 <= x /\ x < 9223372036854775808 := fun r hr => by
 rcases List.mem_append.1 hr with q | q
 ·exact ⟨h.width r q, h.fit r q⟩
 ·have key : ∀ m, m <= 64 -> ∀ r ∈ tollL m, r.length = 4 /\ ∀ x ∈ r, -9223372036854775808 <= x /\ x < 9223372036854775808 := by
   intro m
   induction m with
   | zero => intro _ r hr; cases hr
   | succ m ih =>
    intro hm r hr
    rcases List.mem_append.1 hr with q | q
    ·exact ih (by omega) r q
    ·simp only [List.mem_cons, List.not_mem_nil, or_false] at q
     rcases q with rfl | rfl
     ·exact ⟨rfl, fun x hx => by simp only [List.mem_cons, List.not_mem_nil, or_false] at hx; omega⟩
     ·exact ⟨rfl, fun x hx => by simp only [List.mem_cons, List.not_mem_nil, or_false] at hx; omega⟩
  exact key M hM r q
theorem IntsE.drop {s : St} {b o : Nat} {l : List Int} (h : IntsE s (some ⟨b, o, none⟩) l) {k : Nat} (hk : k <= l.length) : IntsE s (some ⟨b, o + k * 1, none⟩) (l.drop k) := by
 refine ⟨fun c hc => by cases hc; rfl, fun _ => ⟨b, o + k * 1, rfl⟩, fun c o' hc => ?_, fun x hx => h.fit x (List.mem_of_mem_drop hx), (by have := h.len; rw [List.length_drop]; omega)⟩
 cases hc
 refine Ats.of (fun j v hj => ?_)
 have hj' : (ints l)[k + j]? = some v := by
  unfold ints at hj ⊢
  rw [List.map_drop, List.getElem?_drop] at hj
  exact hj
 have := (h.cells b o rfl).get hj'
 rwa [show o + (k + j) = o + k * 1 + j by omega] at this
section
variable {X : FuncId -> List Value -> St -> (Value -> St -> Bool) -> Bool}
end
end Ev
end Go.Proofs.Ytoeklhdklcpllaa
namespace Go.Proofs.Ytoeklhdklcpllaa
open Go Go.RowKit
namespace Ev
def szs (w : List Int) : Nat -> Int
 | 0 => 0
 | k + 1 => szs w k + max (w.getD k 0) (-(w.getD k 0))
theorem szs_pos {w : List Int} : ∀ {k : Nat}, 0 <= szs w k
 | 0 => Int.le_refl _
 | k + 1 => by have := szs_pos (w := w) (k := k); show 0 <= szs w k + _; omega
def WOk (w : List Int) (n : Nat) : Prop := ∀ k, k < n -> szs w (k + 1) <= 3600000000000
theorem wok_zero {w : List Int} : WOk w 0 := fun k hk => absurd hk (Nat.not_lt_zero k)
theorem wok_step {w : List Int} {k : Nat} (h : WOk w k) (h2 : szs w k + max (w.getD k 0) (-(w.getD k 0)) <= 3600000000000) : WOk w (k + 1) := fun u hu => by
 by_cases q : u = k
 ·subst q; exact h2
 ·exact h u (by omega)
theorem wok_le {w : List Int} {n k : Nat} (h : WOk w n) (hk : k <= n) : szs w k <= 3600000000000 := by
 cases k with
 | zero => show (0 : Int) <= _; decide
 | succ k => exact h k (by omega)
theorem wok_no {w : List Int} {n k : Nat} (hk : k < n) (h : ¬ szs w k + max (w.getD k 0) (-(w.getD k 0)) <= 3600000000000) : ¬ WOk w n := fun q => h (q k hk)
def mxV (l : List Int) : Nat -> Int
 | 0 => l.getD 0 0
 | k + 1 => max (mxV l k) (l.getD (k + 1) 0)
theorem mx_mem {l : List Int} : ∀ {k : Nat}, ∃ j, j <= k /\ mxV l k = l.getD j 0
 | 0 => ⟨0, Nat.le_refl _, rfl⟩
 | k + 1 => by
  obtain ⟨j, h1, h2⟩ := mx_mem (l := l) (k := k)
  by_cases q : mxV l k <= l.getD (k + 1) 0
  ·exact ⟨k + 1, Nat.le_refl _, by show max _ _ = _; omega⟩
  ·exact ⟨j, by omega, by show max _ _ = _; omega⟩
theorem two_tl {z : Int} : limC [[0, z, 1280001, 0], [z, 0, 1280001, 0]] = [.int .i64 0, .int .i64 z, .int .i64 1280001, .int .i64 0, .int .i64 z, .int .i64 0, .int .i64 1280001, .int .i64 0] := by kernel_rfl
theorem app_tl {ls : List (List Int)} {i : Nat} : limC (ls ++ tollL i) ++ [.int .i64 0, .int .i64 ((i : Int) + 1), .int .i64 1280001, .int .i64 0, .int .i64 ((i : Int) + 1), .int .i64 0, .int .i64 1280001, .int .i64 0] = limC (ls ++ tollL (i + 1)) := by
 rw [show tollL (i + 1) = tollL i ++ [[0, ((i + 1 : Nat) : Int), 1280001, 0], [((i + 1 : Nat) : Int), 0, 1280001, 0]] from rfl, <- List.append_assoc, limC_app (b := [_, _]), two_tl]
 rfl
theorem limC_0 : limC (tollL 0) = [] := List.eq_nil_of_length_eq_zero (by rw [limC_len]; rfl)
theorem limC_1 : limC (tollL 1) = [.int .i64 0, .int .i64 (0 + 1), .int .i64 1280001, .int .i64 0, .int .i64 (0 + 1), .int .i64 0, .int .i64 1280001, .int .i64 0] := by
 have := app_tl (ls := []) (i := 0)
 rw [show ([] : List (List Int)) ++ tollL 0 = tollL 0 from rfl, limC_0] at this
 exact this.symm
section
variable {X : FuncId -> List Value -> St -> (Value -> St -> Bool) -> Bool}
theorem weighs_s (n : Nat) (aw : Option Addr) (cw : Nat) (w : List Int) (s : St) (hs : Wf s) (hn : 281474976710656 <= n) (hW : IntsE s aw w) : Spec Try.prog (tabK tabw) X (n + 300) 71 [.slice aw w.length cw] s (fun v A => ((WOk w w.length /\ v = .bool true) ∨ (¬ WOk w w.length /\ v = .bool false)) /\ A = []) := by
 refine enter bw71_at rfl hs ?_
 unfold bw71
 have hlen := hW.len
 refine rS (kM rfl rfl (i_nil (rS (kM rfl rfl (i_nil (rQ (rS (kM rfl rfl (kO rfl (a_lenx rfl hW.spot (kM rfl rfl (i_nil (r_block (r_loop (fun j e A => ∃ (k : Nat), e = [(3, .int .i64 (3600000000000 - szs w k)), (6, .slice aw w.length cw), (7, .int .i64 (w.length : Int)), (8, .int .i64 (k : Int))] /\ A = [] /\ j = w.length - k /\ k <= w.length /\ WOk w k) 200 0 281474976710656 ?_ (j := _) (env2 := _) (A2 := _) ?_ ?_ ?_ ?_ ⟨0, rfl, rfl, rfl, Nat.zero_le _, wok_zero⟩))))))))))))))
 rotate_left
 ·omega
 ·omega
 ·exact (lc 3 rfl (lc 6 rfl (lc 7 rfl (lc 8 rfl Less.nil))))
 ·exact .slnil
 rintro n hn j _ _ ⟨k, rfl, rfl, rfl, hk, hw⟩
 have hz1 := szs_pos (w := w) (k := k)
 have hz2 := wok_le hw (Nat.le_refl k)
 refine rS (kO rfl (a_lss rfl rfl (fun h1 => ?_) (fun h1 => ?_)))
 ·have hin := hW.in k
  refine i_nil (rQ (r_cond_t rfl (r_skip (then_n (rQ (r_block (rS (kO rfl (a_iaI (j := k) hW rfl rfl (by omega) (by first | rfl | omega) (by omega) (fun _ _ a2 => (kO rfl (a_ldr rfl (hW.at a2 (by omega)) (kM rfl rfl (i_nil (rQ (rS (kM rfl rfl (kM rfl rfl (kO rfl (a_neg rfl (by omega) (kM rfl rfl (kO rfl (a_callB rfl rfl (fun s1 h1 => inside_s _ _ _ _ s1 h1.wf) (fun h3 => ?_) (fun h3 => ?_))))))))))))))))))))))))
  ·refine kO rfl (a_not rfl (i_nil (r_cond_f rfl (r_skip (then_n (rI (kM rfl rfl (kM rfl rfl (kM rfl rfl (kO rfl (a_neg rfl (by omega) (kO rfl (a_max rfl (kO rfl (a_sub rfl rfl (by omega) (kM rfl rfl (i_nil (block_n (then_n (rI (kO rfl (a_add rfl rfl (by omega) (kM rfl rfl (i_nil (then_n ?_)))))))))))))))))))))))))
   exact ⟨rfl, _, _, _, (show w.length - (k + 1) < w.length - k by omega), (lc 3 rfl (lc 6 rfl (lc 7 rfl (lc 8 rfl Less.nil)))), .slnil, ⟨k + 1, (by rw [show (3600000000000 : Int) - szs w (k + 1) = 3600000000000 - szs w k - max (w.getD k 0) (-(w.getD k 0)) from by show _ - (szs w k + _) = _; omega]; rfl), rfl, rfl, by omega, (wok_step hw (by omega))⟩⟩
  ·refine kO rfl (a_not rfl (i_nil (r_cond_t rfl (rS (kM rfl rfl (i_nil (r_ret (then_r (block_r (then_r (then_r (block_r (then_r ?_)))))))))))))
   exact end1 rfl ⟨.inr ⟨wok_no (k := k) (by omega) (by omega), rfl⟩, rfl⟩
 ·refine i_nil (rQ (r_cond_f rfl (r_exit (then_e (then_e (block_hit (then_n (rS (kM rfl rfl (i_nil (r_ret ?_)))))))))))
  have hkw : k = w.length := by omega
  subst hkw
  exact end1 rfl ⟨.inl ⟨hw, rfl⟩, rfl⟩
theorem checkWeights_s (n : Nat) (m : Int) (al : Option Addr) (cl : Nat) (ls : List (List Int)) (aw : Option Addr) (cw : Nat) (w : List Int) (s : St) (hs : Wf s) (hn : 844424930131968 <= n) (hL : RowsE s 4 al ls) (hW : IntsE s aw w) : Spec Try.prog (tabK tabw) X (n + 700) 50 [.agg ⟨[.int .i64 m, .slice al ls.length cl]⟩, .slice aw w.length cw] s (fun v A => (¬ sysE m ls = 0 /\ v = .int .i64 (sysE m ls) /\ A = []) ∨ (sysE m ls = 0 /\ ¬ ((w.length : Int) = m + 1 /\ WOk w w.length) /\ v = .int .i64 27 /\ A = []) ∨ (sysE m ls = 0 /\ ((w.length : Int) = m + 1 /\ WOk w w.length) /\ v = .int .i64 0 /\ A = [])) := by
 refine enter bw50_at rfl hs ?_
 unfold bw50
 have hlen := hL.len
 have hlenW := hW.len
 refine rS (kO rfl (a_box rfl rfl rfl (fun b1 => (kM rfl rfl (i_nil (rQ (rS (kO rfl (a_lda rfl (by decide) .here rfl (kO rfl (a_callV rfl rfl (fun s1 h1 => Check_s _ _ _ _ _ s1 h1.wf (by omega) (hL.ext hs h1.2.1)) (kM rfl rfl (i_nil (rS (kM rfl rfl (kO rfl (a_neq rfl rfl (fun h2 => ?_) (fun h2 => ?_))))))))))))))))))
 ·refine i_nil (r_cond_t rfl (rS (kM rfl rfl (kM rfl rfl (i_nil (r_ret (then_r ?_)))))))
  exact end1 rfl (.inl ⟨by omega, rfl, rfl⟩)
 ·have hsys : sysE m ls = 0 := by omega
  obtain ⟨hm0, hM, h400, hlm⟩ := sysE_ok hsys
  refine i_nil (r_cond_f rfl (r_skip (then_n (rQ (rS (kM rfl rfl (kO rfl (a_lenx rfl hW.spot (kO rfl (a_fa rfl (kO rfl (a_ld rfl .here rfl (kO rfl (a_add rfl rfl (by omega) (kO rfl (a_neq rfl rfl (fun h3 => ?_) (fun h3 => ?_)))))))))))))))))
  ·refine kM rfl rfl (i_no rfl rfl (i_no rfl rfl (i_no rfl rfl (kO rfl (a_pick_t rfl rfl rfl (i_nil (r_cond_t rfl (rS (kM rfl rfl (i_nil (r_ret (then_r ?_))))))))))))
   exact end1 rfl (.inr (.inl ⟨hsys, (fun q => by first | omega | exact hwo2 q.2), rfl, rfl⟩))
  ·refine kM rfl rfl (kG rfl rfl (a_mov rfl (kG rfl rfl (a_call rfl rfl (fun s1 h1 => weighs_s _ _ _ _ s1 h1.wf (by omega) (hW.ext hs h1.2.1)) (fun v1 A1 q1 => ?_)))))
   obtain ⟨q1, rfl⟩ := q1
   rcases q1 with ⟨hwo, rfl⟩ | ⟨hwo, rfl⟩
   ·have hwo1 := hwo
    refine kG rfl rfl (a_not rfl (kO rfl (a_pick_f rfl rfl rfl (i_nil (r_cond_f rfl (r_skip (then_n (rS (kM rfl rfl (i_nil (r_ret ?_)))))))))))
    exact end1 rfl (.inr (.inr ⟨hsys, ⟨by omega, hwo1⟩, rfl, rfl⟩))
   ·have hwo2 := hwo
    refine kG rfl rfl (a_not rfl (kO rfl (a_pick_f rfl rfl rfl (i_nil (r_cond_t rfl (rS (kM rfl rfl (i_nil (r_ret (then_r ?_))))))))))
    exact end1 rfl (.inr (.inl ⟨hsys, (fun q => by first | omega | exact hwo2 q.2), rfl, rfl⟩))
theorem CloneI_s (n : Nat) (aw : Option Addr) (cw : Nat) (w : List Int) (s : St) (hs : Wf s) (hW : IntsE s aw w) (hne : w ≠ []) (h64 : w.length <= 100000) : Spec Try.prog (tabK tabw) X (n + 100) 53 [.slice aw w.length cw] s (fun v A => ∃ b, v = .slice (some ⟨b, 0, none⟩) w.length OPEN /\ A = [.row b 3 true (ints w)]) := by
 refine enter bw53_at rfl hs ?_
 unfold bw53
 have hlen := hW.len
 obtain ⟨qw, ow, hqw⟩ := hW.addr hne
 refine rS (kM rfl rfl (i_nil (rQ (rS (kM rfl rfl (kO rfl (a_eqN rfl rfl (by kernel_rfl) (fun q => by rw [q] at hqw; cases hqw) (fun h1 => ?_) (fun h1 => ?_))))))))
 ·rw [h1] at hqw; cases hqw
 ·refine i_nil (r_cond_f rfl (r_skip (then_n (rS (kO rfl (a_lit rfl rfl rfl (fun b2 => (kM rfl rfl (kO rfl (a_appz rfl (fun b hb => by cases hb; rfl) rfl (src_ints hW hne) (fun e => hne (List.eq_nil_of_length_eq_zero e)) (by omega) (by omega) (fun b3 => (kM rfl rfl (i_nil (r_ret ?_))))))))))))))
  exact end1A rfl (.q (.cons _ .slnil)) ⟨_, rfl, rfl⟩
theorem CloneL_n (n : Nat) (al : Option Addr) (cl : Nat) (ls : List (List Int)) (s : St) (hs : Wf s) (hL : RowsE s 4 al ls) (hne : ls ≠ []) (h64 : ls.length <= 100000) : Spec Try.prog (tabK tabw) X (n + 100) 29 [.slice al ls.length cl] s (fun v A => ∃ b, v = .slice (some ⟨b, 0, none⟩) ls.length OPEN /\ A = [.row b 38 true (limC ls)]) := by
 refine enter bw29_at rfl hs ?_
 unfold bw29
 have hlen := hL.len
 obtain ⟨qw, ow, hqw⟩ := hL.addr hne
 refine rS (kM rfl rfl (i_nil (rQ (rS (kM rfl rfl (kO rfl (a_eqN rfl rfl (by kernel_rfl) (fun q => by rw [q] at hqw; cases hqw) (fun h1 => ?_) (fun h1 => ?_))))))))
 ·rw [h1] at hqw; cases hqw
 ·refine i_nil (r_cond_f rfl (r_skip (then_n (rS (kO rfl (a_lit rfl rfl rfl (fun b2 => (kM rfl rfl (kO rfl (a_appz rfl (fun b hb => by cases hb; rfl) rfl (src_rows hL hne) (fun e => hne (List.eq_nil_of_length_eq_zero e)) (by omega) (by omega) (fun b3 => (kM rfl rfl (i_nil (r_ret ?_))))))))))))))
  exact end1A rfl (.q (.cons _ .slnil)) ⟨_, rfl, rfl⟩
theorem CloneL_e (n : Nat) (al : Option Addr) (cl : Nat) (s : St) (hs : Wf s) (hsp : ∀ b, al = some b -> b.spot = none) (hcl : al = none -> cl = 0) : Spec Try.prog (tabK tabw) X (n + 100) 29 [.slice al 0 cl] s (fun v A => (v = .slice none 0 0 /\ A = []) ∨ ∃ b, v = .slice (some ⟨b, 0, none⟩) 0 0 /\ A = [.row b 38 false []]) := by
 refine enter bw29_at rfl hs ?_
 unfold bw29
 refine rS (kM rfl rfl (i_nil (rQ (rS (kM rfl rfl (kO rfl (a_eqN rfl rfl (by kernel_rfl) (fun q => ⟨rfl, hcl q⟩) (fun h1 => ?_) (fun h1 => ?_))))))))
 ·refine i_nil (r_cond_t rfl (rS (kM rfl rfl (i_nil (r_ret (then_r ?_))))))
  exact end1 rfl (.inl ⟨rfl, rfl⟩)
 ·refine i_nil (r_cond_f rfl (r_skip (then_n (rS (kO rfl (a_lit rfl rfl rfl (fun b2 => (kM rfl rfl (kO rfl (a_appzz rfl (fun b hb => by cases hb; rfl) rfl hsp (kM rfl rfl (i_nil (r_ret ?_)))))))))))))
  exact end1A rfl (.q .slnil) (.inr ⟨_, rfl, rfl⟩)
theorem tolled_n (n : Nat) (M : Nat) (al : Option Addr) (cl : Nat) (ls : List (List Int)) (s : St) (hs : Wf s) (hn : 562949953421312 <= n) (hL : RowsE s 4 al ls) (hne : ls ≠ []) (hM : M <= 64) (h400 : ls.length <= 400) : Spec Try.prog (tabK tabw) X (n + 500) 52 [.agg ⟨[.int .i64 (M : Int), .slice al ls.length cl]⟩] s (fun v A => ∃ a2 c2 TL, v = .agg ⟨[.int .i64 (M : Int), .slice a2 (ls.length + 2 * M) c2]⟩ /\ A = TL /\ TlOk 38 a2 (ls ++ tollL M) TL) := by
 refine enter bw52_at rfl hs ?_
 unfold bw52
 have hlen := hL.len
 refine rS (kO rfl (a_box rfl rfl rfl (fun b1 => (kO rfl (a_new rfl rfl (fun b2 => (i_nil (rS (kO rfl (a_fa rfl (kO rfl (a_ld rfl (.next .here) rfl (kO rfl (a_call rfl rfl (fun s1 h1 => CloneL_n _ al cl ls s1 h1.wf (hL.ext hs h1.2.1) hne (by omega)) (fun v1 A1 q1 => ?_)))))))))))))))
 obtain ⟨bk3, rfl, rfl⟩ := q1
 refine kM rfl rfl (i_nil (rQ (rS (kO rfl (a_fa rfl (kO rfl (a_ld rfl (.next (.next .here)) rfl (kM rfl rfl (i_nil (r_block ?_))))))))))
 rw [show limC ls = limC (ls ++ tollL 0) from by rw [show tollL 0 = [] from rfl, List.append_nil]]
 refine r_loop (fun j e A => ∃ (i b cp : Nat) (op : Bool), e = [(1, .pointer (some ⟨b1, 0, none⟩)), (2, .pointer (some ⟨b2, 0, none⟩)), (3, .slice (some ⟨b, 0, none⟩) (ls.length + 2 * i) cp), (9, .int .i64 (M : Int)), (10, .int .i64 (i : Int))] /\ A = (.row b 38 op (limC (ls ++ tollL i)) :: (.row b2 29 false ([.int .i64 0, .slice none 0 0]) :: (.row b1 29 false ([.int .i64 (M : Int), .slice al ls.length cl]) :: []))) /\ j = M - i /\ i <= M /\ Tight op (ls.length + 2 * i) cp) 200 0 281474976710656 ?_ (j := _) (env2 := _) (A2 := _) ?_ ?_ ?_ ?_ ⟨0, bk3, _, _, rfl, rfl, rfl, (by omega), (by first | exact .inl ⟨rfl, rfl⟩ | exact .inr ⟨rfl, rfl, by decide⟩)⟩
 rotate_left
 ·omega
 ·omega
 ·exact (lc 1 rfl (lc 2 rfl (lc 3 rfl (lc 9 rfl (lc 10 rfl Less.nil)))))
 ·exact (.q (.q (.q .slnil)))
 rintro n hn j _ _ ⟨i, b, cp, op, rfl, rfl, rfl, hi, hT⟩
 refine rS (kO rfl (a_lss rfl rfl (fun h4 => ?_) (fun h4 => ?_)))
 ·refine i_nil (rQ (r_cond_t rfl (r_skip (then_n (rQ (r_block (rS (kM rfl rfl (kM rfl rfl (i_nil (rI (kM rfl rfl (kM rfl rfl (kO rfl (a_add rfl rfl (by omega) (kO rfl (a_build rfl rfl (kM rfl rfl (kO rfl (a_add rfl rfl (by omega) (kO rfl (a_build rfl rfl (kO rfl (a_lit rfl rfl rfl (fun b5 => (kO rfl (a_app rfl rfl (Src.own .here rfl (by simp)) (.next .here) (by rw [limC_len, List.length_append, toll_len]) hT (by decide) (by omega) (by omega) (fun b6 => (kM rfl rfl (i_nil (block_n ?_)))))))))))))))))))))))))))))))
  refine then_n (rI (kO rfl (a_add rfl rfl (by omega) (kM rfl rfl (i_nil (then_n ?_))))))
  exact ⟨rfl, _, _, _, (show M - (i + 1) < M - i by omega), (lc 1 rfl (lc 2 rfl (lc 3 rfl (lc 9 rfl (lc 10 rfl Less.nil))))), (.q (.cons _ (.q (.q .slnil)))), ⟨i + 1, b6, _, _, rfl, (by rw [<- app_tl]; rfl), rfl, by omega, (.inl ⟨rfl, rfl⟩)⟩⟩
 ·refine i_nil (rQ (r_cond_f rfl (r_exit (then_e (then_e (block_hit (then_n (rS (kO rfl (a_fa rfl (kO rfl (a_ld rfl (.next (.next .here)) rfl (kM rfl rfl (kO rfl (a_build rfl rfl (kZ rfl (a_sta rfl rfl (.next .here) rfl rfl rfl rfl (i_nil (r_ret ?_)))))))))))))))))))
  have hiM : i = M := by omega
  subst hiM
  exact endcA rfl (by decide) (.q (.cons _ (.cons _ .slnil))) (.next .here) rfl ⟨_, _, _, rfl, rfl, .inr ⟨_, _, rfl, rfl⟩⟩
theorem tolled_e (n : Nat) (M : Nat) (al : Option Addr) (cl : Nat) (s : St) (hs : Wf s) (hn : 562949953421312 <= n) (hsp : ∀ b, al = some b -> b.spot = none) (hcl : al = none -> cl = 0) (hM : M <= 64) : Spec Try.prog (tabK tabw) X (n + 500) 52 [.agg ⟨[.int .i64 (M : Int), .slice al 0 cl]⟩] s (fun v A => ∃ a2 c2 TL, v = .agg ⟨[.int .i64 (M : Int), .slice a2 (2 * M) c2]⟩ /\ A = TL /\ TlOk 38 a2 (tollL M) TL) := by
 refine enter bw52_at rfl hs ?_
 unfold bw52
 refine rS (kO rfl (a_box rfl rfl rfl (fun b1 => (kO rfl (a_new rfl rfl (fun b2 => (i_nil (rS (kO rfl (a_fa rfl (kO rfl (a_ld rfl (.next .here) rfl (kO rfl (a_call rfl rfl (fun s1 h1 => CloneL_e _ al cl s1 h1.wf hsp hcl) (fun v1 A1 q1 => ?_)))))))))))))))
 rcases q1 with ⟨rfl, rfl⟩ | q1
 ·refine kM rfl rfl (i_nil (rQ (rS (kO rfl (a_fa rfl (kO rfl (a_ld rfl (.next .here) rfl (kM rfl rfl (i_nil (r_block (r_unroll (rS (kO rfl (a_lss rfl rfl (fun h4 => ?_) (fun h4 => ?_)))))))))))))))
  ·refine i_nil (rQ (r_cond_t rfl (r_skip (then_n (rQ (r_block (rS (kM rfl rfl (kM rfl rfl (i_nil (rI (kM rfl rfl (kM rfl rfl (kO rfl (a_add rfl rfl (by decide) (kO rfl (a_build rfl rfl (kM rfl rfl (kO rfl (a_add rfl rfl (by decide) (kO rfl (a_build rfl rfl (kO rfl (a_lit rfl rfl rfl (fun b5 => (kO rfl (a_appn rfl rfl (Src.own .here rfl (by simp)) (by decide) (by omega) (by omega) (fun b6 => (kM rfl rfl (i_nil (block_n ?_)))))))))))))))))))))))))))))))
   refine then_n (rI (kO rfl (a_add rfl rfl (by decide) (kM rfl rfl (i_nil (then_n (r_loop (fun j e A => ∃ (i b cp : Nat) (op : Bool), e = [(1, .pointer (some ⟨b1, 0, none⟩)), (2, .pointer (some ⟨b2, 0, none⟩)), (3, .slice (some ⟨b, 0, none⟩) (2 * i) cp), (9, .int .i64 (M : Int)), (10, .int .i64 (i : Int))] /\ A = (.row b 38 op (limC (tollL i)) :: (.row b2 29 false ([.int .i64 0, .slice none 0 0]) :: (.row b1 29 false ([.int .i64 (M : Int), .slice al 0 cl]) :: []))) /\ j = M - i /\ i <= M /\ Tight op (2 * i) cp) 200 0 281474976710656 ?_ (j := _) (env2 := _) (A2 := _) ?_ ?_ ?_ ?_ ⟨1, b6, OPEN, true, rfl, rfl, rfl, (by omega), (by first | exact .inl ⟨rfl, rfl⟩ | exact .inr ⟨rfl, rfl, by decide⟩)⟩)))))))
   rotate_left
   ·omega
   ·omega
   ·exact (lc 1 rfl (lc 2 rfl (lc 3 rfl (lc 9 rfl (lc 10 rfl Less.nil)))))
   ·rw [limC_1]
    exact (.q (.cons _ (.q (.q .slnil))))
   rintro n hn j _ _ ⟨i, b, cp, op, rfl, rfl, rfl, hi, hT⟩
   refine rS (kO rfl (a_lss rfl rfl (fun h7 => ?_) (fun h7 => ?_)))
   ·refine i_nil (rQ (r_cond_t rfl (r_skip (then_n (rQ (r_block (rS (kM rfl rfl (kM rfl rfl (i_nil (rI (kM rfl rfl (kM rfl rfl (kO rfl (a_add rfl rfl (by omega) (kO rfl (a_build rfl rfl (kM rfl rfl (kO rfl (a_add rfl rfl (by omega) (kO rfl (a_build rfl rfl (kO rfl (a_lit rfl rfl rfl (fun b8 => (kO rfl (a_app rfl rfl (Src.own .here rfl (by simp)) (.next .here) (by rw [limC_len, toll_len]) hT (by decide) (by omega) (by omega) (fun b9 => (kM rfl rfl (i_nil (block_n ?_)))))))))))))))))))))))))))))))
    refine then_n (rI (kO rfl (a_add rfl rfl (by omega) (kM rfl rfl (i_nil (then_n ?_))))))
    exact ⟨rfl, _, _, _, (show M - (i + 1) < M - i by omega), (lc 1 rfl (lc 2 rfl (lc 3 rfl (lc 9 rfl (lc 10 rfl Less.nil))))), (.q (.cons _ (.q (.q .slnil)))), ⟨i + 1, b9, _, _, rfl, (by rw [show limC (tollL (i + 1)) = _ from (app_tl (ls := [])).symm]; rfl), rfl, by omega, (.inl ⟨rfl, rfl⟩)⟩⟩
   ·refine i_nil (rQ (r_cond_f rfl (r_exit (then_e (then_e (block_hit (then_n (rS (kO rfl (a_fa rfl (kO rfl (a_ld rfl (.next (.next .here)) rfl (kM rfl rfl (kO rfl (a_build rfl rfl (kZ rfl (a_sta rfl rfl (.next .here) rfl rfl rfl rfl (i_nil (r_ret ?_)))))))))))))))))))
    have hiM : i = M := by omega
    subst hiM
    exact endcA rfl (by decide) (.q (.cons _ (.cons _ .slnil))) (.next .here) rfl ⟨_, _, _, rfl, rfl, .inr ⟨_, _, rfl, rfl⟩⟩
  ·refine i_nil (rQ (r_cond_f rfl (r_exit (then_e (then_e (block_hit (then_n (rS (kO rfl (a_fa rfl (kO rfl (a_ld rfl (.next .here) rfl (kM rfl rfl (kO rfl (a_build rfl rfl (kZ rfl (a_sta rfl rfl .here rfl rfl rfl rfl (i_nil (r_ret ?_)))))))))))))))))))
   have hM0 : M = 0 := by omega
   subst hM0
   exact endcA rfl (by decide) (.cons _ (.cons _ .slnil)) .here rfl ⟨_, _, _, rfl, rfl, .inl ⟨rfl, rfl, fun b hb => by cases hb⟩⟩
 ·obtain ⟨bk3, rfl, rfl⟩ := q1
  refine kM rfl rfl (i_nil (rQ (rS (kO rfl (a_fa rfl (kO rfl (a_ld rfl (.next (.next .here)) rfl (kM rfl rfl (i_nil (r_block (r_loop (fun j e A => ∃ (i b cp : Nat) (op : Bool), e = [(1, .pointer (some ⟨b1, 0, none⟩)), (2, .pointer (some ⟨b2, 0, none⟩)), (3, .slice (some ⟨b, 0, none⟩) (2 * i) cp), (9, .int .i64 (M : Int)), (10, .int .i64 (i : Int))] /\ A = (.row b 38 op (limC (tollL i)) :: (.row b2 29 false ([.int .i64 0, .slice none 0 0]) :: (.row b1 29 false ([.int .i64 (M : Int), .slice al 0 cl]) :: []))) /\ j = M - i /\ i <= M /\ Tight op (2 * i) cp) 200 0 281474976710656 ?_ (j := _) (env2 := _) (A2 := _) ?_ ?_ ?_ ?_ ⟨0, bk3, 0, false, rfl, rfl, rfl, (by omega), (by first | exact .inl ⟨rfl, rfl⟩ | exact .inr ⟨rfl, rfl, by decide⟩)⟩)))))))))))
  rotate_left
  ·omega
  ·omega
  ·exact (lc 1 rfl (lc 2 rfl (lc 3 rfl (lc 9 rfl (lc 10 rfl Less.nil)))))
  ·rw [limC_0]
   exact (.q (.q (.q .slnil)))
  rintro n hn j _ _ ⟨i, b, cp, op, rfl, rfl, rfl, hi, hT⟩
  refine rS (kO rfl (a_lss rfl rfl (fun h10 => ?_) (fun h10 => ?_)))
  ·refine i_nil (rQ (r_cond_t rfl (r_skip (then_n (rQ (r_block (rS (kM rfl rfl (kM rfl rfl (i_nil (rI (kM rfl rfl (kM rfl rfl (kO rfl (a_add rfl rfl (by omega) (kO rfl (a_build rfl rfl (kM rfl rfl (kO rfl (a_add rfl rfl (by omega) (kO rfl (a_build rfl rfl (kO rfl (a_lit rfl rfl rfl (fun b11 => (kO rfl (a_app rfl rfl (Src.own .here rfl (by simp)) (.next .here) (by rw [limC_len, toll_len]) hT (by decide) (by omega) (by omega) (fun b12 => (kM rfl rfl (i_nil (block_n ?_)))))))))))))))))))))))))))))))
   refine then_n (rI (kO rfl (a_add rfl rfl (by omega) (kM rfl rfl (i_nil (then_n ?_))))))
   exact ⟨rfl, _, _, _, (show M - (i + 1) < M - i by omega), (lc 1 rfl (lc 2 rfl (lc 3 rfl (lc 9 rfl (lc 10 rfl Less.nil))))), (.q (.cons _ (.q (.q .slnil)))), ⟨i + 1, b12, _, _, rfl, (by rw [show limC (tollL (i + 1)) = _ from (app_tl (ls := [])).symm]; rfl), rfl, by omega, (.inl ⟨rfl, rfl⟩)⟩⟩
  ·refine i_nil (rQ (r_cond_f rfl (r_exit (then_e (then_e (block_hit (then_n (rS (kO rfl (a_fa rfl (kO rfl (a_ld rfl (.next (.next .here)) rfl (kM rfl rfl (kO rfl (a_build rfl rfl (kZ rfl (a_sta rfl rfl (.next .here) rfl rfl rfl rfl (i_nil (r_ret ?_)))))))))))))))))))
   have hiM : i = M := by omega
   subst hiM
   exact endcA rfl (by decide) (.q (.cons _ (.cons _ .slnil))) (.next .here) rfl ⟨_, _, _, rfl, rfl, .inr ⟨_, _, rfl, rfl⟩⟩
theorem newFlow_g (n : Nat) (M : Nat) (al : Option Addr) (cl nl9 : Nat) (ls : List (List Int)) (s : St) (hs : Wf s) (hn : 844424930131968 <= n) (hL : RowsE s 4 al ls) (hM : M <= 64) (h6 : ls.length <= 600) (hg : Lg M ls) (hnl9 : nl9 = ls.length) : Spec Try.prog (tabK tabw) X (n + 900) 38 [.agg ⟨[.int .i64 (M : Int), .slice al nl9 cl]⟩] s (fun v A => ∃ b bt bn O B, v = .pointer (some ⟨b, 0, none⟩) /\ A = nobj B (nl ls ls.length) O ++ [.row b 93 false [.int .i64 (M : Int), .slice al ls.length cl, .slice (some ⟨bt, 0, none⟩) ls.length ls.length, .slice (some ⟨bn, 0, none⟩) (M + 1) (M + 1)], .row bn 25 false (nsl B (nl ls ls.length) (M + 1)), .row bt 3 false (ints (List.replicate ls.length 0))] /\ NO O (M + 1) (nl ls ls.length)) := by
 refine enter bw38_at rfl hs ?_
 unfold bw38
 subst hnl9
 have hlen := hL.len
 refine rS (kO rfl (a_box rfl rfl rfl (fun b1 => (kM rfl rfl (i_nil (rS (kO rfl (a_lda rfl (by decide) .here rfl (kO rfl (a_fa rfl (kO rfl (a_ld rfl .here rfl (kO rfl (a_lenx rfl hL.spot (kO rfl (a_mksI (m := ls.length) (c := ls.length) rfl rfl (by omega) (by omega) (by omega) (fun b2 => (kO rfl (a_fa rfl (kO rfl (a_ld rfl (.next .here) rfl (kO rfl (a_add rfl rfl (by omega) (kO rfl (a_mks1 (m := M + 1) (c := M + 1) rfl rfl (by omega) (by omega) (by omega) (fun b3 => (kO rfl (a_build rfl rfl (kO rfl (a_box rfl rfl rfl (fun b4 => (kM rfl rfl (i_nil (rQ (rS (kO rfl (a_fa rfl (kO rfl (a_ld rfl (.next (.next (.next .here))) rfl (kO rfl (a_lenx rfl hL.spot (kM rfl rfl ?_))))))))))))))))))))))))))))))))))))))))))
 refine i_nil (r_block ?_)
 rw [nsl_nil (ls := ls) (B := fun _ => 0)]
 refine r_loop (fun j e A => ∃ (k : Nat) (O : List Nat) (B : Nat -> Nat), e = [(1, .pointer (some ⟨b1, 0, none⟩)), (3, .pointer (some ⟨b4, 0, none⟩)), (18, .slice al ls.length cl), (19, .int .i64 (ls.length : Int)), (20, .int .i64 (k : Int))] /\ A = (nobj B (nl ls k) O ++ (.row b4 93 false ([.int .i64 (M : Int), .slice al ls.length cl, .slice (some ⟨b2, 0, none⟩) ls.length ls.length, .slice (some ⟨b3, 0, none⟩) (M + 1) (M + 1)]) :: (.row b3 25 false (nsl B (nl ls k) (M + 1)) :: (.row b2 3 false (ints (List.replicate ls.length 0)) :: (.row b1 29 false ([.int .i64 (M : Int), .slice al ls.length cl]) :: []))))) /\ j = ls.length - k /\ k <= ls.length /\ NO O (M + 1) (nl ls k) /\ ∀ v, (nl ls k v).length <= k) 600 0 281474976710656 ?_ (j := _) (env2 := _) (A2 := _) ?_ ?_ ?_ ?_ ⟨0, [], fun _ => 0, rfl, rfl, rfl, Nat.zero_le _, NO.zero, (fun _ => Nat.le_refl _)⟩
 rotate_left
 ·omega
 ·omega
 ·exact (lc 1 rfl (lc 3 rfl (lc 18 rfl (lc 19 rfl (lc 20 rfl Less.nil)))))
 ·exact (.q (.q (.q (.q .slnil))))
 rintro n hn j _ _ ⟨k, O, B, rfl, rfl, rfl, hk, hO, hnl⟩
 refine rS (kO rfl (a_lss rfl rfl (fun h5 => ?_) (fun h5 => ?_)))
 ·obtain ⟨q4, o4, y0, y1, y2, y3, ahL, hx, hat, i0, i1, i2, i3⟩ := hL.row4 (k := k) (by omega)
  have hat2 := hat
  obtain ⟨d0, d1, d2, d3, _⟩ := hat2
  have := i0.lo; have := i0.hi
  have := i1.lo; have := i1.hi
  have := i2.lo; have := i2.hi
  have := i3.lo; have := i3.hi
  obtain ⟨g1, g2, g3, g4, g5, w3, ge⟩ := hg k (by omega)
  rw [hx] at ge
  simp only [Option.some.injEq, List.cons.injEq, and_true] at ge
  obtain ⟨e0, e1, e2, e3⟩ := ge
  obtain ⟨u0, rfl⟩ : ∃ q : Nat, y0 = (q : Int) := ⟨_, e0⟩
  obtain ⟨u1, rfl⟩ : ∃ q : Nat, y1 = (q : Int) := ⟨_, e1⟩
  have hl0 := hnl u0
  have hl1 := hnl u1
  refine i_nil (rQ (r_cond_t rfl (r_skip (then_n (rQ (r_block (rS (kM rfl rfl (kO rfl (a_iaA (j := k) ahL rfl rfl (by first | rfl | omega) (by first | decide | omega) (kO rfl (a_ldar rfl (by decide) (by assumption) rfl (kO rfl (a_new rfl rfl (fun b6 => (kM rfl rfl (kZ rfl (a_sta rfl rfl .here rfl rfl rfl rfl (i_nil (rS (kM rfl rfl (kO rfl (a_nilc rfl (kO rfl (a_fa rfl (kO rfl (a_ld rfl (.next (.app .here)) rfl (kO rfl (a_fa rfl (kO rfl (a_ld rfl .here rfl (kM rfl rfl (kO rfl (a_nilc rfl ?_))))))))))))))))))))))))))))))))))
  refine kO rfl (a_fa rfl (kO rfl (a_ld rfl (.next (.app .here)) rfl (kO rfl (a_fa rfl (kO rfl (a_ld rfl .here rfl (kO rfl (a_ia (j := u0) rfl rfl (by omega) (by omega) (kO rfl (a_ld rfl (.next (.app (.next .here))) (nsl_get (by omega)) (kM rfl rfl (kO rfl (a_lit rfl rfl rfl (fun b7 => (kO rfl (a_nap (zs := [_]) rfl rfl (Src.own .here rfl (by simp [ints])) (fun h => by rw [nobj_no (show ¬ u0 ∈ O from fun q => (hO.2 _ (by omega)).1 q h)]) (fun h => .next (.next (del_nobj ((hO.2 _ (by omega)).2 h)))) (by omega) (by omega) (fun b8 => (kZ rfl (a_again rfl rfl (.next (.next .here)) rfl (by simp [eqV, eqA, eqL, kindEq, intEq_eq, eqV_sl hL.spot]) (kZ rfl (a_again rfl rfl (.next (.next (.next (.app .here)))) rfl (by simp [eqV, eqA, eqL, kindEq, intEq_eq, eqV_sl hL.spot]) (kO rfl (a_ia (j := u0) rfl rfl (by omega) (by omega) (kZ rfl (a_st rfl rfl (by rw [nsl_set (z := (k : Int))]; exact (.next (.next (.next (.app (.next .here)))))) (by rw [Nat.blt_eq, nsl_len]; omega) rfl (i_nil (rI (kM rfl rfl (kO rfl (a_nilc rfl (kO rfl (a_fa rfl (kO rfl (a_ld rfl (.next (.next (.next (.app .here)))) rfl (kO rfl (a_fa rfl (kO rfl (a_ld rfl (.next (.next .here)) rfl (kM rfl rfl (kO rfl (a_nilc rfl (kO rfl (a_fa rfl ?_))))))))))))))))))))))))))))))))))))))))))))
  refine kO rfl (a_ld rfl (.next (.next (.next (.app .here)))) rfl (kO rfl (a_fa rfl (kO rfl (a_ld rfl (.next (.next .here)) rfl (kO rfl (a_ia (j := u1) rfl rfl (by omega) (by omega) (kO rfl (a_ld rfl (.next (.next (.next (.app (.next .here))))) (by rw [nsl_get (by omega), nsv_ne (by omega)]) (kM rfl rfl (kO rfl (a_lit rfl rfl rfl (fun b9 => (kO rfl (a_nap (zs := [_]) rfl rfl (Src.own .here rfl (by simp [ints])) (fun h => by rw [nobj_no (show ¬ u1 ∈ O.erase u0 from fun q => (hO.2 _ (by omega)).1 (List.mem_of_mem_erase q) h)]) (fun h => .next (.next (.next (.next (del_nobj ((List.mem_erase_of_ne (by omega)).2 ((hO.2 _ (by omega)).2 h))))))) (by omega) (by omega) (fun b10 => (kZ rfl (a_again rfl rfl (.next (.next (.next (.next .here)))) rfl (by simp [eqV, eqA, eqL, kindEq, intEq_eq, eqV_sl hL.spot]) (kZ rfl (a_again rfl rfl (.next (.next (.next (.next (.next (.app .here)))))) rfl (by simp [eqV, eqA, eqL, kindEq, intEq_eq, eqV_sl hL.spot]) (kO rfl (a_ia (j := u1) rfl rfl (by omega) (by omega) (kZ rfl (a_st rfl rfl (by rw [nsl_set2 (show ¬ u1 = u0 by omega) (z := (k : Int))]; exact (.next (.next (.next (.next (.next (.app (.next .here)))))))) (by rw [Nat.blt_eq, nsl_len]; omega) rfl (i_nil (block_n (then_n (rI (kO rfl (a_add rfl rfl (by omega) (kM rfl rfl (i_nil (then_n ?_)))))))))))))))))))))))))))))))))
  have hst := nl_step hx (by omega)
  exact ⟨rfl, _, _, _, (show ls.length - (k + 1) < ls.length - k by omega), (lc 1 rfl (lc 3 rfl (lc 18 rfl (lc 19 rfl (lc 20 rfl Less.nil))))), (.q (.cons _ (.q (.cons _ (.cons _ (.r (.q (.q (.q (.q .slnil)))))))))), ⟨k + 1, (u1 :: (u0 :: O.erase u0).erase u1), updB (updB B u0 b8) u1 b10, rfl, (by rw [hst]; exact nobj_two hO.1 (by omega)), rfl, by omega, (by rw [hst]; exact (hO.put (by simp)).put2 (by omega) (by simp)), (fun v => nl_len hnl v)⟩⟩
 ·refine i_nil (rQ (r_cond_f rfl (r_exit (then_e (then_e (block_hit (then_n (rS (kM rfl rfl (kM rfl rfl (i_nil (r_ret ?_))))))))))))
  have hkN : k = ls.length := by omega
  subst hkN
  exact end1A rfl (.r (.q (.q (.q (.cons _ .slnil))))) ⟨_, _, _, O, B, rfl, rfl, hO⟩
theorem Max_s (n : Nat) (ax : Option Addr) (cx : Nat) (x : List Int) (s : St) (hs : Wf s) (hn : 281474976710656 <= n) (hX : IntsE s ax x) (h0 : 0 < x.length) : Spec Try.prog (tabK tabw) X (n + 300) 74 [.slice ax x.length cx] s (fun v A => v = .int .i64 (mxV x (x.length - 1)) /\ A = []) := by
 refine enter bw74_at rfl hs ?_
 unfold bw74
 have hlen := hX.len
 refine rS (kM rfl rfl (i_nil (rQ (rS (kM rfl rfl (kO rfl (a_lenx rfl hX.spot (kO rfl (a_lss rfl rfl (fun h1 => ?_) (fun h1 => ?_))))))))))
 ·exfalso; omega
 ·refine i_nil (r_cond_f rfl (r_skip (then_n (rS (kM rfl rfl (kO rfl (a_iaI (j := 0) hX rfl rfl (by omega) (by first | rfl | omega) (by omega) (fun _ _ a2 => (kO rfl (a_ldr rfl (hX.at a2 (by omega)) (kM rfl rfl (i_nil (rQ (rS (kM rfl rfl (i_nil (r_block (r_loop (fun j e A => ∃ (k : Nat), e = [(0, .slice ax x.length cx), (3, .int .i64 (mxV x k)), (4, .int .i64 ((k + 1 : Nat) : Int))] /\ A = [] /\ j = x.length - k /\ k + 1 <= x.length) 150 0 281474976710656 ?_ (j := _) (env2 := _) (A2 := _) ?_ ?_ ?_ ?_ ⟨0, rfl, rfl, rfl, (by omega)⟩))))))))))))))))))
  rotate_left
  ·omega
  ·omega
  ·exact (lc 0 rfl (lc 3 rfl (lc 4 rfl Less.nil)))
  ·exact .slnil
  rintro n hn j _ _ ⟨k, rfl, rfl, rfl, hk⟩
  refine rQ (rS (kM rfl rfl (kM rfl rfl (kO rfl (a_lenx rfl hX.spot (kO rfl (a_lss rfl rfl (fun h3 => ?_) (fun h3 => ?_))))))))
  ·refine i_nil (r_cond_t rfl (r_skip (then_n (rQ (r_block (rI (kM rfl rfl (kM rfl rfl (kM rfl rfl (kO rfl (a_iaI (j := (k + 1)) hX rfl rfl (by omega) (by first | rfl | omega) (by omega) (fun _ _ a4 => (kO rfl (a_ldr rfl (hX.at a4 (by omega)) (kO rfl (a_max rfl (kM rfl rfl (i_nil (block_n (then_n (rI (kM rfl rfl (kO rfl (a_add rfl rfl (by omega) (kM rfl rfl (i_nil (then_n ?_)))))))))))))))))))))))))))
   exact ⟨rfl, _, _, _, (show x.length - (k + 1) < x.length - k by omega), (lc 0 rfl (lc 3 rfl (lc 4 rfl Less.nil))), .slnil, ⟨k + 1, rfl, rfl, rfl, by omega⟩⟩
  ·refine i_nil (r_cond_f rfl (r_exit (then_e (then_e (block_hit (then_n (rS (kM rfl rfl (kM rfl rfl (i_nil (r_ret ?_)))))))))))
   have hkx : k = x.length - 1 := by omega
   subst hkx
   exact end1 rfl ⟨rfl, rfl⟩
end
end Ev
end Go.Proofs.Ytoeklhdklcpllaa
