import Derived.Test.YtoeklhdklcpllaaZi11
import Derived.Test.YtoeklhdklcpllaaZi10
set_option linter.unusedVariables false
set_option linter.unusedSimpArgs false
namespace Go.Proofs.Ytoeklhdklcpllaa
open Go Go.RowKit
namespace Ev
theorem U6 {f g : Nat -> Int} : ∀ {N : Nat}, (∀ i, i < N -> f i = g i) -> tot f N = tot g N
 | 0, _ => rfl
 | N + 1, h => by show tot f N + f N = tot g N + g N; rw [U6 (N := N) (fun i hi => h i (by omega)), h N (by omega)]
theorem tot_le {f g : Nat -> Int} : ∀ {N : Nat}, (∀ i, i < N -> f i <= g i) -> tot f N <= tot g N
 | 0, _ => Int.le_refl _
 | N + 1, h => by
  have h1 := tot_le (N := N) (fun i hi => h i (by omega));have h2 := h N (by omega);show tot f N + f N <= tot g N + g N;omega
theorem tot_add {f g : Nat -> Int} : ∀ {N : Nat}, tot (fun i => f i + g i) N = tot f N + tot g N
 | 0 => rfl
 | N + 1 => by
  have h1 := tot_add (f := f) (g := g) (N := N);show tot (fun i => f i + g i) N + (f N + g N) = tot f N + f N + (tot g N + g N);omega
theorem tot_sub {f g : Nat -> Int} : ∀ {N : Nat}, tot (fun i => f i - g i) N = tot f N - tot g N
 | 0 => rfl
 | N + 1 => by
  have h1 := tot_sub (f := f) (g := g) (N := N);show tot (fun i => f i - g i) N + (f N - g N) = tot f N + f N - (tot g N + g N);omega
theorem tot_nil {f : Nat -> Int} : ∀ {N : Nat}, (∀ i, i < N -> f i = 0) -> tot f N = 0
 | 0, _ => rfl
 | N + 1, h => by show tot f N + f N = 0; rw [tot_nil (N := N) (fun i hi => h i (by omega)), h N (by omega)]; rfl
theorem tot_nn {f : Nat -> Int} {N : Nat} (h : ∀ i, i < N -> 0 <= f i) : 0 <= tot f N := by
 have := tot_le (f := fun _ => 0) (g := f) h
 rwa [tot_nil (fun _ _ => rfl)] at this
theorem tot_one {c : Nat -> Int} {a : Nat} : ∀ {N : Nat}, a < N -> tot (fun v => if a = v then c v else 0) N = c a
 | N + 1, h => by
  show tot (fun v => if a = v then c v else 0) N + (if a = N then c N else 0) = c a;by_cases q : a = N
  ·subst q
   rw [if_pos rfl, tot_nil (fun i hi => if_neg (by omega))]; omega
  ·rw [if_neg q, tot_one (N := N) (by omega)]; omega
theorem tot_mem {f : Nat -> Int} : ∀ {N : Nat}, (∀ i, i < N -> 0 <= f i) -> ∀ i, i < N -> f i <= tot f N
 | N + 1, h, i, hi => by
  have h1 := tot_nn (f := f) (N := N) (fun i hi => h i (by omega));show f i <= tot f N + f N;by_cases q : i = N
  ·subst q; omega
  ·have := tot_mem (N := N) (fun i hi => h i (by omega)) i (by omega)
   have := h N (by omega);omega
def net (ts : List (List Int)) (t : Nat -> Int) : Nat -> Nat -> Int
 | 0, _ => 0
 | k + 1, v => net ts t k v + ((if lb ts k = v then t k else 0) - (if la ts k = v then t k else 0))
theorem dot_net {ts : List (List Int)} {t x : Nat -> Int} {N : Nat} : ∀ {k : Nat}, (∀ i, i < k -> la ts i < N /\ lb ts i < N) -> tot (fun v => x v * net ts t k v) N = tot (fun i => t i * (x (lb ts i) - x (la ts i))) k
 | 0, _ => tot_nil (fun i _ => Int.mul_zero _)
 | k + 1, h => by
  have ih := dot_net (t := t) (x := x) (k := k) (fun i hi => h i (by omega));obtain ⟨ha, hb⟩ := h k (by omega);have e : ∀ v, v < N -> x v * net ts t (k + 1) v = x v * net ts t k v + ((if lb ts k = v then x v * t k else 0) - (if la ts k = v then x v * t k else 0)) := fun v _ => by
   show x v * (net ts t k v + ((if lb ts k = v then t k else 0) - (if la ts k = v then t k else 0))) = _;rw [Int.mul_add, Int.mul_sub]
   congr 1
   congr 1
   ·split <;> simp
   ·split <;> simp
  rw [U6 e, tot_add, tot_sub, ih, tot_one (c := fun v => x v * t k) hb, tot_one (c := fun v => x v * t k) ha];show _ = tot _ k + t k * (x (lb ts k) - x (la ts k));rw [Int.mul_sub, Int.mul_comm (t k), Int.mul_comm (t k)]
theorem dual_le {ts : List (List Int)} {t x : Nat -> Int} {K : Nat} (hn : ∀ i, i < K -> 0 <= t i) (hx : ∀ i, i < K -> x (lb ts i) <= x (la ts i) + lw ts i) : tot (fun i => t i * (x (lb ts i) - x (la ts i))) K <= tot (fun i => t i * lw ts i) K :=
 tot_le (fun i hi => Int.mul_le_mul_of_nonneg_left (by have := hx i hi; omega) (hn i hi))
theorem dual_eq {ts : List (List Int)} {t x : Nat -> Int} {K : Nat} (hx : ∀ i, i < K -> ¬ t i = 0 -> x (lb ts i) = x (la ts i) + lw ts i) : tot (fun i => t i * (x (lb ts i) - x (la ts i))) K = tot (fun i => t i * lw ts i) K :=
 U6 (fun i hi => by
  by_cases q : t i = 0
  ·rw [q, Int.zero_mul, Int.zero_mul]
  ·rw [hx i hi q]; congr 1; omega)
def ind (U : Nat -> Bool) (v : Nat) : Int := if U v = true then 1 else 0
def Lg (M : Nat) (ts : List (List Int)) : Prop := ∀ i, i < ts.length -> la ts i < M + 1 /\ lb ts i < M + 1 /\ la ts i ≠ lb ts i /\ -20000 <= lw ts i /\ lw ts i <= 1280001 /\ ∃ y3, ts[i]? = some [((la ts i : Nat) : Int), ((lb ts i : Nat) : Int), lw ts i, y3]
theorem lw_bd' {ls : List (List Int)} {M i : Nat} (hl : lmB (M : Int) ls = true) (hi : i < ls.length) : -20000 <= lw ls i /\ lw ls i <= 20000 := by
 obtain ⟨u0, u1, y2, y3, e, hc⟩ := lm_row hl hi;have e3 : ls.getD i [] = [(u0 : Int), (u1 : Int), y2, y3] := by rw [List.getD_eq_getElem?_getD, e]; rfl
 have e2 : lw ls i = y2 := by unfold lw; rw [e3]; rfl
 omega
theorem lg_of {M : Nat} {ls : List (List Int)} (hl : lmB (M : Int) ls = true) : Lg M ls := fun i hi => by
 have hL := lim_of hl hi;obtain ⟨u0, u1, y2, y3, e, hc⟩ := lm_row hl hi;have e3 : ls.getD i [] = [(u0 : Int), (u1 : Int), y2, y3] := by rw [List.getD_eq_getElem?_getD, e]; rfl
 have e2 : lw ls i = y2 := by unfold lw; rw [e3]; rfl
 exact ⟨hL.ha, hL.hb, hL.ne, by omega, by omega, hL.row⟩
def W1 : Nat -> List (List Int)
 | 0 => []
 | m + 1 => W1 m ++ [[0, ((m + 1 : Nat) : Int), 1280001, 0], [((m + 1 : Nat) : Int), 0, 1280001, 0]]
theorem toll_len : ∀ {m : Nat}, (W1 m).length = 2 * m
 | 0 => rfl
 | m + 1 => by
  show (W1 m ++ _).length = _;rw [List.length_append, toll_len]; show 2 * m + 2 = _; omega
theorem toll_up {i : Nat} : ∀ {m : Nat}, i < m -> (W1 m)[2 * i]? = some [0, ((i + 1 : Nat) : Int), 1280001, 0] /\ (W1 m)[2 * i + 1]? = some [((i + 1 : Nat) : Int), 0, 1280001, 0]
 | m + 1, h => by
  show (W1 m ++ _)[2 * i]? = _ /\ (W1 m ++ _)[2 * i + 1]? = _;by_cases q : i = m
  ·subst q
   rw [List.getElem?_append_right (by rw [toll_len]; omega), List.getElem?_append_right (by rw [toll_len]; omega), toll_len, Nat.sub_self, show 2 * i + 1 - 2 * i = 1 by omega];exact ⟨rfl, rfl⟩
  ·rw [List.getElem?_append_left (by rw [toll_len]; omega), List.getElem?_append_left (by rw [toll_len]; omega)]
   exact toll_up (by omega)
theorem fld {ts : List (List Int)} {i a b : Nat} {w y : Int} (h : ts[i]? = some [(a : Int), (b : Int), w, y]) : la ts i = a /\ lb ts i = b /\ lw ts i = w := by
 have e : ts.getD i [] = [(a : Int), (b : Int), w, y] := by rw [List.getD_eq_getElem?_getD, h]; rfl
 refine ⟨?_, ?_, ?_⟩
 ·unfold la; rw [e]; exact Int.toNat_natCast a
 ·unfold lb; rw [e]; exact Int.toNat_natCast b
 ·unfold lw; rw [e]; rfl
theorem app_fld {ls us : List (List Int)} {i : Nat} (h : i < ls.length) : la (ls ++ us) i = la ls i /\ lb (ls ++ us) i = lb ls i /\ lw (ls ++ us) i = lw ls i := by
 have e : (ls ++ us).getD i [] = ls.getD i [] := by rw [List.getD_eq_getElem?_getD, List.getElem?_append_left h, <- List.getD_eq_getElem?_getD]
 unfold la lb lw;rw [e]; exact ⟨rfl, rfl, rfl⟩
theorem tl_up {ls : List (List Int)} {m i : Nat} (h : i < m) : (ls ++ W1 m)[ls.length + 2 * i]? = some [((0 : Nat) : Int), ((i + 1 : Nat) : Int), 1280001, 0] /\ (ls ++ W1 m)[ls.length + 2 * i + 1]? = some [((i + 1 : Nat) : Int), ((0 : Nat) : Int), 1280001, 0] := by
 rw [List.getElem?_append_right (by omega), List.getElem?_append_right (by omega), show ls.length + 2 * i - ls.length = 2 * i by omega, show ls.length + 2 * i + 1 - ls.length = 2 * i + 1 by omega];exact toll_up h
theorem lg_tl {M : Nat} {ls : List (List Int)} (hl : lmB (M : Int) ls = true) : Lg M (ls ++ W1 M) := fun i hi => by
 by_cases q : i < ls.length
 ·obtain ⟨e1, e2, e3⟩ := app_fld (us := W1 M) q
  obtain ⟨h1, h2, h3, h4, h5, y3, h6⟩ := lg_of hl i q;rw [e1, e2, e3, List.getElem?_append_left q];exact ⟨h1, h2, h3, h4, h5, y3, h6⟩
 ·rw [List.length_append, toll_len] at hi
  obtain ⟨j, hj, hd⟩ : ∃ j, j < M /\ (i = ls.length + 2 * j ∨ i = ls.length + 2 * j + 1) := ⟨(i - ls.length) / 2, by omega, by omega⟩;obtain ⟨t1, t2⟩ := tl_up (ls := ls) hj;rcases hd with rfl | rfl
  ·obtain ⟨e1, e2, e3⟩ := fld t1
   rw [e1, e2, e3];exact ⟨by omega, by omega, by omega, by omega, by omega, 0, t1⟩
  ·obtain ⟨e1, e2, e3⟩ := fld t2
   rw [e1, e2, e3];exact ⟨by omega, by omega, by omega, by omega, by omega, 0, t2⟩
structure Opt (ls : List (List Int)) (N : Nat) (w t p : Nat -> Int) : Prop where
 nn : ∀ i, i < ls.length -> 0 <= t i
 nt : ∀ v, v < N -> net ls t ls.length v = w v
 st : ∀ i, i < ls.length -> p (lb ls i) <= p (la ls i) + lw ls i
 ti : ∀ i, i < ls.length -> 0 < t i -> p (lb ls i) = p (la ls i) + lw ls i
theorem Opt.eq {ls : List (List Int)} {N : Nat} {w t p : Nat -> Int} (h : Opt ls N w t p) (hN : ∀ i, i < ls.length -> la ls i < N /\ lb ls i < N) : tot (fun v => p v * w v) N = tot (fun i => t i * lw ls i) ls.length := by
 rw [<- dual_eq (x := p) (fun i hi q => h.ti i hi (by have := h.nn i hi; omega)), <- dot_net hN];exact U6 (fun v hv => by rw [h.nt v hv])
theorem Opt.le {ls : List (List Int)} {N : Nat} {w t p x : Nat -> Int} (h : Opt ls N w t p) (hN : ∀ i, i < ls.length -> la ls i < N /\ lb ls i < N) (hx : ∀ i, i < ls.length -> x (lb ls i) <= x (la ls i) + lw ls i) : tot (fun v => x v * w v) N <= tot (fun i => t i * lw ls i) ls.length := by
 have := dual_le (t := t) h.nn hx;rw [<- dot_net hN] at this
 rwa [U6 (fun v hv => by rw [<- h.nt v hv])]
def Opn (ls : List (List Int)) (N : Nat) (w : Nat -> Int) : Prop := ∃ U : Nat -> Bool, (∀ i, i < ls.length -> U (lb ls i) = true -> U (la ls i) = true) /\ 0 < tot (fun v => ind U v * w v) N
structure Ld (ts : List (List Int)) (N : Nat) (w due t p : Nat -> Int) : Prop where
 nn : ∀ i, i < ts.length -> 0 <= t i
 nt : ∀ v, v < N -> net ts t ts.length v = w v - due v
 st : ∀ i, i < ts.length -> p (lb ts i) <= p (la ts i) + lw ts i
 ti : ∀ i, i < ts.length -> 0 < t i -> p (lb ts i) = p (la ts i) + lw ts i
theorem net_app {ls us : List (List Int)} {t : Nat -> Int} {v : Nat} : ∀ {k : Nat}, k <= ls.length -> net (ls ++ us) t k v = net ls t k v
 | 0, _ => rfl
 | k + 1, h => by
  obtain ⟨e1, e2, _⟩ := app_fld (us := us) (show k < ls.length by omega);show net (ls ++ us) t k v + _ = net ls t k v + _;rw [net_app (by omega), e1, e2]
theorem net_stop {ts : List (List Int)} {t : Nat -> Int} {v K0 : Nat} : ∀ {K : Nat}, K0 <= K -> (∀ i, K0 <= i -> i < K -> t i = 0) -> net ts t K v = net ts t K0 v
 | 0, h, _ => by rw [show K0 = 0 by omega]
 | K + 1, h, ht => by
  by_cases q : K0 = K + 1
  ·rw [q]
  ·show net ts t K v + _ = _
   rw [net_stop (K := K) (by omega) (fun i hi hk => ht i hi (by omega)), ht K (by omega) (by omega)];simp
theorem ld_opt {ls : List (List Int)} {M : Nat} {w due t p : Nat -> Int} (h : Ld (ls ++ W1 M) (M + 1) w due t p) (hd : ∀ v, v < M + 1 -> due v = 0) (ht : ∀ i, ls.length <= i -> i < (ls ++ W1 M).length -> t i = 0) : Opt ls (M + 1) w t p := by
 have hlen : ls.length <= (ls ++ W1 M).length := by rw [List.length_append]; omega
 refine ⟨fun i hi => h.nn i (by omega), fun v hv => ?_, fun i hi => ?_, fun i hi hp => ?_⟩
 ·have := h.nt v hv
  rw [net_stop hlen ht, net_app (Nat.le_refl _), hd v hv] at this;omega
 ·have := h.st i (by omega)
  obtain ⟨e1, e2, e3⟩ := app_fld (us := W1 M) hi
  rwa [e1, e2, e3] at this
 ·have := h.ti i (by omega) hp
  obtain ⟨e1, e2, e3⟩ := app_fld (us := W1 M) hi
  rwa [e1, e2, e3] at this
theorem gap {M : Nat} {p : Nat -> Int} {a b : Nat} (hM : M <= 64) (ha : a < M + 1) (hb : b < M + 1) (h : p b = p a + 1280001) : ∃ c : Int, p a <= c /\ c + 20000 < p b /\ ∀ u, u < M + 1 -> p u <= c ∨ c + 20000 < p u := by
 refine Classical.byContradiction (fun q => ?_);have hall : ∀ j : Nat, j < 64 -> ∃ u, u < M + 1 /\ p a + 20000 * (j : Int) < p u /\ p u <= p a + 20000 * (j : Int) + 20000 := fun j hj => by
  refine Classical.byContradiction (fun r => q ⟨p a + 20000 * (j : Int), by omega, by omega, fun u hu => ?_⟩);by_cases c1 : p u <= p a + 20000 * (j : Int)
  ·exact .inl c1
  ·exact .inr (by refine Classical.byContradiction (fun c2 => r ⟨u, hu, by omega, by omega⟩))
 have hf : ∀ j : Nat, ∃ u, u < M + 1 /\ (j < 64 -> p a + 20000 * (j : Int) < p u /\ p u <= p a + 20000 * (j : Int) + 20000) := fun j => by
  by_cases hj : j < 64
  ·obtain ⟨u, h1, h2, h3⟩ := hall j hj
   exact ⟨u, h1, fun _ => ⟨h2, h3⟩⟩
  ·exact ⟨a, ha, fun r => absurd r hj⟩
 have key := fun j => (hf j).choose_spec
 obtain ⟨i, j, h1, h2, h3⟩ := pigeon 65 (fun j => if j = 64 then a else if j = 65 then b else (hf j).choose) (fun i hi => by
  show (if i = 64 then a else if i = 65 then b else (hf i).choose) < 65;have := (key i).1;split
  ·omega
  ·split <;> omega)
 have h3' : (if i = 64 then a else if i = 65 then b else (hf i).choose) = (if j = 64 then a else if j = 65 then b else (hf j).choose) := h3;by_cases i64 : i = 64
 ·rw [if_pos i64, if_neg (by omega), if_pos (by omega)] at h3'
  rw [<- h3'] at h; omega
 ·have ki := (key i).2 (by omega)
  rw [if_neg i64, if_neg (by omega)] at h3';by_cases j64 : j = 64
  ·rw [if_pos j64] at h3'; rw [h3'] at ki; omega
  ·rw [if_neg j64] at h3'
   by_cases j65 : j = 65
   ·rw [if_pos j65] at h3'; rw [h3'] at ki; omega
   ·rw [if_neg j65] at h3'
    have kj := (key j).2 (by omega);rw [<- h3'] at kj;omega
theorem ld_opn {ls : List (List Int)} {M : Nat} {w due t p : Nat -> Int} (hl : lmB (M : Int) ls = true) (hM : M <= 64) (h : Ld (ls ++ W1 M) (M + 1) w due t p) (hd : ∀ v, v < M + 1 -> due v = 0) {i : Nat} (hi : ls.length <= i) (hi2 : i < (ls ++ W1 M).length) (ht : 0 < t i) : Opn ls (M + 1) w := by
 have hlen : (ls ++ W1 M).length = ls.length + 2 * M := by rw [List.length_append, toll_len]
 have htl := h.ti i hi2 ht;have hg := lg_tl hl;obtain ⟨g1, g2, _⟩ := hg i hi2;have htw : lw (ls ++ W1 M) i = 1280001 := by
  obtain ⟨j, hj, hd⟩ : ∃ j, j < M /\ (i = ls.length + 2 * j ∨ i = ls.length + 2 * j + 1) := ⟨(i - ls.length) / 2, by omega, by omega⟩;obtain ⟨t1, t2⟩ := tl_up (ls := ls) hj;rcases hd with rfl | rfl
  ·exact (fld t1).2.2
  ·exact (fld t2).2.2
 rw [htw] at htl;obtain ⟨c, c1, c2, c3⟩ := gap hM g1 g2 htl;refine ⟨fun v => decide (c < p v), fun k hk hU => ?_, ?_⟩
 ·have hU : c < p (lb ls k) := of_decide_eq_true hU
  obtain ⟨e1, e2, e3⟩ := app_fld (us := W1 M) hk;have h1 := h.st k (by omega);rw [e1, e2, e3] at h1;obtain ⟨k1, k2, _⟩ := lg_of hl k hk;have h2 := c3 _ k1;have h3 := c3 _ k2;have h4 := lw_bd' hl hk;exact decide_eq_true (by omega)
 ·have e : tot (fun v => ind (fun v => decide (c < p v)) v * w v) (M + 1) = tot (fun k => t k * (ind (fun v => decide (c < p v)) (lb (ls ++ W1 M) k) - ind (fun v => decide (c < p v)) (la (ls ++ W1 M) k))) (ls ++ W1 M).length := by
   rw [<- dot_net (fun k hk => ⟨(hg k hk).1, (hg k hk).2.1⟩)];exact U6 (fun v hv => by rw [h.nt v hv, hd v hv]; simp)
  rw [e];have hnn : ∀ k, k < (ls ++ W1 M).length -> 0 <= t k * (ind (fun v => decide (c < p v)) (lb (ls ++ W1 M) k) - ind (fun v => decide (c < p v)) (la (ls ++ W1 M) k)) := fun k hk => by
   have k0 := h.nn k hk;by_cases q : t k = 0
   ·rw [q]; simp
   ·have k1 := h.ti k hk (by omega)
    obtain ⟨k2, k3, _, k4, k5, _⟩ := hg k hk;have h2 := c3 _ k2;have h3 := c3 _ k3;unfold ind;refine Int.mul_nonneg k0 ?_;by_cases q1 : c < p (la (ls ++ W1 M) k)
    ·have : c < p (lb (ls ++ W1 M) k) := by omega
     rw [if_pos (decide_eq_true q1), if_pos (decide_eq_true this)]; decide
    ·have e1 : (if decide (c < p (la (ls ++ W1 M) k)) = true then (1 : Int) else 0) = 0 := if_neg (by simpa using q1)
     rw [e1];split <;> decide
  have hmem := tot_mem hnn i hi2;have hpos : t i * (ind (fun v => decide (c < p v)) (lb (ls ++ W1 M) i) - ind (fun v => decide (c < p v)) (la (ls ++ W1 M) i)) = t i := by
   unfold ind;rw [if_pos (decide_eq_true (by omega)), if_neg (by simp; omega)];omega
  have hmem' : t i * (ind (fun v => decide (c < p v)) (lb (ls ++ W1 M) i) - ind (fun v => decide (c < p v)) (la (ls ++ W1 M) i)) <= _ := hmem;rw [hpos] at hmem';exact Int.lt_of_lt_of_le ht hmem'
section
variable {X : FuncId -> List Value -> St -> (Value -> St -> Bool) -> Bool}
end
structure Cm where
 lim : Nat
 bk : Bool
 fr : Int
 to : Nat
 ms : Int
structure Tp where
 pr : Nat -> Int
 cm : Nat -> Cm
 lf : Nat -> Bool
structure Rs (ts : List (List Int)) (t : Nat -> Int) (u : Nat) (c : Cm) : Prop where
 lt : c.lim < ts.length
 fr : c.fr = (u : Int)
 wh : (c.bk = false /\ la ts c.lim = u /\ c.to = lb ts c.lim /\ c.ms = lw ts c.lim) ∨ (c.bk = true /\ lb ts c.lim = u /\ c.to = la ts c.lim /\ c.ms = -(lw ts c.lim) /\ 0 < t c.lim)
def upT (p : Nat -> Int) (g : Tp) (v i : Nat) (bk : Bool) (to : Nat) (ms : Int) : Tp :=
 if g.pr v + ms + p v - p to < g.pr to then ⟨W2 g.pr to (g.pr v + ms + p v - p to), W2 g.cm to ⟨i, bk, (v : Int), to, ms⟩, g.lf⟩ else g
def rxT (ts : List (List Int)) (t p : Nat -> Int) (g : Tp) (v i : Nat) : Tp :=
 if lb ts i = v then (if t i = 0 then g else upT p g v i true (la ts i) (-(lw ts i))) else upT p g v i false (lb ts i) (lw ts i)
def rwT (ts : List (List Int)) (t p : Nat -> Int) (g : Tp) (v : Nat) : Nat -> Tp
 | 0 => g
 | q + 1 => rxT ts t p (rwT ts t p g v q) v ((nl ts ts.length v).getD q 0).toNat
def cnB (f : Nat -> Bool) : Nat -> Nat
 | 0 => 0
 | k + 1 => cnB f k + (if f k = true then 1 else 0)
theorem cnB_le {f : Nat -> Bool} : ∀ {N : Nat}, cnB f N <= N
 | 0 => Nat.le_refl _
 | N + 1 => by
  have := cnB_le (f := f) (N := N);show cnB f N + (if f N = true then 1 else 0) <= _;split <;> omega
theorem cnB_far {f : Nat -> Bool} {b : Nat} : ∀ {N : Nat}, N <= b -> cnB (W2 f b true) N = cnB f N
 | 0, _ => rfl
 | N + 1, h => by
  show cnB (W2 f b true) N + (if W2 f b true N = true then 1 else 0) = cnB f N + (if f N = true then 1 else 0);rw [cnB_far (N := N) (by omega), V0 (show N ≠ b by omega)]
theorem cnB_upd {f : Nat -> Bool} {b : Nat} (hb : f b = false) : ∀ {N : Nat}, b < N -> cnB (W2 f b true) N = cnB f N + 1
 | N + 1, h => by
  show cnB (W2 f b true) N + (if W2 f b true N = true then 1 else 0) = cnB f N + (if f N = true then 1 else 0) + 1;by_cases q : b = N
  ·subst q
   rw [cnB_far (Nat.le_refl _), V2, if_pos rfl, hb, if_neg (by decide)]
  ·rw [cnB_upd hb (N := N) (by omega), V0 (show N ≠ b by omega)]; omega
theorem cnB_lt {f : Nat -> Bool} {b N : Nat} (hb : f b = false) (h : b < N) : cnB f N < N := by
 have h1 := cnB_upd hb h;have h2 := cnB_le (f := W2 f b true) (N := N);omega
structure Dj (ts : List (List Int)) (N : Nat) (t p : Nat -> Int) (S : Nat -> Prop) (U : Int) (g : Tp) (rk : Nat -> Nat) : Prop where
 src : ∀ v, v < N -> S v -> g.pr v = 0 /\ (g.cm v).fr = -1
 pos : ∀ v, v < N -> 0 <= g.pr v
 bd : ∀ v, v < N -> g.pr v = 1000000000 ∨ g.pr v + p v <= U + 1280001 * (cnB g.lf N : Int)
 cam : ∀ v, v < N -> ¬ g.pr v = 1000000000 -> S v ∨ ∃ u, u < N /\ g.lf u = true /\ Rs ts t u (g.cm v) /\ (g.cm v).to = v /\ g.pr v = g.pr u + (g.cm v).ms + p u - p v /\ (g.lf v = true -> rk u < rk v)
 rkc : ∀ v, v < N -> g.lf v = true -> rk v < cnB g.lf N
 fin : ∀ v, v < N -> g.lf v = true -> ¬ g.pr v = 1000000000
 ord : ∀ u v, u < N -> v < N -> g.lf u = true -> g.lf v = false -> g.pr u <= g.pr v
 rel : ∀ u, u < N -> g.lf u = true -> ∀ i, i < ts.length -> (la ts i = u -> g.pr (lb ts i) <= g.pr u + lw ts i + p u - p (lb ts i)) /\ (lb ts i = u -> 0 < t i -> g.pr (la ts i) <= g.pr u + -(lw ts i) + p u - p (la ts i))
structure Kpt (ts : List (List Int)) (N : Nat) (t p : Nat -> Int) : Prop where
 lg : ∀ i, i < ts.length -> la ts i < N /\ lb ts i < N /\ la ts i ≠ lb ts i /\ -20000 <= lw ts i /\ lw ts i <= 1280001
 nn : ∀ i, i < ts.length -> 0 <= t i
 st : ∀ i, i < ts.length -> p (lb ts i) <= p (la ts i) + lw ts i
 ti : ∀ i, i < ts.length -> 0 < t i -> p (lb ts i) = p (la ts i) + lw ts i
theorem Rs.to_lt {ts : List (List Int)} {N : Nat} {t p : Nat -> Int} {u : Nat} {c : Cm} (h : Rs ts t u c) (k : Kpt ts N t p) : c.to < N /\ c.to ≠ u /\ 0 <= c.ms + p u - p c.to /\ c.ms <= 1280001 /\ -1280001 <= c.ms := by
 obtain ⟨h1, h2, h3, h4, h5⟩ := k.lg c.lim h.lt;have h6 := k.st c.lim h.lt;have h7 := k.ti c.lim h.lt;rcases h.wh with ⟨_, w1, w2, w3⟩ | ⟨_, w1, w2, w3, w4⟩
 ·rw [w2, w3, <- w1]; exact ⟨h2, fun e => h3 e.symm, by omega, by omega, by omega⟩
 ·have := h7 w4
  rw [w2, w3, <- w1]; exact ⟨h1, h3, by omega, by omega, by omega⟩
structure Dq (ts : List (List Int)) (N : Nat) (t p : Nat -> Int) (S : Nat -> Prop) (U : Int) (g0 : Tp) (v0 : Nat) (rk : Nat -> Nat) (h : Tp) : Prop where
 lf : h.lf = W2 g0.lf v0 true
 le : ∀ v, v < N -> h.pr v <= g0.pr v
 vis : ∀ v, v < N -> h.lf v = true -> h.pr v = g0.pr v
 src : ∀ v, v < N -> S v -> h.pr v = 0 /\ (h.cm v).fr = -1
 ord : ∀ v, v < N -> h.lf v = false -> g0.pr v0 <= h.pr v
 bd : ∀ v, v < N -> h.pr v = 1000000000 ∨ h.pr v + p v <= U + 1280001 * ((cnB g0.lf N : Int) + 1)
 cam : ∀ v, v < N -> ¬ h.pr v = 1000000000 -> S v ∨ ∃ u, u < N /\ h.lf u = true /\ Rs ts t u (h.cm v) /\ (h.cm v).to = v /\ h.pr v = h.pr u + (h.cm v).ms + p u - p v /\ (h.lf v = true -> W2 rk v0 (cnB g0.lf N) u < W2 rk v0 (cnB g0.lf N) v)
theorem Dq.up {ts : List (List Int)} {N : Nat} {t p : Nat -> Int} {S : Nat -> Prop} {U : Int} {g0 : Tp} {v0 : Nat} {rk : Nat -> Nat} {h : Tp} {i to : Nat} {bk : Bool} {ms : Int} (k : Kpt ts N t p) (hj : Dj ts N t p S U g0 rk) (hv : v0 < N) (hv2 : g0.lf v0 = false) (hvf : ¬ g0.pr v0 = 1000000000) (hq : Dq ts N t p S U g0 v0 rk h) (hr : Rs ts t v0 ⟨i, bk, (v0 : Int), to, ms⟩) :
 Dq ts N t p S U g0 v0 rk (upT p h v0 i bk to ms) /\ (upT p h v0 i bk to ms).pr to <= g0.pr v0 + ms + p v0 - p to /\ ∀ v, v < N -> (upT p h v0 i bk to ms).pr v <= h.pr v := by
 obtain ⟨r1, r2, r3, r4, r5⟩ := hr.to_lt k;have r1 : to < N := r1;have r2 : to ≠ v0 := r2;have r3 : 0 <= ms + p v0 - p to := r3;have r4 : ms <= 1280001 := r4;have hl0 : h.lf v0 = true := by rw [hq.lf, V2]
 have hp0 := hq.vis v0 hv hl0;have hpos := hj.pos v0 hv;unfold upT;by_cases c : h.pr v0 + ms + p v0 - p to < h.pr to
 ·rw [if_pos c]
  have hnv : h.lf to = false := by
   cases e : h.lf to with
   | false => rfl
   | true =>
    have h1 := hq.vis to r1 e;rw [hq.lf, V0 r2] at e;have h2 := hj.ord to v0 r1 hv e hv2;omega
  have hnS : ¬ S to := fun s => by
   have := (hq.src to r1 s).1;omega
  refine ⟨⟨hq.lf, fun v hv' => ?_, fun v hv' hl => ?_, fun v hv' hs => ?_, fun v hv' hl => ?_, fun v hv' => ?_, fun v hv' hf => ?_⟩, ?_, fun v hv' => ?_⟩
  ·show W2 h.pr to _ v <= _
   by_cases e : v = to
   ·subst e; rw [V2]; have := hq.le v hv'; omega
   ·rw [V0 e]; exact hq.le v hv'
  ·have hl : h.lf v = true := hl
   show W2 h.pr to _ v = _;rw [V0 (fun e => by rw [e, hnv] at hl; cases hl)];exact hq.vis v hv' hl
  ·have ne : v ≠ to := fun e => hnS (e ▸ hs)
   show W2 h.pr to _ v = 0 /\ (W2 h.cm to _ v).fr = -1;rw [V0 ne, V0 ne]; exact hq.src v hv' hs
  ·show g0.pr v0 <= W2 h.pr to _ v
   by_cases e : v = to
   ·subst e; rw [V2]; omega
   ·rw [V0 e]; exact hq.ord v hv' hl
  ·show W2 h.pr to _ v = _ ∨ W2 h.pr to _ v + p v <= _
   by_cases e : v = to
   ·subst e
    rw [V2];have := (hj.bd v0 hv).resolve_left hvf;exact .inr (by omega)
   ·rw [V0 e]; exact hq.bd v hv'
  ·show S v ∨ ∃ u, u < N /\ h.lf u = true /\ Rs ts t u (W2 h.cm to _ v) /\ (W2 h.cm to _ v).to = v /\ W2 h.pr to _ v = W2 h.pr to _ u + (W2 h.cm to _ v).ms + p u - p v /\ (h.lf v = true -> W2 rk v0 (cnB g0.lf N) u < W2 rk v0 (cnB g0.lf N) v)
   by_cases e : v = to
   ·subst e
    rw [V2, V2];refine .inr ⟨v0, hv, hl0, hr, rfl, ?_, fun q => by rw [hnv] at q; cases q⟩;rw [V0 (fun e => r2 e.symm)]
   ·have hf' : ¬ W2 h.pr to (h.pr v0 + ms + p v0 - p to) v = 1000000000 := hf
    rw [V0 e] at hf';rw [V0 e, V0 e];rcases hq.cam v hv' hf' with q | ⟨u, u1, u2, u3, u4, u5, u6⟩
    ·exact .inl q
    ·refine .inr ⟨u, u1, u2, u3, u4, ?_, u6⟩
     rw [V0 (fun e => by rw [e, hnv] at u2; cases u2)];exact u5
  ·show W2 h.pr to _ to <= _
   rw [V2, hp0]; exact Int.le_refl _
  ·show W2 h.pr to _ v <= _
   by_cases e : v = to
   ·subst e; rw [V2]; omega
   ·rw [V0 e]; exact Int.le_refl _
 ·rw [if_neg c]
  exact ⟨hq, by omega, fun v _ => Int.le_refl _⟩
def Rq (ts : List (List Int)) (t p : Nat -> Int) (d : Int) (v0 q : Nat) (x : Nat -> Int) : Prop := ∀ j, j < q -> ∀ i : Nat, (nl ts ts.length v0).getD j 0 = (i : Int) -> (la ts i = v0 -> x (lb ts i) <= d + lw ts i + p v0 - p (lb ts i)) /\ (lb ts i = v0 -> 0 < t i -> x (la ts i) <= d + -(lw ts i) + p v0 - p (la ts i))
theorem Dq.step {ts : List (List Int)} {N : Nat} {t p : Nat -> Int} {S : Nat -> Prop} {U : Int} {g0 : Tp} {v0 : Nat} {rk : Nat -> Nat} {h : Tp} {q i : Nat} (k : Kpt ts N t p) (hj : Dj ts N t p S U g0 rk) (hv : v0 < N) (hv2 : g0.lf v0 = false) (hvf : ¬ g0.pr v0 = 1000000000) (hq : Dq ts N t p S U g0 v0 rk h) (hR : Rq ts t p (g0.pr v0) v0 q h.pr)
 (hi : (nl ts ts.length v0).getD q 0 = (i : Int)) (hil : i < ts.length) (hn : la ts i = v0 ∨ lb ts i = v0) : Dq ts N t p S U g0 v0 rk (rxT ts t p h v0 i) /\ Rq ts t p (g0.pr v0) v0 (q + 1) (rxT ts t p h v0 i).pr := by
 obtain ⟨k1, k2, k3, _, _⟩ := k.lg i hil;have more : ∀ h' : Tp, (∀ v, v < N -> h'.pr v <= h.pr v) -> ((la ts i = v0 -> h'.pr (lb ts i) <= g0.pr v0 + lw ts i + p v0 - p (lb ts i)) /\ (lb ts i = v0 -> 0 < t i -> h'.pr (la ts i) <= g0.pr v0 + -(lw ts i) + p v0 - p (la ts i))) -> Rq ts t p (g0.pr v0) v0 (q + 1) h'.pr := fun h' hle hh j hj' i' hi' => by
  by_cases e : j = q
  ·subst e
   have : i' = i := by rw [hi] at hi'; omega
   subst this;exact hh
  ·have h3 := hR j (by omega) i' hi'
   obtain ⟨i2, e2, l2, _⟩ : ∃ i2 : Nat, (nl ts ts.length v0).getD j 0 = (i2 : Int) /\ i2 < ts.length /\ True := by
    by_cases hjl : j < (nl ts ts.length v0).length
    ·obtain ⟨i2, a, b, _⟩ := nl_mem (ls := ts) (v := v0) (k := ts.length) hjl
     exact ⟨i2, a, b, trivial⟩
    ·rw [List.getD_eq_getElem?_getD, List.getElem?_eq_none (by omega)] at hi' ⊢
     exact ⟨0, rfl, by omega, trivial⟩
   have : i' = i2 := by rw [e2] at hi'; omega
   subst this;obtain ⟨a1, a2, _⟩ := k.lg i' l2;refine ⟨fun e3 => ?_, fun e3 e4 => ?_⟩
   ·have := h3.1 e3; have := hle _ a2; omega
   ·have := h3.2 e3 e4; have := hle _ a1; omega
 unfold rxT;by_cases c : lb ts i = v0
 ·rw [if_pos c]
  by_cases c2 : t i = 0
  ·rw [if_pos c2]
   exact ⟨hq, more h (fun v _ => Int.le_refl _) ⟨fun e => absurd (e.trans c.symm) k3, fun _ e => by omega⟩⟩
  ·rw [if_neg c2]
   have c3 := k.nn i hil;obtain ⟨u1, u2, u3⟩ := Dq.up (to := la ts i) (ms := -(lw ts i)) (bk := true) (i := i) k hj hv hv2 hvf hq ⟨hil, rfl, .inr ⟨rfl, c, rfl, rfl, (show 0 < t i by omega)⟩⟩;exact ⟨u1, more _ u3 ⟨fun e => absurd (e.trans c.symm) k3, fun _ _ => u2⟩⟩
 ·rw [if_neg c]
  have ha : la ts i = v0 := hn.resolve_right c;obtain ⟨u1, u2, u3⟩ := Dq.up (to := lb ts i) (ms := lw ts i) (bk := false) (i := i) k hj hv hv2 hvf hq ⟨hil, rfl, .inl ⟨rfl, ha, rfl, rfl⟩⟩;exact ⟨u1, more _ u3 ⟨fun _ => u2, fun e => absurd e c⟩⟩
theorem nam_ab {ts : List (List Int)} {M i v : Nat} (hg : Lg M ts) (hi : i < ts.length) : nam (ts.getD i []) v ↔ la ts i = v ∨ lb ts i = v := by
 obtain ⟨_, _, _, _, _, y3, e⟩ := hg i hi;have e2 : ts.getD i [] = [((la ts i : Nat) : Int), ((lb ts i : Nat) : Int), lw ts i, y3] := by rw [List.getD_eq_getElem?_getD, e]; rfl
 unfold nam;rw [e2];show ((la ts i : Nat) : Int) = (v : Int) ∨ ((lb ts i : Nat) : Int) = (v : Int) ↔ _;omega
theorem Dj.visit {ts : List (List Int)} {M : Nat} {t p : Nat -> Int} {S : Nat -> Prop} {U : Int} {g0 : Tp} {v0 : Nat} {rk : Nat -> Nat} (hg : Lg M ts) (k : Kpt ts (M + 1) t p) (hj : Dj ts (M + 1) t p S U g0 rk) (hv : v0 < M + 1) (hv2 : g0.lf v0 = false) (hvf : ¬ g0.pr v0 = 1000000000) (hmin : ∀ v, v < M + 1 -> g0.lf v = false -> g0.pr v0 <= g0.pr v) :
 (∀ q, q <= (nl ts ts.length v0).length -> Dq ts (M + 1) t p S U g0 v0 rk (rwT ts t p ⟨g0.pr, g0.cm, W2 g0.lf v0 true⟩ v0 q) /\ Rq ts t p (g0.pr v0) v0 q (rwT ts t p ⟨g0.pr, g0.cm, W2 g0.lf v0 true⟩ v0 q).pr) /\
 Dj ts (M + 1) t p S U (rwT ts t p ⟨g0.pr, g0.cm, W2 g0.lf v0 true⟩ v0 (nl ts ts.length v0).length) (W2 rk v0 (cnB g0.lf (M + 1))) := by
 have hS : S v0 -> g0.pr v0 = 0 := fun s => (hj.src v0 hv s).1
 have h0 : Dq ts (M + 1) t p S U g0 v0 rk ⟨g0.pr, g0.cm, W2 g0.lf v0 true⟩ := by
  refine ⟨rfl, fun v _ => Int.le_refl _, fun v _ _ => rfl, hj.src, fun v hv' hl => ?_, fun v hv' => ?_, fun v hv' hf => ?_⟩
  ·have hl : W2 g0.lf v0 true v = false := hl
   by_cases e : v = v0
   ·rw [e, V2] at hl; cases hl
   ·rw [V0 e] at hl; exact hmin v hv' hl
  ·rcases hj.bd v hv' with q | q
   ·exact .inl q
   ·exact .inr (by show g0.pr v + p v <= _; omega)
  ·rcases hj.cam v hv' hf with q | ⟨u, u1, u2, u3, u4, u5, u6⟩
   ·exact .inl q
   ·have hu : u ≠ v0 := fun e => by rw [e, hv2] at u2; cases u2
    refine .inr ⟨u, u1, ?_, u3, u4, u5, fun hl => ?_⟩
    ·show W2 g0.lf v0 true u = true
     rw [V0 hu]; exact u2
    ·have hl : W2 g0.lf v0 true v = true := hl
     rw [V0 hu];by_cases e : v = v0
     ·rw [e, V2]; exact hj.rkc u u1 u2
     ·rw [V0 e] at hl ⊢
      exact u6 hl
 have hall : ∀ q, q <= (nl ts ts.length v0).length -> Dq ts (M + 1) t p S U g0 v0 rk (rwT ts t p ⟨g0.pr, g0.cm, W2 g0.lf v0 true⟩ v0 q) /\ Rq ts t p (g0.pr v0) v0 q (rwT ts t p ⟨g0.pr, g0.cm, W2 g0.lf v0 true⟩ v0 q).pr := by
  intro q
  induction q with
  | zero => intro _; exact ⟨h0, fun j hj => absurd hj (Nat.not_lt_zero j)⟩
  | succ q ih =>
   intro hq;obtain ⟨i1, i2⟩ := ih (by omega);obtain ⟨i, hi, hil, hn⟩ := nl_mem (ls := ts) (v := v0) (k := ts.length) (q := q) (by omega);have := Dq.step k hj hv hv2 hvf i1 i2 hi hil ((nam_ab hg hil).1 hn);show Dq ts (M + 1) t p S U g0 v0 rk (rxT ts t p _ v0 ((nl ts ts.length v0).getD q 0).toNat) /\ Rq ts t p (g0.pr v0) v0 (q + 1) (rxT ts t p _ v0 ((nl ts ts.length v0).getD q 0).toNat).pr;rw [hi, Int.toNat_natCast];exact this
 refine ⟨hall, ?_⟩;obtain ⟨d, r⟩ := hall _ (Nat.le_refl _);generalize rwT ts t p ⟨g0.pr, g0.cm, W2 g0.lf v0 true⟩ v0 (nl ts ts.length v0).length = h at d r;have hcn : cnB h.lf (M + 1) = cnB g0.lf (M + 1) + 1 := by rw [d.lf]; exact cnB_upd hv2 hv
 have hvis : ∀ v, v < M + 1 -> h.lf v = true -> v = v0 ∨ g0.lf v = true := fun v _ hl => by
  rw [d.lf] at hl;by_cases e : v = v0
  ·exact .inl e
  ·rw [V0 e] at hl; exact .inr hl
 refine ⟨d.src, fun v hv' => ?_, fun v hv' => ?_, d.cam, fun v hv' hl => ?_, fun v hv' hl => ?_, fun u v hu hv' hl hl2 => ?_, fun u hu hl i hi => ?_⟩
 ·by_cases e : h.lf v = true
  ·rw [d.vis v hv' e]; exact hj.pos v hv'
  ·have := d.ord v hv' (by simpa using e)
   have := hj.pos v0 hv;omega
 ·rw [hcn]
  rcases d.bd v hv' with q | q
  ·exact .inl q
  ·exact .inr (by omega)
 ·rw [hcn]
  rcases hvis v hv' hl with e | e
  ·rw [e, V2]; omega
  ·by_cases e2 : v = v0
   ·rw [e2, V2]; omega
   ·rw [V0 e2]; have := hj.rkc v hv' e; omega
 ·rw [d.vis v hv' hl]
  rcases hvis v hv' hl with e | e
  ·rw [e]; exact hvf
  ·exact hj.fin v hv' e
 ·rw [d.vis u hu hl]
  have h2 := d.ord v hv' hl2;rcases hvis u hu hl with e | e
  ·rw [e]; exact h2
  ·have := hj.ord u v0 hu hv e hv2
   omega
 ·obtain ⟨a1, a2, _⟩ := k.lg i hi
  rw [d.vis u hu hl];rcases hvis u hu hl with e | e
  ·subst e
   refine ⟨fun e3 => ?_, fun e3 e4 => ?_⟩
   ·obtain ⟨j, j1, j2⟩ := nl_has (ls := ts) (v := u) (i := i) ((nam_ab hg hi).2 (.inl e3)) (k := ts.length) hi
    exact (r j j1 i j2).1 e3
   ·obtain ⟨j, j1, j2⟩ := nl_has (ls := ts) (v := u) (i := i) ((nam_ab hg hi).2 (.inr e3)) (k := ts.length) hi
    exact (r j j1 i j2).2 e3 e4
  ·have h3 := hj.rel u hu e i hi
   refine ⟨fun e3 => ?_, fun e3 e4 => ?_⟩
   ·have := h3.1 e3; have := d.le _ a2; omega
   ·have := h3.2 e3 e4; have := d.le _ a1; omega
section
variable {X : FuncId -> List Value -> St -> (Value -> St -> Bool) -> Bool}
end
theorem Dj.start {ts : List (List Int)} {N : Nat} {t p : Nat -> Int} {S : Nat -> Prop} [DecidablePred S] {U : Int} {g : Tp} (h1 : ∀ v, v < N -> g.pr v = if S v then 0 else 1000000000) (h2 : ∀ v, v < N -> S v -> (g.cm v).fr = -1) (h3 : ∀ v, v < N -> g.lf v = false) (hU : ∀ v, v < N -> S v -> p v <= U) : Dj ts N t p S U g (fun _ => 0) := by
 have hc : cnB g.lf N = 0 := by
  have : ∀ k, k <= N -> cnB g.lf k = 0 := by
   intro k
   induction k with
   | zero => intro _; rfl
   | succ k ih =>
    intro hk;show cnB g.lf k + (if g.lf k = true then 1 else 0) = 0;rw [ih (by omega), h3 k (by omega)]; rfl
  exact this N (Nat.le_refl _)
 refine ⟨fun v hv s => ⟨by rw [h1 v hv, if_pos s], h2 v hv s⟩, fun v hv => ?_, fun v hv => ?_, fun v hv hf => ?_, fun v hv hl => ?_, fun v hv hl => ?_, fun u v hu hv hl => ?_, fun u hu hl => ?_⟩
 ·rw [h1 v hv]; split <;> decide
 ·rw [h1 v hv, hc]
  by_cases s : S v
  ·rw [if_pos s]; have := hU v hv s; exact .inr (by omega)
  ·rw [if_neg s]; exact .inl rfl
 ·rw [h1 v hv] at hf
  by_cases s : S v
  ·exact .inl s
  ·rw [if_neg s] at hf; exact absurd rfl hf
 ·rw [h3 v hv] at hl; cases hl
 ·rw [h3 v hv] at hl; cases hl
 ·rw [h3 u hu] at hl; cases hl
 ·rw [h3 u hu] at hl; cases hl
def ptN (p : Nat -> Int) (g : Tp) (v0 : Nat) (v : Nat) : Int := p v + min (g.pr v) (g.pr v0)
theorem ptN_st {ts : List (List Int)} {N : Nat} {t p : Nat -> Int} {S : Nat -> Prop} {U : Int} {g : Tp} {v0 : Nat} {rk : Nat -> Nat} (k : Kpt ts N t p) (hj : Dj ts N t p S U g rk) (hv : v0 < N) (hv2 : g.lf v0 = false) (hmin : ∀ v, v < N -> g.lf v = false -> g.pr v0 <= g.pr v) : Kpt ts N t (ptN p g v0) := by
 have low : ∀ u, u < N -> g.lf u = true -> g.pr u <= g.pr v0 := fun u hu hl => hj.ord u v0 hu hv hl hv2
 have fwd : ∀ i, i < ts.length -> ptN p g v0 (lb ts i) <= ptN p g v0 (la ts i) + lw ts i := fun i hi => by
  obtain ⟨a1, a2, _⟩ := k.lg i hi;have h1 := k.st i hi;unfold ptN;cases e : g.lf (la ts i) with
  | true =>
   have h2 := (hj.rel _ a1 e i hi).1 rfl;have h3 := low _ a1 e;omega
  | false =>
   have h2 := hmin _ a1 e;omega
 have bck : ∀ i, i < ts.length -> 0 < t i -> ptN p g v0 (la ts i) <= ptN p g v0 (lb ts i) - lw ts i := fun i hi ht => by
  obtain ⟨a1, a2, _⟩ := k.lg i hi;have h1 := k.ti i hi ht;unfold ptN;cases e : g.lf (lb ts i) with
  | true =>
   have h2 := (hj.rel _ a2 e i hi).2 rfl ht;have h3 := low _ a2 e;omega
  | false =>
   have h2 := hmin _ a2 e;omega
 exact ⟨k.lg, k.nn, fwd, fun i hi ht => by have := fwd i hi; have := bck i hi ht; omega⟩
def chn (g : Tp) (v0 : Nat) : Nat -> Nat
 | 0 => v0
 | j + 1 => (g.cm (chn g v0 j)).fr.toNat
structure Wy (ts : List (List Int)) (N : Nat) (t p : Nat -> Int) (S : Nat -> Prop) (g : Tp) (v0 : Nat) (rk : Nat -> Nat) (w : Nat) : Prop where
 lt : ∀ j, j <= w -> chn g v0 j < N
 fin : ∀ j, j <= w -> ¬ g.pr (chn g v0 j) = 1000000000
 lf : ∀ j, 0 < j -> j <= w -> g.lf (chn g v0 j) = true
 rs : ∀ j, j < w -> Rs ts t (chn g v0 (j + 1)) (g.cm (chn g v0 j)) /\ (g.cm (chn g v0 j)).to = chn g v0 j /\ g.pr (chn g v0 j) = g.pr (chn g v0 (j + 1)) + (g.cm (chn g v0 j)).ms + p (chn g v0 (j + 1)) - p (chn g v0 j)
 rk : ∀ j, j < w -> W2 rk v0 (cnB g.lf N) (chn g v0 (j + 1)) < W2 rk v0 (cnB g.lf N) (chn g v0 j)
theorem Wy.zero {ts : List (List Int)} {N : Nat} {t p : Nat -> Int} {S : Nat -> Prop} {g : Tp} {v0 : Nat} {rk : Nat -> Nat} (hv : v0 < N) (hf : ¬ g.pr v0 = 1000000000) : Wy ts N t p S g v0 rk 0 := by
 refine ⟨fun j hj => ?_, fun j hj => ?_, fun j h1 h2 => by omega, fun j hj => absurd hj (Nat.not_lt_zero j), fun j hj => absurd hj (Nat.not_lt_zero j)⟩
 ·rw [show j = 0 by omega]; exact hv
 ·rw [show j = 0 by omega]; exact hf
theorem Wy.rank {ts : List (List Int)} {N : Nat} {t p : Nat -> Int} {S : Nat -> Prop} {g : Tp} {v0 : Nat} {rk : Nat -> Nat} {w : Nat} (h : Wy ts N t p S g v0 rk w) : ∀ {j : Nat}, j <= w -> W2 rk v0 (cnB g.lf N) (chn g v0 j) + j <= cnB g.lf N
 | 0, _ => by show W2 rk v0 (cnB g.lf N) v0 + 0 <= _; rw [V2]; exact Nat.le_refl _
 | j + 1, hj => by
  have := h.rank (j := j) (by omega);have := h.rk j (by omega);omega
theorem Wy.next {ts : List (List Int)} {N : Nat} {t p : Nat -> Int} {S : Nat -> Prop} {U : Int} {g : Tp} {v0 : Nat} {rk : Nat -> Nat} {w : Nat} (hj : Dj ts N t p S U g rk) (hv2 : g.lf v0 = false) (h : Wy ts N t p S g v0 rk w) (hn : ¬ (g.cm (chn g v0 w)).fr = -1) : Wy ts N t p S g v0 rk (w + 1) := by
 have hlt := h.lt w (Nat.le_refl _);have hnS : ¬ S (chn g v0 w) := fun s => hn (hj.src _ hlt s).2
 obtain ⟨u, u1, u2, u3, u4, u5, u6⟩ := (hj.cam _ hlt (h.fin w (Nat.le_refl _))).resolve_left hnS;have e : chn g v0 (w + 1) = u := by
  show (g.cm (chn g v0 w)).fr.toNat = u;rw [u3.fr, Int.toNat_natCast]
 have hu : u ≠ v0 := fun q => by rw [q, hv2] at u2; cases u2
 refine ⟨fun j hj' => ?_, fun j hj' => ?_, fun j h1 h2 => ?_, fun j hj' => ?_, fun j hj' => ?_⟩
 ·by_cases q : j = w + 1
  ·rw [q, e]; exact u1
  ·exact h.lt j (by omega)
 ·by_cases q : j = w + 1
  ·rw [q, e]; exact hj.fin u u1 u2
  ·exact h.fin j (by omega)
 ·by_cases q : j = w + 1
  ·rw [q, e]; exact u2
  ·exact h.lf j h1 (by omega)
 ·by_cases q : j = w
  ·rw [q, e]; exact ⟨u3, u4, u5⟩
  ·exact h.rs j (by omega)
 ·by_cases q : j = w
  ·rw [q, e, V0 hu]
   by_cases z : w = 0
   ·rw [z]
    show rk u < W2 rk v0 _ v0;rw [V2]; exact hj.rkc u u1 u2
   ·have hl := h.lf w (by omega) (Nat.le_refl _)
    have hc : chn g v0 w ≠ v0 := fun q => by rw [q, hv2] at hl; cases hl
    rw [V0 hc]; exact u6 hl
  ·exact h.rk j (by omega)
def stp' (g : Tp) (v0 L m : Nat) : Cm := g.cm (chn g v0 (L - 1 - m))
def twT (t : Nat -> Int) (n : Int) (σ : Nat -> Cm) : Nat -> Nat -> Int
 | 0 => t
 | m + 1 => W2 (twT t n σ m) (σ m).lim (if (σ m).bk = true then twT t n σ m (σ m).lim - n else twT t n σ m (σ m).lim + n)
theorem net_upd {ts : List (List Int)} {t : Nat -> Int} {i v : Nat} {d : Int} : ∀ {k : Nat}, net ts (W2 t i (t i + d)) k v = net ts t k v + (if i < k then (if lb ts i = v then d else 0) - (if la ts i = v then d else 0) else 0)
 | 0 => by show (0 : Int) = 0 + _; rw [if_neg (Nat.not_lt_zero _)]; rfl
 | k + 1 => by
  have ih := net_upd (ts := ts) (t := t) (i := i) (v := v) (d := d) (k := k);show net ts (W2 t i (t i + d)) k v + ((if lb ts k = v then W2 t i (t i + d) k else 0) - (if la ts k = v then W2 t i (t i + d) k else 0)) = net ts t k v + ((if lb ts k = v then t k else 0) - (if la ts k = v then t k else 0)) + _;rw [ih];by_cases q : k = i
  ·subst q
   rw [V2, if_neg (Nat.lt_irrefl _), if_pos (Nat.lt_succ_self _)];by_cases c1 : lb ts k = v
   ·by_cases c2 : la ts k = v
    ·simp only [if_pos c1, if_pos c2]; omega
    ·simp only [if_pos c1, if_neg c2]; omega
   ·by_cases c2 : la ts k = v
    ·simp only [if_neg c1, if_pos c2]; omega
    ·simp only [if_neg c1, if_neg c2]; omega
  ·rw [V0 q]
   by_cases c : i < k
   ·rw [if_pos c, if_pos (show i < k + 1 by omega)]; omega
   ·rw [if_neg c, if_neg (show ¬ i < k + 1 by omega)]; omega
theorem tw_net {ts : List (List Int)} {N : Nat} {t p : Nat -> Int} {S : Nat -> Prop} {g : Tp} {v0 : Nat} {rk : Nat -> Nat} {L : Nat} {n : Int} (h : Wy ts N t p S g v0 rk L) {v : Nat} : ∀ {m : Nat}, m <= L -> net ts (twT t n (stp' g v0 L) m) ts.length v = net ts t ts.length v + ((if chn g v0 (L - m) = v then n else 0) - (if chn g v0 L = v then n else 0))
 | 0, _ => by
  show net ts t ts.length v = _;rw [Nat.sub_zero]; omega
 | m + 1, hm => by
  have ih := tw_net h (n := n) (v := v) (m := m) (by omega);obtain ⟨r1, r2, r3⟩ := h.rs (L - 1 - m) (by omega);rw [show L - 1 - m + 1 = L - m by omega] at r1;have e : chn g v0 (L - (m + 1)) = chn g v0 (L - 1 - m) := by congr 1; omega
  rw [e];have hlt := r1.lt;rcases r1.wh with ⟨w0, w1, w2, w3⟩ | ⟨w0, w1, w2, w3, w4⟩
  ·have e2 : twT t n (stp' g v0 L) (m + 1) = W2 (twT t n (stp' g v0 L) m) (stp' g v0 L m).lim (twT t n (stp' g v0 L) m (stp' g v0 L m).lim + n) := by
    show W2 _ _ (if (stp' g v0 L m).bk = true then _ else _) = _;rw [if_neg (by show ¬ (g.cm (chn g v0 (L - 1 - m))).bk = true; rw [w0]; decide)]
   rw [e2, net_upd, ih];have hlt' : (stp' g v0 L m).lim < ts.length := hlt;rw [if_pos hlt'];have a1 : la ts (stp' g v0 L m).lim = chn g v0 (L - m) := w1;have a2 : lb ts (stp' g v0 L m).lim = chn g v0 (L - 1 - m) := w2.symm.trans r2;rw [a1, a2];omega
  ·have e2 : twT t n (stp' g v0 L) (m + 1) = W2 (twT t n (stp' g v0 L) m) (stp' g v0 L m).lim (twT t n (stp' g v0 L) m (stp' g v0 L m).lim + -n) := by
    show W2 _ _ (if (stp' g v0 L m).bk = true then _ else _) = _;rw [if_pos (show (stp' g v0 L m).bk = true from w0)]; rfl
   rw [e2, net_upd, ih];have hlt' : (stp' g v0 L m).lim < ts.length := hlt;rw [if_pos hlt'];have a1 : lb ts (stp' g v0 L m).lim = chn g v0 (L - m) := w1;have a2 : la ts (stp' g v0 L m).lim = chn g v0 (L - 1 - m) := w2.symm.trans r2;rw [a1, a2];by_cases c1 : chn g v0 (L - m) = v
   ·by_cases c2 : chn g v0 (L - 1 - m) = v
    ·simp only [if_pos c1, if_pos c2]; omega
    ·simp only [if_pos c1, if_neg c2]; omega
   ·by_cases c2 : chn g v0 (L - 1 - m) = v
    ·simp only [if_neg c1, if_pos c2]; omega
    ·simp only [if_neg c1, if_neg c2]; omega
theorem tw_or {t : Nat -> Int} {n : Int} {σ : Nat -> Cm} {i : Nat} : ∀ {m : Nat}, twT t n σ m i = t i ∨ ∃ j, j < m /\ (σ j).lim = i
 | 0 => .inl rfl
 | m + 1 => by
  rcases tw_or (t := t) (n := n) (σ := σ) (i := i) (m := m) with h | ⟨j, h1, h2⟩
  ·by_cases q : i = (σ m).lim
   ·exact .inr ⟨m, by omega, q.symm⟩
   ·refine .inl ?_
    show W2 _ _ _ i = _;rw [V0 q]; exact h
  ·exact .inr ⟨j, by omega, h2⟩
theorem Wy.inj {ts : List (List Int)} {N : Nat} {t p : Nat -> Int} {S : Nat -> Prop} {g : Tp} {v0 : Nat} {rk : Nat -> Nat} {w : Nat} (h : Wy ts N t p S g v0 rk w) {i j : Nat} (hi : i <= w) (hj : j <= w) (e : chn g v0 i = chn g v0 j) : i = j := by
 have key : ∀ d i, i + (d + 1) <= w -> W2 rk v0 (cnB g.lf N) (chn g v0 (i + (d + 1))) < W2 rk v0 (cnB g.lf N) (chn g v0 i) := by
  intro d
  induction d with
  | zero => intro i hi; exact h.rk i (by omega)
  | succ d ih =>
   intro i hi;have h1 := ih i (by omega);have h2 := h.rk (i + (d + 1)) (by omega);rw [show i + (d + 1 + 1) = i + (d + 1) + 1 by omega];omega
 refine Classical.byContradiction (fun q => ?_);rcases Nat.lt_or_ge i j with c | c
 ·have := key (j - i - 1) i (by omega)
  rw [show i + (j - i - 1 + 1) = j by omega, e] at this;omega
 ·have := key (i - j - 1) j (by omega)
  rw [show j + (i - j - 1 + 1) = i by omega, e] at this;omega
theorem tw_nn {ts : List (List Int)} {N : Nat} {t p : Nat -> Int} {S : Nat -> Prop} {g : Tp} {v0 : Nat} {rk : Nat -> Nat} {L : Nat} {n : Int} (k : Kpt ts N t p) (h : Wy ts N t p S g v0 rk L) (hn : 0 <= n) (hb : ∀ m, m < L -> (stp' g v0 L m).bk = true -> n <= t (stp' g v0 L m).lim) : ∀ {m : Nat}, m <= L -> (∀ i, i < ts.length -> 0 <= twT t n (stp' g v0 L) m i) /\ ∀ j, m <= j -> j < L -> (stp' g v0 L j).bk = true -> n <= twT t n (stp' g v0 L) m (stp' g v0 L j).lim
 | 0, _ => ⟨k.nn, fun j _ hj hk => hb j hj hk⟩
 | m + 1, hm => by
  obtain ⟨i1, i2⟩ := tw_nn k h hn hb (m := m) (by omega);refine ⟨fun i hi => ?_, fun j hj hj2 hk => ?_⟩
  ·show 0 <= W2 _ _ _ i
   by_cases q : i = (stp' g v0 L m).lim
   ·rw [q, V2]
    have h1 := i1 i hi;rw [q] at h1;by_cases c : (stp' g v0 L m).bk = true
    ·rw [if_pos c]; have := i2 m (Nat.le_refl _) (by omega) c; omega
    ·rw [if_neg c]; omega
   ·rw [V0 q]; exact i1 i hi
  ·show n <= W2 _ _ _ (stp' g v0 L j).lim
   have h2 := i2 j (by omega) hj2 hk;by_cases q : (stp' g v0 L j).lim = (stp' g v0 L m).lim
   ·rw [q, V2]
    rw [q] at h2;by_cases c : (stp' g v0 L m).bk = true
    ·obtain ⟨r1, r2, _⟩ := h.rs (L - 1 - m) (by omega)
     obtain ⟨s1, s2, _⟩ := h.rs (L - 1 - j) (by omega);have a1 := (r1.wh.resolve_left (fun z => by have : (stp' g v0 L m).bk = false := z.1; rw [this] at c; cases c)).2.2.1;have a2 := (s1.wh.resolve_left (fun z => by have : (stp' g v0 L j).bk = false := z.1; rw [this] at hk; cases hk)).2.2.1;rw [r2] at a1;rw [s2] at a2;have a3 : la ts (g.cm (chn g v0 (L - 1 - j))).lim = la ts (g.cm (chn g v0 (L - 1 - m))).lim := congrArg (la ts) q;have := h.inj (i := L - 1 - m) (j := L - 1 - j) (by omega) (by omega) (by rw [a1, a2]; exact a3.symm);omega
    ·rw [if_neg c]; omega
   ·rw [V0 q]; exact h2
theorem tw_sum {ts : List (List Int)} {t : Nat -> Int} {n : Int} {σ : Nat -> Cm} {K : Nat} (hn : 0 <= n) : ∀ {m : Nat}, (∀ j, j < m -> (σ j).lim < K) -> tot (twT t n σ m) K <= tot t K + n * (m : Int)
 | 0, _ => by show tot t K <= tot t K + n * 0; omega
 | m + 1, h => by
  have ih := tw_sum (ts := ts) (t := t) (σ := σ) hn (m := m) (fun j hj => h j (by omega));have hl := h m (by omega);show tot (W2 _ _ _) K <= _;rw [tot_upd hl, Int.natCast_add, Int.mul_add];split
  ·show _ + (_ - n - _) <= _ + (_ + n * 1); omega
  ·show _ + (_ + n - _) <= _ + (_ + n * 1); omega
theorem tw_dv {t : Nat -> Int} {n d : Int} {σ : Nat -> Cm} {K : Nat} (hn : d ∣ n) (ht : ∀ i, i < K -> d ∣ t i) : ∀ {m : Nat}, ∀ i, i < K -> d ∣ twT t n σ m i
 | 0, i, hi => ht i hi
 | m + 1, i, hi => by
  have ih := tw_dv hn ht (σ := σ) (m := m);show d ∣ W2 _ _ _ i;by_cases q : i = (σ m).lim
  ·rw [q, V2]
   have h1 := ih i hi;rw [q] at h1;split
   ·exact Int.dvd_sub h1 hn
   ·exact Int.dvd_add h1 hn
  ·rw [V0 q]; exact ih i hi
theorem way_ti {ts : List (List Int)} {N : Nat} {t p : Nat -> Int} {S : Nat -> Prop} {U : Int} {g : Tp} {v0 : Nat} {rk : Nat -> Nat} {L : Nat} (hj : Dj ts N t p S U g rk) (hv : v0 < N) (hv2 : g.lf v0 = false) (h : Wy ts N t p S g v0 rk L) {j : Nat} (hjL : j < L) : ptN p g v0 (lb ts (stp' g v0 L j).lim) = ptN p g v0 (la ts (stp' g v0 L j).lim) + lw ts (stp' g v0 L j).lim := by
 obtain ⟨r1, r2, r3⟩ := h.rs (L - 1 - j) (by omega);have low : ∀ i, i <= L -> g.pr (chn g v0 i) <= g.pr v0 := fun i hi => by
  by_cases z : i = 0
  ·rw [z]; exact Int.le_refl _
  ·exact hj.ord _ v0 (h.lt i hi) hv (h.lf i (by omega) hi) hv2
 have l1 := low (L - 1 - j) (by omega);have l2 := low (L - 1 - j + 1) (by omega);unfold ptN;rcases r1.wh with ⟨_, w1, w2, w3⟩ | ⟨_, w1, w2, w3, _⟩
 ·have a1 : la ts (stp' g v0 L j).lim = chn g v0 (L - 1 - j + 1) := w1
  have a2 : lb ts (stp' g v0 L j).lim = chn g v0 (L - 1 - j) := w2.symm.trans r2;have a3 : lw ts (stp' g v0 L j).lim = (g.cm (chn g v0 (L - 1 - j))).ms := w3.symm;rw [a1, a2, a3]; omega
 ·have a1 : lb ts (stp' g v0 L j).lim = chn g v0 (L - 1 - j + 1) := w1
  have a2 : la ts (stp' g v0 L j).lim = chn g v0 (L - 1 - j) := w2.symm.trans r2;have a3 : (g.cm (chn g v0 (L - 1 - j))).ms = -(lw ts (stp' g v0 L j).lim) := w3;rw [a1, a2]; omega
def dueN (due : Nat -> Int) (a b : Nat) (n : Int) : Nat -> Int := W2 (W2 due a (due a + n)) b (W2 due a (due a + n) b - n)
theorem moved_ld {ts : List (List Int)} {N : Nat} {t p w due : Nat -> Int} {S : Nat -> Prop} {U : Int} {g : Tp} {v0 : Nat} {rk : Nat -> Nat} {L : Nat} {n : Int} (k : Kpt ts N t p) (hl : Ld ts N w due t p) (hj : Dj ts N t p S U g rk) (hv : v0 < N) (hv2 : g.lf v0 = false) (hmin : ∀ v, v < N -> g.lf v = false -> g.pr v0 <= g.pr v) (h : Wy ts N t p S g v0 rk L) (hn : 0 <= n) (hb : ∀ m, m < L -> (stp' g v0 L m).bk = true -> n <= t (stp' g v0 L m).lim) (hne : chn g v0 L ≠ v0) :
 Ld ts N w (dueN due (chn g v0 L) v0 n) (twT t n (stp' g v0 L) L) (ptN p g v0) /\ Kpt ts N (twT t n (stp' g v0 L) L) (ptN p g v0) := by
 have k2 := ptN_st k hj hv hv2 hmin;have hnn := (tw_nn k h hn hb (Nat.le_refl L)).1;have hti : ∀ i, i < ts.length -> 0 < twT t n (stp' g v0 L) L i -> ptN p g v0 (lb ts i) = ptN p g v0 (la ts i) + lw ts i := fun i hi hp => by
  rcases tw_or (t := t) (n := n) (σ := stp' g v0 L) (i := i) (m := L) with e | ⟨j, j1, j2⟩
  ·rw [e] at hp; exact k2.ti i hi hp
  ·rw [<- j2]; exact way_ti hj hv hv2 h j1
 refine ⟨⟨hnn, fun v hv' => ?_, k2.st, hti⟩, ⟨k.lg, hnn, k2.st, hti⟩⟩;rw [tw_net h (Nat.le_refl L), hl.nt v hv', Nat.sub_self];show w v - due v + ((if v0 = v then n else 0) - (if chn g v0 L = v then n else 0)) = w v - W2 _ _ _ v;by_cases c1 : v = v0
 ·subst c1
  rw [V2, V0 (fun e => hne e.symm), if_pos rfl, if_neg hne]; omega
 ·rw [V0 c1, if_neg (fun e => c1 e.symm)]
  by_cases c2 : v = chn g v0 L
  ·rw [c2, V2, if_pos rfl]; omega
  ·rw [V0 c2, if_neg (fun e => c2 e.symm)]; omega
section
variable {X : FuncId -> List Value -> St -> (Value -> St -> Bool) -> Bool}
end
def posS (d : Nat -> Int) (N : Nat) : Int := tot (fun v => max (d v) 0) N
theorem dueN_at {due : Nat -> Int} {a b v : Nat} {n : Int} (hab : a ≠ b) : dueN due a b n v = due v + (if a = v then n else 0) - (if b = v then n else 0) := by
 unfold dueN;by_cases c1 : v = b
 ·subst c1
  rw [V2, V0 (fun e => hab e.symm), if_neg hab, if_pos rfl]; omega
 ·rw [V0 c1, if_neg (show ¬ b = v from fun e => c1 e.symm)]
  by_cases c2 : v = a
  ·subst c2; rw [V2, if_pos rfl]; omega
  ·rw [V0 c2, if_neg (show ¬ a = v from fun e => c2 e.symm)]; omega
theorem dueN_tot {due : Nat -> Int} {a b N : Nat} {n : Int} (hab : a ≠ b) (ha : a < N) (hb : b < N) : tot (dueN due a b n) N = tot due N := by
 rw [U6 (fun v _ => dueN_at hab), tot_sub, tot_add, tot_one (c := fun _ => n) ha, tot_one (c := fun _ => n) hb]; omega
theorem dueN_pos {due : Nat -> Int} {a b N : Nat} {n : Int} (hab : a ≠ b) (hb : b < N) (hn : 0 <= n) (h1 : due a + n <= 0) (h2 : n <= due b) : posS (dueN due a b n) N = posS due N - n := by
 unfold posS;have e : ∀ v, v < N -> max (dueN due a b n v) 0 = max (due v) 0 - (if b = v then n else 0) := fun v _ => by
  rw [dueN_at hab];by_cases c1 : b = v
  ·subst c1; rw [if_pos rfl, if_neg hab]; omega
  ·rw [if_neg c1]
   by_cases c2 : a = v
   ·subst c2; rw [if_pos rfl]; omega
   ·rw [if_neg c2]; omega
 rw [U6 e, tot_sub, tot_one (c := fun _ => n) hb]
theorem Wy.dn {ts : List (List Int)} {N : Nat} {t p : Nat -> Int} {S : Nat -> Prop} {g : Tp} {v0 : Nat} {rk : Nat -> Nat} {w : Nat} (h : Wy ts N t p S g v0 rk w) : ∀ {d a : Nat}, a + d + 1 <= w -> W2 rk v0 (cnB g.lf N) (chn g v0 (a + d + 1)) < W2 rk v0 (cnB g.lf N) (chn g v0 a)
 | 0, a, hw => h.rk a (by omega)
 | d + 1, a, hw => by
  have h1 := Wy.dn h (d := d) (a := a) (by omega);have h2 := h.rk (a + d + 1) (by omega);have h3 : W2 rk v0 (cnB g.lf N) (chn g v0 (a + (d + 1) + 1)) < W2 rk v0 (cnB g.lf N) (chn g v0 (a + d + 1)) := h2;omega
theorem Wy.ne {ts : List (List Int)} {N : Nat} {t p : Nat -> Int} {S : Nat -> Prop} {g : Tp} {v0 : Nat} {rk : Nat -> Nat} {w a b : Nat} (h : Wy ts N t p S g v0 rk w) (hab : a < b) (hb : b <= w) : chn g v0 a ≠ chn g v0 b := fun e => by
 have h1 := h.dn (d := b - a - 1) (a := a) (by omega);rw [show a + (b - a - 1) + 1 = b by omega, e] at h1;exact absurd h1 (Nat.lt_irrefl _)
theorem Wy.ends {ts : List (List Int)} {N : Nat} {t p : Nat -> Int} {S : Nat -> Prop} {g : Tp} {v0 : Nat} {rk : Nat -> Nat} {w j : Nat} (h : Wy ts N t p S g v0 rk w) (hj : j < w) : (la ts (g.cm (chn g v0 j)).lim = chn g v0 j /\ lb ts (g.cm (chn g v0 j)).lim = chn g v0 (j + 1)) ∨ (lb ts (g.cm (chn g v0 j)).lim = chn g v0 j /\ la ts (g.cm (chn g v0 j)).lim = chn g v0 (j + 1)) := by
 obtain ⟨r1, r2, _⟩ := h.rs j hj;rcases r1.wh with ⟨_, w1, w2, _⟩ | ⟨_, w1, w2, _⟩
 ·exact .inr ⟨w2.symm.trans r2, w1⟩
 ·exact .inl ⟨w2.symm.trans r2, w1⟩
theorem Wy.lims {ts : List (List Int)} {N : Nat} {t p : Nat -> Int} {S : Nat -> Prop} {g : Tp} {v0 : Nat} {rk : Nat -> Nat} {w : Nat} (h : Wy ts N t p S g v0 rk w) {a b : Nat} (hab : a < b) (hb : b < w) : (g.cm (chn g v0 a)).lim ≠ (g.cm (chn g v0 b)).lim := fun e => by
 have h1 := h.ends (j := a) (by omega);have h2 := h.ends hb;rw [<- e] at h2;have n1 := h.ne hab (by omega);have n2 := h.ne (show a < b + 1 by omega) (by omega);rcases h1 with ⟨p1, _⟩ | ⟨p1, _⟩ <;> rcases h2 with ⟨q1, q2⟩ | ⟨q1, q2⟩
 ·exact n1 (p1.symm.trans q1)
 ·exact n2 (p1.symm.trans q2)
 ·exact n2 (p1.symm.trans q2)
 ·exact n1 (p1.symm.trans q1)
theorem tw_one {t : Nat -> Int} {n : Int} {σ : Nat -> Cm} {L i : Nat} (hd : ∀ a b, a < b -> b < L -> (σ a).lim ≠ (σ b).lim) (hn : 0 <= n) : ∀ {m : Nat}, m <= L -> twT t n σ m i <= t i + n /\ ((∀ a, a < m -> (σ a).lim ≠ i) -> twT t n σ m i = t i)
 | 0, _ => ⟨by show t i <= _; omega, fun _ => rfl⟩
 | m + 1, hm => by
  obtain ⟨h1, h2⟩ := tw_one hd hn (m := m) (by omega) (t := t) (i := i);show W2 _ _ _ i <= _ /\ (_ -> W2 _ _ _ i = _);by_cases e : i = (σ m).lim
  ·have h3 := h2 (fun a ha q => hd a m ha (by omega) (q.trans e))
   rw [e, V2];rw [e] at h3;refine ⟨?_, fun q => absurd rfl (q m (by omega))⟩;split <;> omega
  ·rw [V0 e]
   exact ⟨h1, fun q => h2 (fun a ha => q a (by omega))⟩
theorem Wy.stp {ts : List (List Int)} {N : Nat} {t p : Nat -> Int} {S : Nat -> Prop} {g : Tp} {v0 : Nat} {rk : Nat -> Nat} {L : Nat} (h : Wy ts N t p S g v0 rk L) : ∀ a b, a < b -> b < L -> (stp' g v0 L a).lim ≠ (stp' g v0 L b).lim := fun a b hab hb e => h.lims (a := L - 1 - b) (b := L - 1 - a) (by omega) (by omega) e.symm
structure Lv (ls : List (List Int)) (M : Nat) (w due t p : Nat -> Int) (P base : Int) : Prop where
 ld : Ld (ls ++ W1 M) (M + 1) w due t p
 dv : ∀ i, i < (ls ++ W1 M).length -> P ∣ t i
 sm : tot due (M + 1) = 0
 tm : tot t (ls ++ W1 M).length + 64 * posS due (M + 1) <= 230400000000000
 ps : ∀ v, v < M + 1 -> due v <= -P -> p v <= base
 pu : ∀ v, v < M + 1 -> p v <= base + 2560002
 pl : ∀ v, v < M + 1 -> -1300000 <= p v
 te : ∀ i, i < (ls ++ W1 M).length -> t i + posS due (M + 1) <= 3600000000000
theorem kpt_of {ls : List (List Int)} {M : Nat} {w due t p : Nat -> Int} (hl : lmB (M : Int) ls = true) (h : Ld (ls ++ W1 M) (M + 1) w due t p) : Kpt (ls ++ W1 M) (M + 1) t p :=
 ⟨fun i hi => by obtain ⟨a, b, c, d, e, _⟩ := lg_tl hl i hi; exact ⟨a, b, c, d, e⟩, h.nn, h.st, h.ti⟩
theorem near_all {ls : List (List Int)} {M : Nat} {t p : Nat -> Int} (k : Kpt (ls ++ W1 M) (M + 1) t p) : ∀ v, v < M + 1 -> p v <= p 0 + 1280001 /\ p 0 <= p v + 1280001 := fun v hv => by
 by_cases z : v = 0
 ·rw [z]; omega
 ·have hlen : (ls ++ W1 M).length = ls.length + 2 * M := by rw [List.length_append, toll_len]
  obtain ⟨t1, t2⟩ := tl_up (ls := ls) (show v - 1 < M by omega);obtain ⟨a1, a2, a3⟩ := fld t1;obtain ⟨b1, b2, b3⟩ := fld t2;have h1 := k.st (ls.length + 2 * (v - 1)) (by omega);have h2 := k.st (ls.length + 2 * (v - 1) + 1) (by omega);rw [a1, a2, a3, show v - 1 + 1 = v by omega] at h1;rw [b1, b2, b3, show v - 1 + 1 = v by omega] at h2;omega
theorem near_two {ls : List (List Int)} {M : Nat} {t p : Nat -> Int} (k : Kpt (ls ++ W1 M) (M + 1) t p) {u v : Nat} (hu : u < M + 1) (hv : v < M + 1) : p v <= p u + 2560002 := by
 have h1 := near_all k u hu;have h2 := near_all k v hv;omega
def nmV (t : Nat -> Int) (σ : Nat -> Cm) (z : Int) : Nat -> Int
 | 0 => z
 | m + 1 => if (σ m).bk = true then min (nmV t σ z m) (t (σ m).lim) else nmV t σ z m
theorem nm_le {t : Nat -> Int} {σ : Nat -> Cm} {z : Int} : ∀ {m : Nat}, nmV t σ z m <= z /\ ∀ j, j < m -> (σ j).bk = true -> nmV t σ z m <= t (σ j).lim
 | 0 => ⟨Int.le_refl _, fun j hj => absurd hj (Nat.not_lt_zero j)⟩
 | m + 1 => by
  obtain ⟨h1, h2⟩ := nm_le (t := t) (σ := σ) (z := z) (m := m);show (if (σ m).bk = true then min (nmV t σ z m) (t (σ m).lim) else nmV t σ z m) <= z /\ ∀ j, j < m + 1 -> (σ j).bk = true -> (if (σ m).bk = true then min (nmV t σ z m) (t (σ m).lim) else nmV t σ z m) <= t (σ j).lim;by_cases c : (σ m).bk = true
  ·rw [if_pos c]
   refine ⟨by omega, fun j hj hb => ?_⟩;by_cases e : j = m
   ·rw [e]; omega
   ·have := h2 j (by omega) hb; omega
  ·rw [if_neg c]
   refine ⟨h1, fun j hj hb => ?_⟩;by_cases e : j = m
   ·rw [e] at hb; exact absurd hb c
   ·exact h2 j (by omega) hb
theorem nm_ge {t : Nat -> Int} {σ : Nat -> Cm} {z P : Int} (hz : P <= z) : ∀ {m : Nat}, (∀ j, j < m -> (σ j).bk = true -> P <= t (σ j).lim) -> P <= nmV t σ z m
 | 0, _ => hz
 | m + 1, h => by
  have ih := nm_ge hz (t := t) (σ := σ) (m := m) (fun j hj => h j (by omega));show P <= (if (σ m).bk = true then min (nmV t σ z m) (t (σ m).lim) else nmV t σ z m);split
  ·have := h m (by omega) (by assumption); omega
  ·exact ih
def mvV (x P : Int) : Int := x - x.tmod P
theorem mv_bd {x P : Int} (hP : 0 < P) (hx : P <= x) : P ∣ mvV x P /\ P <= mvV x P /\ mvV x P <= x := by
 unfold mvV;have h1 : 0 <= x.tmod P := Int.tmod_nonneg P (by omega);have h2 : x.tmod P < P := Int.tmod_lt_of_pos x hP;have h3 := Int.mul_tdiv_add_tmod x P;have hd : P ∣ x - x.tmod P := ⟨x.tdiv P, by omega⟩;refine ⟨hd, ?_, by omega⟩;exact Int.le_of_dvd (by omega) hd
theorem posS_nn {d : Nat -> Int} {N : Nat} : 0 <= posS d N := tot_nn (fun v _ => by show 0 <= max (d v) 0; omega)
theorem Lv.move {ls : List (List Int)} {M : Nat} {w due t p : Nat -> Int} {P base : Int} {g : Tp} {v0 : Nat} {rk : Nat -> Nat} {L : Nat} {U : Int} (hl : lmB (M : Int) ls = true) (hM : M <= 64) (hP : 0 < P) (h : Lv ls M w due t p P base) (hj : Dj (ls ++ W1 M) (M + 1) t p (fun v => due v <= -P) U g rk) (hv : v0 < M + 1) (hv2 : g.lf v0 = false) (hmin : ∀ v, v < M + 1 -> g.lf v = false -> g.pr v0 <= g.pr v) (hd : P <= due v0)
 (hw : Wy (ls ++ W1 M) (M + 1) t p (fun v => due v <= -P) g v0 rk L) (hfr : (g.cm (chn g v0 L)).fr = -1) :
 0 < L /\ L <= 64 /\ chn g v0 L ≠ v0 /\ due (chn g v0 L) <= -P /\
 P <= nmV t (stp' g v0 L) (min (-(due (chn g v0 L))) (due v0)) L /\
 Lv ls M w (dueN due (chn g v0 L) v0 (mvV (nmV t (stp' g v0 L) (min (-(due (chn g v0 L))) (due v0)) L) P)) (twT t (mvV (nmV t (stp' g v0 L) (min (-(due (chn g v0 L))) (due v0)) L) P) (stp' g v0 L) L) (ptN p g v0) P base /\
 posS (dueN due (chn g v0 L) v0 (mvV (nmV t (stp' g v0 L) (min (-(due (chn g v0 L))) (due v0)) L) P)) (M + 1) < posS due (M + 1) := by
 have k := kpt_of hl h.ld;have hlt := hw.lt L (Nat.le_refl _);have hS : due (chn g v0 L) <= -P := by
  rcases hj.cam _ hlt (hw.fin L (Nat.le_refl _)) with q | ⟨u, _, _, u3, _⟩
  ·exact q
  ·have := u3.fr; omega
 have hne : chn g v0 L ≠ v0 := fun e => by rw [e] at hS; omega
 have hL0 : 0 < L := by
  refine Nat.pos_of_ne_zero (fun z => hne ?_);rw [z]; rfl
 have hL : L <= 64 := by
  have h1 := hw.rank (Nat.le_refl L);have h2 := cnB_lt hv2 hv;omega
 have hback : ∀ m, m < L -> (stp' g v0 L m).bk = true -> P <= t (stp' g v0 L m).lim := fun m hm hb => by
  obtain ⟨r1, _, _⟩ := hw.rs (L - 1 - m) (by omega);have h4 := (r1.wh.resolve_left (fun z => by have : (stp' g v0 L m).bk = false := z.1; rw [this] at hb; cases hb)).2.2.2.2;exact Int.le_of_dvd h4 (h.dv _ r1.lt)
 have hP2 := nm_ge (t := t) (σ := stp' g v0 L) (z := min (-(due (chn g v0 L))) (due v0)) (P := P) (by omega) (m := L) hback;obtain ⟨n1, n2⟩ := nm_le (t := t) (σ := stp' g v0 L) (z := min (-(due (chn g v0 L))) (due v0)) (m := L);obtain ⟨m1, m2, m3⟩ := mv_bd hP hP2;have hps := fun n hn hn1 hn2 => dueN_pos (due := due) (a := chn g v0 L) (b := v0) (N := M + 1) (n := n) hne hv hn hn1 hn2
 refine ⟨hL0, hL, hne, hS, hP2, ?_, ?_⟩
 ·obtain ⟨l1, l2⟩ := moved_ld (L := L) (n := mvV (nmV t (stp' g v0 L) (min (-(due (chn g v0 L))) (due v0)) L) P) k h.ld hj hv hv2 hmin hw (by omega) (fun m hm hb => by have := n2 m hm hb; omega) hne
  have src : ∀ v, v < M + 1 -> due v <= -P -> ptN p g v0 v = p v := fun v hv' hs => by
   unfold ptN;have h1 := (hj.src v hv' hs).1;have h2 := hj.pos v0 hv;omega
  have hf := src _ hlt hS;have hfb := h.ps _ hlt hS;refine ⟨l1, tw_dv m1 h.dv, ?_, ?_, fun v hv' hs => ?_, fun v hv' => ?_, fun v hv' => ?_, fun i hi => ?_⟩
  ·rw [dueN_tot hne hlt hv]; exact h.sm
  ·have h1 := tw_sum (ts := ls ++ W1 M) (t := t) (n := mvV (nmV t (stp' g v0 L) (min (-(due (chn g v0 L))) (due v0)) L) P) (σ := stp' g v0 L) (K := (ls ++ W1 M).length) (by omega) (m := L) (fun j hj' => (hw.rs (L - 1 - j) (by omega)).1.lt)
   have h2 := hps (mvV (nmV t (stp' g v0 L) (min (-(due (chn g v0 L))) (due v0)) L) P) (by omega) (by omega) (by omega);rw [h2];have h3 := h.tm;have h4 := Int.mul_le_mul_of_nonneg_left (show (L : Int) <= 64 by omega) (show 0 <= mvV (nmV t (stp' g v0 L) (min (-(due (chn g v0 L))) (due v0)) L) P by omega);omega
  ·have hs' : due v <= -P := by
    rw [dueN_at hne] at hs;by_cases c1 : v0 = v
    ·subst c1; rw [if_neg hne, if_pos rfl] at hs; omega
    ·rw [if_neg c1] at hs
     split at hs <;> omega
   rw [src v hv' hs']; exact h.ps v hv' hs'
  ·have := near_two l2 hlt hv'
   omega
  ·have h1 := h.pl v hv'
   have h2 := hj.pos v hv';have h3 := hj.pos v0 hv;unfold ptN; omega
  ·have h1 := (tw_one (t := t) (n := mvV (nmV t (stp' g v0 L) (min (-(due (chn g v0 L))) (due v0)) L) P) (i := i) hw.stp (by omega) (Nat.le_refl L)).1
   have h2 := hps (mvV (nmV t (stp' g v0 L) (min (-(due (chn g v0 L))) (due v0)) L) P) (by omega) (by omega) (by omega);have h3 := h.te i hi;rw [h2]; omega
 ·rw [hps _ (by omega) (by omega) (by omega)]; omega
theorem Lv.done {ls : List (List Int)} {M : Nat} {w due t p : Nat -> Int} {base : Int} {g : Tp} {rk : Nat -> Nat} {U : Int} (hl : lmB (M : Int) ls = true) (hM : M <= 64) (h : Lv ls M w due t p 1 base) (hb : -1300000 <= base /\ base <= 100000000) (hj : Dj (ls ++ W1 M) (M + 1) t p (fun v => due v <= -1) U g rk) (hall : ∀ v, v < M + 1 -> g.lf v = false -> g.pr v = 1000000000) (hnd : ∀ v, v < M + 1 -> g.lf v = true -> due v < 1) : ∀ v, v < M + 1 -> due v = 0 := by
 have k := kpt_of hl h.ld;have hlen : (ls ++ W1 M).length = ls.length + 2 * M := by rw [List.length_append, toll_len]
 have hno : ∀ v, v < M + 1 -> ¬ due v <= -1 := fun s hs hd => by
  have near : ∀ v, v < M + 1 -> -1300000 <= p v /\ p v <= base + 2560002 := fun v hv => ⟨h.pl v hv, h.pu v hv⟩
  have vis : ∀ v, v < M + 1 -> ¬ g.pr v = 1000000000 -> g.lf v = true := fun v hv hf => by
   cases e : g.lf v with
   | true => rfl
   | false => exact absurd (hall v hv e) hf
  have p0 := (hj.src s hs hd).1;have v1 := vis s hs (by omega);have go0 : g.lf 0 = true /\ g.pr 0 <= 1280001 + base + 2560002 + 1300000 := by
   by_cases z : s = 0
   ·rw [z] at v1 p0; exact ⟨v1, by omega⟩
   ·obtain ⟨_, t2⟩ := tl_up (ls := ls) (show s - 1 < M by omega)
    obtain ⟨b1, b2, b3⟩ := fld t2;have h1 := (hj.rel s hs v1 (ls.length + 2 * (s - 1) + 1) (by omega)).1 (by rw [b1]; omega);rw [b2, b3] at h1;have n1 := near s hs;have n0 := near 0 (by omega);exact ⟨vis 0 (by omega) (by omega), by omega⟩
  have go : ∀ v, v < M + 1 -> g.lf v = true := fun v hv => by
   by_cases z : v = 0
   ·rw [z]; exact go0.1
   ·obtain ⟨t1, _⟩ := tl_up (ls := ls) (show v - 1 < M by omega)
    obtain ⟨a1, a2, a3⟩ := fld t1;have h1 := (hj.rel 0 (by omega) go0.1 (ls.length + 2 * (v - 1)) (by omega)).1 a1;rw [a2, a3, show v - 1 + 1 = v by omega] at h1;have n1 := near v hv;have n0 := near 0 (by omega);exact vis v hv (by omega)
  have le0 : ∀ v, v < M + 1 -> due v <= 0 := fun v hv => by have := hnd v hv (go v hv); omega
  have : tot due (M + 1) <= due s := by
   have h1 := tot_mem (f := fun v => -(due v)) (fun v hv => by have := le0 v hv; show 0 <= -(due v); omega) s hs;have h2 := tot_sub (f := fun _ => 0) (g := due) (N := M + 1);rw [tot_nil (f := fun _ => (0 : Int)) (fun _ _ => rfl), U6 (f := fun v => (0 : Int) - due v) (g := fun v => -(due v)) (fun v _ => by omega)] at h2;omega
  have := h.sm;omega
 intro v hv;have h1 := tot_mem (f := due) (fun v hv => by have := hno v hv; omega) v hv;have h2 := hno v hv;have h3 := h.sm;omega
theorem Lv.finer {ls : List (List Int)} {M : Nat} {w due t p : Nat -> Int} {P Q base : Int} (h : Lv ls M w due t p P base) (hQ : Q ∣ P) : Lv ls M w due t p Q (base + 2560002) :=
 ⟨h.ld, fun i hi => Int.dvd_trans hQ (h.dv i hi), h.sm, h.tm, fun v hv _ => h.pu v hv, fun v hv => by have := h.pu v hv; omega, h.pl, h.te⟩
section
variable {X : FuncId -> List Value -> St -> (Value -> St -> Bool) -> Bool}
end
def fm (f : Nat -> Value) (n : Nat) : List Value := (List.range n).map f
theorem fm_len {f : Nat -> Value} {n : Nat} : (fm f n).length = n := by simp [fm]
theorem fm_get {f : Nat -> Value} {n q : Nat} (h : q < n) : (fm f n)[q]? = some (f q) := by
 unfold fm;rw [List.getElem?_map, List.getElem?_range h]; rfl
theorem fm_none {f : Nat -> Value} {n q : Nat} (h : n <= q) : (fm f n)[q]? = none := List.getElem?_eq_none (by rw [fm_len]; exact h)
theorem fm_ext {f g : Nat -> Value} {n : Nat} (h : ∀ q, q < n -> f q = g q) : fm f n = fm g n := List.map_congr_left (fun q hq => h q (List.mem_range.1 hq))
theorem fm_set {f g : Nat -> Value} {n i : Nat} {v : Value} (h : ∀ q, q < n -> g q = if q = i then v else f q) : (fm f n).set i v = fm g n := by
 refine List.ext_getElem? (fun j => ?_);rw [List.getElem?_set];by_cases hj : j < n
 ·rw [fm_get hj, fm_get hj, fm_len, h j hj]
  by_cases e : i = j
  ·subst e; rw [if_pos rfl, if_pos hj, if_pos rfl]
  ·rw [if_neg e, if_neg (fun q => e q.symm)]
 ·rw [fm_none (by omega), fm_none (by omega), fm_len]
  split
  ·rw [if_neg (by omega)]
  ·rfl
theorem seg_of {l : List Value} : ∀ {r : List Value} {i : Nat}, (∀ t, t < r.length -> l[i + t]? = r[t]?) -> segL l i r.length = some r
 | [], _, _ => rfl
 | v :: r, i, h => by
  have h0 := h 0 (by simp);have h1 := seg_of (l := l) (r := r) (i := i + 1) (fun t ht => by
   have := h (t + 1) (by simp; omega);simpa [Nat.add_assoc, Nat.add_comm 1 t] using this)
  rw [Nat.add_zero] at h0;show segL l i (r.length + 1) = _;unfold segL;rw [h0, h1]; rfl
theorem fm_over {f g : Nat -> Value} {n i : Nat} {r : List Value} (hi : i + r.length <= n) (h : ∀ q, q < n -> some (g q) = if i <= q /\ q < i + r.length then r[q - i]? else some (f q)) : overL (fm f n) i r = some (fm g n) := by
 have hl : i + r.length <= (fm f n).length := by rw [fm_len]; exact hi
 obtain ⟨l', e⟩ := overL_some hl;rw [e];obtain ⟨e2, _⟩ := overL_eq e (by omega);subst e2
 congr 1
 refine List.ext_getElem? (fun q => ?_);rw [over_get hl];by_cases hq : q < n
 ·rw [fm_get hq, fm_get hq, h q hq]
 ·rw [fm_none (by omega), fm_none (by omega), if_neg (by omega)]
def cmV (c : Cm) : Nat -> Value
 | 0 => .int .i64 (c.lim : Int)
 | 1 => .bool c.bk
 | 2 => .int .i64 c.fr
 | 3 => .int .i64 (c.to : Int)
 | _ => .int .i64 c.ms
def cmC (c : Cm) : List Value := [.int .i64 (c.lim : Int), .bool c.bk, .int .i64 c.fr, .int .i64 (c.to : Int), .int .i64 c.ms]
theorem cmC_get {c : Cm} {t : Nat} (h : t < 5) : (cmC c)[t]? = some (cmV c t) := by
 match t, h with
 | 0, _ => rfl
 | 1, _ => rfl
 | 2, _ => rfl
 | 3, _ => rfl
 | 4, _ => rfl
def cml (σ : Nat -> Cm) (n : Nat) : List Value := fm (fun q => cmV (σ (q / 5)) (q % 5)) (n * 5)
theorem cml_len {σ : Nat -> Cm} {n : Nat} : (cml σ n).length = n * 5 := fm_len
theorem cml_get {σ : Nat -> Cm} {n j t : Nat} (hj : j < n) (ht : t < 5) : (cml σ n)[0 + j * 5 + t]? = some (cmV (σ j) t) := by
 unfold cml;rw [fm_get (by omega), show (0 + j * 5 + t) / 5 = j by omega, show (0 + j * 5 + t) % 5 = t by omega]
theorem cml_seg {σ : Nat -> Cm} {n j : Nat} (hj : j < n) : segL (cml σ n) (0 + j * 5) 5 = some (cmC (σ j)) := by
 have := seg_of (l := cml σ n) (r := cmC (σ j)) (i := 0 + j * 5) (fun t ht => by
  have ht' : t < 5 := ht;rw [cml_get hj ht', cmC_get ht'])
 exact this
theorem cml_over {σ : Nat -> Cm} {n j : Nat} {c : Cm} (hj : j < n) : overL (cml σ n) (0 + j * 5) (cmC c) = some (cml (W2 σ j c) n) := by
 refine fm_over (by show 0 + j * 5 + 5 <= n * 5; omega) (fun q hq => ?_);show some (cmV (W2 σ j c (q / 5)) (q % 5)) = if 0 + j * 5 <= q /\ q < 0 + j * 5 + 5 then (cmC c)[q - (0 + j * 5)]? else some (cmV (σ (q / 5)) (q % 5))
 by_cases e : q / 5 = j
 ·rw [if_pos (by omega), e, V2, cmC_get (by omega)]; congr 2; omega
 ·rw [if_neg (by omega), V0 e]
theorem cml_app {σ : Nat -> Cm} {n : Nat} : cml σ n ++ cmC (σ n) = cml σ (n + 1) := by
 refine List.ext_getElem? (fun q => ?_);by_cases h : q < n * 5
 ·rw [List.getElem?_append_left (by rw [cml_len]; exact h)]
  unfold cml;rw [fm_get h, fm_get (by omega)]
 ·rw [List.getElem?_append_right (by rw [cml_len]; omega), cml_len]
  by_cases h2 : q < (n + 1) * 5
  ·rw [cmC_get (by omega)]
   unfold cml;rw [fm_get h2, show q / 5 = n by omega]; congr 2; omega
  ·rw [List.getElem?_eq_none (by show 5 <= _; omega)]
   unfold cml;rw [fm_none (by omega)]
theorem cml_ext {σ τ : Nat -> Cm} {n : Nat} (h : ∀ j, j < n -> σ j = τ j) : cml σ n = cml τ n := fm_ext (fun q hq => by show cmV (σ (q / 5)) _ = cmV (τ (q / 5)) _; rw [h (q / 5) (by omega)])
def trV (g : Tp) (q : Nat) : Value := if q < 65 then .int .i64 (g.pr q) else if q < 390 then cmV (g.cm ((q - 65) / 5)) ((q - 65) % 5) else .bool (g.lf (q - 390))
def trC (g : Tp) : List Value := fm (trV g) 455
theorem trC_len {g : Tp} : (trC g).length = 455 := fm_len
theorem trV_pr {g : Tp} {q : Nat} (h : q < 65) : trV g q = .int .i64 (g.pr q) := if_pos h
theorem trV_cm {g : Tp} {q : Nat} (h : ¬ q < 65) (h2 : q < 390) : trV g q = cmV (g.cm ((q - 65) / 5)) ((q - 65) % 5) := by unfold trV; rw [if_neg h, if_pos h2]
theorem trV_lf {g : Tp} {q : Nat} (h : ¬ q < 390) : trV g q = .bool (g.lf (q - 390)) := by unfold trV; rw [if_neg (by omega), if_neg h]
theorem tr_pr {g : Tp} {j : Nat} (h : j < 65) : (trC g)[0 + 0 + j * 1]? = some (.int .i64 (g.pr j)) := by
 unfold trC;rw [fm_get (by omega), trV_pr (by omega), show 0 + 0 + j * 1 = j by omega]
theorem tr_lf {g : Tp} {j : Nat} (h : j < 65) : (trC g)[0 + 390 + j * 1]? = some (.bool (g.lf j)) := by
 unfold trC;rw [fm_get (by omega), trV_lf (by omega), show 0 + 390 + j * 1 - 390 = j by omega]
theorem tr_fr {g : Tp} {j : Nat} (h : j < 65) : (trC g)[0 + 65 + j * 5 + 2]? = some (.int .i64 (g.cm j).fr) := by
 unfold trC;rw [fm_get (by omega), trV_cm (by omega) (by omega), show (0 + 65 + j * 5 + 2 - 65) / 5 = j by omega, show (0 + 65 + j * 5 + 2 - 65) % 5 = 2 by omega]; rfl
theorem tr_cm {g : Tp} {j : Nat} (h : j < 65) : segL (trC g) (0 + 65 + j * 5) 5 = some (cmC (g.cm j)) := by
 have := seg_of (l := trC g) (r := cmC (g.cm j)) (i := 0 + 65 + j * 5) (fun t ht => by
  have ht' : t < 5 := ht;unfold trC;rw [fm_get (by omega), cmC_get ht', trV_cm (by omega) (by omega), show (0 + 65 + j * 5 + t - 65) / 5 = j by omega, show (0 + 65 + j * 5 + t - 65) % 5 = t by omega])
 exact this
theorem tr_prS {g : Tp} {j : Nat} {z : Int} (h : j < 65) : (trC g).set (0 + 0 + j * 1) (.int .i64 z) = trC ⟨W2 g.pr j z, g.cm, g.lf⟩ := fm_set (fun q hq => by
 by_cases e2 : q < 65
 ·rw [trV_pr e2, trV_pr e2]
  dsimp only;by_cases e : q = 0 + 0 + j * 1
  ·rw [if_pos e, show q = j by omega, V2]
  ·rw [if_neg e, V0 (show q ≠ j by omega)]
 ·rw [if_neg (show ¬ q = 0 + 0 + j * 1 by omega)]
  by_cases e3 : q < 390
  ·rw [trV_cm e2 e3, trV_cm e2 e3]
  ·rw [trV_lf e3, trV_lf e3])
theorem tr_lfS {g : Tp} {j : Nat} {z : Bool} (h : j < 65) : (trC g).set (0 + 390 + j * 1) (.bool z) = trC ⟨g.pr, g.cm, W2 g.lf j z⟩ := fm_set (fun q hq => by
 by_cases e2 : q < 65
 ·rw [if_neg (show ¬ q = 0 + 390 + j * 1 by omega), trV_pr e2, trV_pr e2]
 ·by_cases e3 : q < 390
  ·rw [if_neg (show ¬ q = 0 + 390 + j * 1 by omega), trV_cm e2 e3, trV_cm e2 e3]
  ·rw [trV_lf e3, trV_lf e3]
   dsimp only;by_cases e : q = 0 + 390 + j * 1
   ·rw [if_pos e, show q - 390 = j by omega, V2]
   ·rw [if_neg e, V0 (show q - 390 ≠ j by omega)])
theorem cmV_fr {c : Cm} {z : Int} {t : Nat} (h : t ≠ 2) : cmV ⟨c.lim, c.bk, z, c.to, c.ms⟩ t = cmV c t := by
 match t, h with
 | 0, _ => rfl
 | 1, _ => rfl
 | 2, h => exact absurd rfl h
 | 3, _ => rfl
 | n + 4, _ => rfl
theorem tr_frS {g : Tp} {j : Nat} {z : Int} (h : j < 65) : (trC g).set (0 + 65 + j * 5 + 2) (.int .i64 z) = trC ⟨g.pr, W2 g.cm j ⟨(g.cm j).lim, (g.cm j).bk, z, (g.cm j).to, (g.cm j).ms⟩, g.lf⟩ := fm_set (fun q hq => by
 by_cases e2 : q < 65
 ·rw [if_neg (show ¬ q = 0 + 65 + j * 5 + 2 by omega), trV_pr e2, trV_pr e2]
 ·by_cases e3 : q < 390
  ·rw [trV_cm e2 e3, trV_cm e2 e3]
   dsimp only;by_cases e4 : (q - 65) / 5 = j
   ·rw [e4, V2]
    by_cases e : q = 0 + 65 + j * 5 + 2
    ·rw [if_pos e, show (q - 65) % 5 = 2 by omega]; rfl
    ·rw [if_neg e, cmV_fr (by omega)]
   ·rw [V0 e4, if_neg (show ¬ q = 0 + 65 + j * 5 + 2 by omega)]
  ·rw [if_neg (show ¬ q = 0 + 65 + j * 5 + 2 by omega), trV_lf e3, trV_lf e3])
theorem tr_cmS {g : Tp} {j : Nat} {c : Cm} (h : j < 65) : overL (trC g) (0 + 65 + j * 5) (cmC c) = some (trC ⟨g.pr, W2 g.cm j c, g.lf⟩) := by
 refine fm_over (by show 0 + 65 + j * 5 + 5 <= 455; omega) (fun q hq => ?_);have hc : (cmC c).length = 5 := rfl;rw [hc];by_cases e2 : q < 65
 ·rw [if_neg (show ¬ (0 + 65 + j * 5 <= q /\ q < 0 + 65 + j * 5 + 5) by omega), trV_pr e2, trV_pr e2]
 ·by_cases e3 : q < 390
  ·rw [trV_cm e2 e3, trV_cm e2 e3]
   dsimp only;by_cases e4 : (q - 65) / 5 = j
   ·rw [e4, V2, if_pos (show 0 + 65 + j * 5 <= q /\ q < 0 + 65 + j * 5 + 5 by omega), cmC_get (show q - (0 + 65 + j * 5) < 5 by omega), show q - (0 + 65 + j * 5) = (q - 65) % 5 by omega]
   ·rw [V0 e4, if_neg (show ¬ (0 + 65 + j * 5 <= q /\ q < 0 + 65 + j * 5 + 5) by omega)]
  ·rw [if_neg (show ¬ (0 + 65 + j * 5 <= q /\ q < 0 + 65 + j * 5 + 5) by omega), trV_lf e3, trV_lf e3]
def tp0 : Tp := ⟨fun _ => 0, fun _ => ⟨0, false, 0, 0, 0⟩, fun _ => false⟩
def limC (ts : List (List Int)) : List Value := fm (fun q => .int .i64 ((ts.getD (q / 4) []).getD (q % 4) 0)) (ts.length * 4)
theorem limC_len {ts : List (List Int)} : (limC ts).length = ts.length * 4 := fm_len
theorem limC_seg {ts : List (List Int)} {k : Nat} {y0 y1 y2 y3 : Int} (h : ts[k]? = some [y0, y1, y2, y3]) : segL (limC ts) (0 + k * 4) 4 = some [.int .i64 y0, .int .i64 y1, .int .i64 y2, .int .i64 y3] := by
 obtain ⟨hk, _⟩ := List.getElem?_eq_some_iff.1 h;have e : ts.getD k [] = [y0, y1, y2, y3] := by rw [List.getD_eq_getElem?_getD, h]; rfl
 have := seg_of (l := limC ts) (r := [.int .i64 y0, .int .i64 y1, .int .i64 y2, .int .i64 y3]) (i := 0 + k * 4) (fun t ht => by
  have ht' : t < 4 := ht;unfold limC;rw [fm_get (by omega), show (0 + k * 4 + t) / 4 = k by omega, show (0 + k * 4 + t) % 4 = t by omega, e]
  match t, ht' with
  | 0, _ => rfl
  | 1, _ => rfl
  | 2, _ => rfl
  | 3, _ => rfl)
 exact this
theorem limC_app {a b : List (List Int)} : limC (a ++ b) = limC a ++ limC b := by
 refine List.ext_getElem? (fun q => ?_);by_cases h : q < a.length * 4
 ·rw [List.getElem?_append_left (by rw [limC_len]; exact h)]
  unfold limC;rw [fm_get (by rw [List.length_append]; omega), fm_get h, List.getD_eq_getElem?_getD (l := a ++ b), List.getElem?_append_left (by omega), <- List.getD_eq_getElem?_getD]
 ·rw [List.getElem?_append_right (by rw [limC_len]; omega), limC_len]
  unfold limC;by_cases h2 : q < (a ++ b).length * 4
  ·rw [fm_get h2]
   rw [List.length_append] at h2;rw [fm_get (by omega), List.getD_eq_getElem?_getD (l := a ++ b), List.getElem?_append_right (by omega), <- List.getD_eq_getElem?_getD, show (q - a.length * 4) / 4 = q / 4 - a.length by omega, show (q - a.length * 4) % 4 = q % 4 by omega]
  ·rw [fm_none (by omega)]
   rw [List.length_append] at h2;rw [fm_none (by omega)]
theorem Ats.of {s : St} {b : Nat} : ∀ {l : List Value} {off : Nat}, (∀ j v, l[j]? = some v -> At s b (off + j) v) -> Ats s b off l
 | [], _, _ => trivial
 | v :: l, off, h => ⟨by simpa using h 0 v (by simp), Ats.of (fun j u hj => by have := h (j + 1) u (by simpa using hj); simpa [Nat.add_assoc, Nat.add_comm 1 j] using this)⟩
theorem rows_ats {s : St} {a : Option Addr} {b o : Nat} {ts : List (List Int)} (h : RowsE s 4 a ts) (ha : a = some ⟨b, o, none⟩) : Ats s b o (limC ts) := Ats.of (fun q v hq => by
 have hlt : q < ts.length * 4 := by
  have := (List.getElem?_eq_some_iff.1 hq).1
  rwa [limC_len] at this
 unfold limC at hq;rw [fm_get hlt] at hq;cases hq;have hk : q / 4 < ts.length := by omega
 have h1 := h.cells b o ha (q / 4) _ (List.getElem?_eq_getElem hk);have hw := h.width _ (List.getElem_mem hk);have h2 := h1.get (j := q % 4) (v := .int .i64 ((ts.getD (q / 4) []).getD (q % 4) 0)) (by
  have hm : q % 4 < (ts[q / 4]).length := by omega
  rw [List.getElem?_map, List.getElem?_eq_getElem hm, List.getD_eq_getElem?_getD, List.getD_eq_getElem?_getD, List.getElem?_eq_getElem hk];simp only [Option.map_some, Option.getD_some];rw [List.getElem?_eq_getElem hm]; rfl)
 rw [show o + q / 4 * 4 + q % 4 = o + q by omega] at h2;exact h2)
theorem rows_own {s : St} {b e : Nat} {op : Bool} {M : Nat} {ts : List (List Int)} (hg : Lg M ts) (hM : M <= 64) (hn : ts.length < 140737488355328) (hf : ∀ r ∈ ts, r.length = 4 /\ ∀ x ∈ r, -9223372036854775808 <= x /\ x < 9223372036854775808) (h : Obj s b e op (limC ts)) : RowsE s 4 (some ⟨b, 0, none⟩) ts := by
 refine ⟨fun c hc => by cases hc; rfl, fun _ => ⟨b, 0, rfl⟩, fun c o hc k r hr => ?_, fun r hr => (hf r hr).1, fun r hr => (hf r hr).2, hn⟩;cases hc;obtain ⟨hk, e1⟩ := List.getElem?_eq_some_iff.1 hr;obtain ⟨_, _, _, _, _, y3, e2⟩ := hg k hk;rw [hr] at e2;cases e2;have := limC_seg hr;have h2 := (segL_eq this).2;exact h.ats (fun j hj => h2 j hj)
theorem a_eqN {P : Program} {C : Nat -> (CF -> Bool) -> Bool} {X : FuncId -> List Value -> St -> (Value -> St -> Bool) -> Bool} {s0 : St} {n nt t : Nat} {env : List (Nat × Value)} {A : List Ob} {R : Value -> List Ob -> Prop} {x y : Ev.X} {a : Option Addr} {m c : Nat} (hx : xv env x = some (.slice a m c)) (hy : xv env y = some (.slice none 0 0)) (hn : evBin P .eql t 1 (.slice none 0 0) (.slice none 0 0) = some (.bool true)) (h0 : a = none -> m = 0 /\ c = 0) (h1 : a = none -> R (.bool true) A) (h2 : ¬ a = none -> R (.bool false) A) : OpA P C X s0 n nt (.bin .eql t 1 x y) env A R := by
 cases a with
 | none =>
  obtain ⟨rfl, rfl⟩ := h0 rfl;exact a_bin hx hy hn (h1 rfl)
 | some a => exact a_bin hx hy rfl (h2 (by simp))
theorem a_ldb {P : Program} {C : Nat -> (CF -> Bool) -> Bool} {X : FuncId -> List Value -> St -> (Value -> St -> Bool) -> Bool} {s0 : St} {n nt : Nat} {env : List (Nat × Value)} {A : List Ob} {R : Value -> List Ob -> Prop} {a : Ev.X} {b off e : Nat} {op t : Bool} {l : List Value} (ha : xv env a = some (.pointer (some ⟨b, off, none⟩))) (ho : Own A b e op l) (hv : l[off]? = some (.bool t)) (h1 : t = true -> R (.bool true) A) (h2 : t = false -> R (.bool false) A) : OpA P C X s0 n nt (.ld a none) env A R := by
 cases t with
 | true => exact Z1 ha ho hv (h1 rfl)
 | false => exact Z1 ha ho hv (h2 rfl)
theorem endcA {s0 : St} {env : List (Nat × Value)} {A A' : List Ob} {a b o m e : Nat} {op : Bool} {l r : List Value} {Q : Value -> List Ob -> Prop} (ha : look env a = some (.pointer (some ⟨b, o, none⟩))) (h0 : m ≠ 0) (hs : A'.Sublist A) (ho : Own A b e op l) (hv : segL l o m = some r) (hq : Q (.agg ⟨r⟩) A') : EndA s0 [.cell a (some m)] Q .ret env [] A :=
 ⟨rfl, [.agg ⟨r⟩], A', ⟨b, o, r, [], rfl, ha, h0, ⟨e, op, l, ho, hv⟩, rfl⟩, hs, hq⟩
theorem src_ints {s0 : St} {A : List Ob} {a : Option Addr} {l : List Int} {c : Nat} (h : IntsE s0 a l) (hl : l ≠ []) : Src s0 A 1 l.length (ints l) (.slice a l.length c) := by
 obtain ⟨b, o, rfl⟩ := h.addr hl;exact ⟨b, o, c, rfl, by rw [ints_len, Nat.mul_one], fun e => hl (by cases l with | nil => rfl | cons x l => cases e), .inr (h.cells b o rfl)⟩
theorem src_rows {s0 : St} {A : List Ob} {a : Option Addr} {ts : List (List Int)} {c : Nat} (h : RowsE s0 4 a ts) (hl : ts ≠ []) : Src s0 A 4 ts.length (limC ts) (.slice a ts.length c) := by
 obtain ⟨b, o, rfl⟩ := h.addr hl;refine ⟨b, o, c, rfl, limC_len, fun e => hl (List.eq_nil_of_length_eq_zero ?_), .inr (rows_ats h rfl)⟩;have := congrArg List.length e;rw [limC_len] at this;have h4 : ts.length * 4 = 0 := this;omega
def TlOk (TT : Nat) (a : Option Addr) (ts : List (List Int)) (TL : List Ob) : Prop := (ts = [] /\ TL = [] /\ ∀ b, a = some b -> b.spot = none) ∨ ∃ b op, a = some ⟨b, 0, none⟩ /\ TL = [.row b TT op (limC ts)]
theorem TlOk.own {TT : Nat} {a : Option Addr} {ts : List (List Int)} {TL : List Ob} (h : TlOk TT a ts TL) (h0 : 0 < ts.length) : ∃ b op, a = some ⟨b, 0, none⟩ /\ ∀ R, Own (TL ++ R) b TT op (limC ts) := by
 rcases h with ⟨h1, _⟩ | ⟨b, op, h1, h2⟩
 ·rw [h1] at h0; exact absurd h0 (Nat.lt_irrefl 0)
 ·exact ⟨b, op, h1, fun R => by rw [h2]; exact .here⟩
theorem TlOk.rows {TT : Nat} {s0 s : St} {a : Option Addr} {M : Nat} {ts : List (List Int)} {TL A : List Ob} (h : TlOk TT a ts TL) (hA : TL.Sublist A) (hs : Hld s0 A s) (hg : Lg M ts) (hM : M <= 64) (hn : ts.length < 140737488355328) (hf : ∀ r ∈ ts, r.length = 4 /\ ∀ x ∈ r, -9223372036854775808 <= x /\ x < 9223372036854775808) : RowsE s 4 a ts := by
 rcases h with ⟨h1, _, h3⟩ | ⟨b, op, h1, h2⟩
 ·subst h1
  exact ⟨h3, fun e => absurd rfl e, fun b o hb i r hr => (by simp at hr), fun r hr => (by cases hr), fun r hr => (by cases hr), (by simp)⟩
 ·subst h1
  exact rows_own hg hM hn hf ((hs.sub hA).own (by rw [h2]; exact .here))
theorem tl_fit {s : St} {a : Option Addr} {ls : List (List Int)} {M : Nat} (h : RowsE s 4 a ls) (hM : M <= 64) : ∀ r ∈ ls ++ W1 M, r.length = 4 /\ ∀ x ∈ r, -9223372036854775808 <= x /\ x < 9223372036854775808 := fun r hr => by
 rcases List.mem_append.1 hr with q | q
 ·exact ⟨h.width r q, h.fit r q⟩
 ·have key : ∀ m, m <= 64 -> ∀ r ∈ W1 m, r.length = 4 /\ ∀ x ∈ r, -9223372036854775808 <= x /\ x < 9223372036854775808 := by
   intro m
   induction m with
   | zero => intro _ r hr; cases hr
   | succ m ih =>
    intro hm r hr;rcases List.mem_append.1 hr with q | q
    ·exact ih (by omega) r q
    ·simp only [List.mem_cons, List.not_mem_nil, or_false] at q
     rcases q with rfl | rfl
     ·exact ⟨rfl, fun x hx => by simp only [List.mem_cons, List.not_mem_nil, or_false] at hx; omega⟩
     ·exact ⟨rfl, fun x hx => by simp only [List.mem_cons, List.not_mem_nil, or_false] at hx; omega⟩
  exact key M hM r q
theorem IntsE.drop {s : St} {b o : Nat} {l : List Int} (h : IntsE s (some ⟨b, o, none⟩) l) {k : Nat} (hk : k <= l.length) : IntsE s (some ⟨b, o + k * 1, none⟩) (l.drop k) := by
 refine ⟨fun c hc => by cases hc; rfl, fun _ => ⟨b, o + k * 1, rfl⟩, fun c o' hc => ?_, fun x hx => h.fit x (List.mem_of_mem_drop hx), (by have := h.len; rw [List.length_drop]; omega)⟩;cases hc;refine Ats.of (fun j v hj => ?_);have hj' : (ints l)[k + j]? = some v := by
  unfold ints at hj ⊢;rw [List.map_drop, List.getElem?_drop] at hj;exact hj
 have := (h.cells b o rfl).get hj'
 rwa [show o + (k + j) = o + k * 1 + j by omega] at this
section
variable {X : FuncId -> List Value -> St -> (Value -> St -> Bool) -> Bool}
end
end Ev
end Go.Proofs.Ytoeklhdklcpllaa
