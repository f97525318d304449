import Derived.Test.YtoeklhdklcpllaaZi14
import Derived.Test.YtoeklhdklcpllaaZi11
import Derived.Test.YtoeklhdklcpllaaZi12
import Derived.Test.YtoeklhdklcpllaaZi09
set_option linter.unusedVariables false
set_option linter.unusedSimpArgs false
namespace Go.Proofs.Ytoeklhdklcpllaa
open Go Go.RowKit
namespace Ev
theorem sum_pr {t z : Int} (ht : 0 <= t) (hz : -20000 <= z /\ z <= 20000) : -(20000 * t) <= t * z /\ t * z <= 20000 * t := by
 have h1 := Int.mul_le_mul_of_nonneg_left hz.2 ht;have h2 := Int.mul_le_mul_of_nonneg_left hz.1 ht;rw [Int.mul_comm t 20000] at h1;rw [Int.mul_comm t (-20000)] at h2;omega
theorem sum_bd {t z : Nat -> Int} {K : Nat} : ∀ {k : Nat}, k <= K -> (∀ i, i < K -> 0 <= t i) -> (∀ i, i < K -> -20000 <= z i /\ z i <= 20000) -> -(20000 * tot t k) <= tot (fun i => t i * z i) k /\ tot (fun i => t i * z i) k <= 20000 * tot t k
 | 0, _, _, _ => by show -(20000 * (0 : Int)) <= 0 /\ (0 : Int) <= 20000 * 0; omega
 | k + 1, hk, ht, hz => by
  have ih := sum_bd (k := k) (by omega) ht hz;have h1 := sum_pr (ht k (by omega)) (hz k (by omega));show -(20000 * (tot t k + t k)) <= tot (fun i => t i * z i) k + t k * z k /\ tot (fun i => t i * z i) k + t k * z k <= 20000 * (tot t k + t k);omega
theorem lw_row {ls : List (List Int)} {k : Nat} {y0 y1 y2 y3 : Int} (h : ls[k]? = some [y0, y1, y2, y3]) : lw ls k = y2 := by
 unfold lw;rw [show ls.getD k [] = [y0, y1, y2, y3] from by rw [List.getD_eq_getElem?_getD, h]; rfl]; rfl
theorem sum_rng {ls : List (List Int)} {M : Nat} {w t p : Nat -> Int} {k : Nat} (hl : lmB (M : Int) ls = true) (h : Opt ls (M + 1) w t p) (hs : tot t ls.length <= 230400000000000) (hk : k < ls.length) : (-4608000000000000000 <= tot (fun i => t i * lw ls i) k /\ tot (fun i => t i * lw ls i) k <= 4608000000000000000) /\ (-4608000000000000000 <= t k * lw ls k /\ t k * lw ls k <= 4608000000000000000) /\ (-4608000000000000000 <= tot (fun i => t i * lw ls i) k + t k * lw ls k /\ tot (fun i => t i * lw ls i) k + t k * lw ls k <= 4608000000000000000) := by
 have hz : ∀ i, i < ls.length -> -20000 <= lw ls i /\ lw ls i <= 20000 := fun i hi => lw_bd' hl hi
 have h1 := sum_bd (t := t) (z := lw ls) (K := ls.length) (k := k) (by omega) h.nn hz;have h2 := sum_bd (t := t) (z := lw ls) (K := ls.length) (k := k + 1) (by omega) h.nn hz;have h3 := tot_part (f := t) (K0 := k) (K := ls.length) (by omega) h.nn;have h4 := tot_part (f := t) (K0 := k + 1) (K := ls.length) (by omega) h.nn;have h5 := sum_pr (h.nn k hk) (hz k hk);have h6 := tot_mem (f := t) h.nn k hk;have h7 : tot (fun i => t i * lw ls i) (k + 1) = tot (fun i => t i * lw ls i) k + t k * lw ls k := rfl;rw [h7] at h2;omega
theorem sum_all {ls : List (List Int)} {M : Nat} {w t p : Nat -> Int} (hl : lmB (M : Int) ls = true) (h : Opt ls (M + 1) w t p) (hs : tot t ls.length <= 230400000000000) : -4608000000000000000 <= tot (fun i => t i * lw ls i) ls.length /\ tot (fun i => t i * lw ls i) ls.length <= 4608000000000000000 := by
 have hz : ∀ i, i < ls.length -> -20000 <= lw ls i /\ lw ls i <= 20000 := fun i hi => lw_bd' hl hi
 have h1 := sum_bd (t := t) (z := lw ls) (K := ls.length) (k := ls.length) (Nat.le_refl _) h.nn hz;omega
section
variable {X : FuncId -> List Value -> St -> (Value -> St -> Bool) -> Bool}
end
def dg (n i k : Nat) : List Int := rowT (fun _ j => if j < k /\ ¬ j = i then 1000000000 else 0) n i
def T0 : Nat -> Nat -> Int := fun i k => if i = k then 0 else 1000000000
def limT (ls : List (List Int)) : Nat -> Nat -> Nat -> Int
 | 0 => T0
 | k + 1 => updT (limT ls k) ((ls.getD k []).getD 0 0).toNat ((ls.getD k []).getD 1 0).toNat (min (limT ls k ((ls.getD k []).getD 0 0).toNat ((ls.getD k []).getD 1 0).toNat) ((ls.getD k []).getD 2 0))
def stp (T : Nat -> Nat -> Int) (m i k : Nat) : Nat -> Nat -> Int :=
 if ¬ T i m = 1000000000 /\ ¬ T m k = 1000000000 then updT T i k (max (min (T i k) (T i m + T m k)) (-2560000)) else T
def kT (T : Nat -> Nat -> Int) (m i : Nat) : Nat -> Nat -> Nat -> Int
 | 0 => T
 | k + 1 => stp (kT T m i k) m i k
def iT (T : Nat -> Nat -> Int) (N m : Nat) : Nat -> Nat -> Nat -> Int
 | 0 => T
 | i + 1 => kT (iT T N m i) m i N
def mT (T : Nat -> Nat -> Int) (N : Nat) : Nat -> Nat -> Nat -> Int
 | 0 => T
 | m + 1 => iT (mT T N m) N m N
def wm (ls : List (List Int)) (N m : Nat) : Nat -> Nat -> Int := mT (limT ls ls.length) N m
inductive Pth (ls : List (List Int)) : Nat -> List Nat -> Nat -> Int -> Prop where
 | one {i : Nat} (hi : i < ls.length) : Pth ls (la ls i) [] (lb ls i) (lw ls i)
 | cons {i : Nat} {L : List Nat} {k : Nat} {w : Int} (hi : i < ls.length) (h : Pth ls (lb ls i) L k w) : Pth ls (la ls i) (lb ls i :: L) k (lw ls i + w)
theorem Pth.app {ls : List (List Int)} {a v b : Nat} {L L' : List Nat} {w w' : Int} (h : Pth ls a L v w) (h' : Pth ls v L' b w') : Pth ls a (L ++ v :: L') b (w + w') := by
 induction h with
 | one hi => exact .cons hi h'
 | cons hi _ ih => rw [Int.add_assoc]; exact .cons hi (ih h')
theorem Pth.split {ls : List (List Int)} {v b : Nat} {L' : List Nat} : ∀ {L : List Nat} {a : Nat} {w : Int}, Pth ls a (L ++ v :: L') b w -> ∃ w1 w2, Pth ls a L v w1 /\ Pth ls v L' b w2 /\ w = w1 + w2
 | [], a, w, h => by
  have h' : Pth ls a (v :: L') b w := h;cases h' with
  | cons hi hq => exact ⟨_, _, .one hi, hq, rfl⟩
 | u :: L, a, w, h => by
  have h' : Pth ls a (u :: (L ++ v :: L')) b w := h;cases h' with
  | cons hi hq =>
   obtain ⟨w1, w2, h1, h2, h3⟩ := Pth.split hq;exact ⟨_, w2, .cons hi h1, h2, by omega⟩
theorem Pth.lt {ls : List (List Int)} {M a b : Nat} {L : List Nat} {w : Int} (hl : lmB (M : Int) ls = true) (h : Pth ls a L b w) : a < M + 1 /\ b < M + 1 /\ ∀ v ∈ L, v < M + 1 := by
 induction h with
 | one hi => have hL := lim_of hl hi; exact ⟨hL.ha, hL.hb, fun v hv => absurd hv (List.not_mem_nil)⟩
 | cons hi _ ih =>
  have hL := lim_of hl hi;refine ⟨hL.ha, ih.2.1, fun v hv => ?_⟩;rcases List.mem_cons.1 hv with rfl | hv
  ·exact hL.hb
  ·exact ih.2.2 v hv
theorem Pth.wk {ls : List (List Int)} {f : Nat} {a b : Nat} {L : List Nat} {w w0 : Int} (h0 : Wk ls f a w0) (h : Pth ls a L b w) : Wk ls f b (w0 + w) := by
 induction h generalizing w0 with
 | one hi => exact .step hi h0
 | cons hi _ ih => rw [<- Int.add_assoc]; exact ih (.step hi h0)
theorem Pth.pot {ls : List (List Int)} {y : Nat -> Int} (hy : ∀ i, i < ls.length -> y (lb ls i) <= y (la ls i) + lw ls i) {a b : Nat} {L : List Nat} {w : Int} (h : Pth ls a L b w) : y b <= y a + w := by
 have := (h.wk (.nil (f := a))).pot hy;omega
theorem twice : ∀ {L : List Nat}, ¬ L.Nodup -> ∃ v A B C, L = A ++ v :: (B ++ v :: C)
 | [], h => absurd List.nodup_nil h
 | u :: L, h => by
  by_cases hu : u ∈ L
  ·obtain ⟨B, C, e⟩ := List.append_of_mem hu
   exact ⟨u, [], B, C, by rw [e]; rfl⟩
  ·have : ¬ L.Nodup := fun q => h (List.nodup_cons.2 ⟨hu, q⟩)
   obtain ⟨v, A, B, C, e⟩ := twice this;exact ⟨v, u :: A, B, C, by rw [e]; rfl⟩
theorem Pth.short {ls : List (List Int)} {y : Nat -> Int} (hy : ∀ i, i < ls.length -> y (lb ls i) <= y (la ls i) + lw ls i) {a b : Nat} : ∀ {L : List Nat} {w : Int}, Pth ls a L b w -> ∃ L' w', L'.Nodup /\ Pth ls a L' b w' /\ w' <= w := by
 intro L
 induction hn : L.length using Nat.strongRecOn generalizing L with
 | ind n ih =>
  intro w h;by_cases q : L.Nodup
  ·exact ⟨L, w, q, h, Int.le_refl _⟩
  ·obtain ⟨v, A, B, C, rfl⟩ := twice q
   obtain ⟨w1, w2, h1, h2, e⟩ := h.split;obtain ⟨w3, w4, h3, h4, e2⟩ := h2.split;have h5 := h3.pot hy;obtain ⟨L', w', k1, k2, k3⟩ := ih (A ++ v :: C).length (by subst hn; simp; omega) J (h1.app h4);exact ⟨L', w', k1, k2, by omega⟩
theorem nodup_len {L : List Nat} {N : Nat} (h : L.Nodup) (hL : ∀ v ∈ L, v < N) : L.length <= N := by
 refine Classical.byContradiction (fun q => ?_);obtain ⟨i, j, h1, h2, h3⟩ := pigeon N (fun i => L.getD i 0) (fun i hi => by
  show L.getD i 0 < N;rw [List.getD_eq_getElem?_getD, List.getElem?_eq_getElem (show i < L.length by omega)];exact hL _ (List.getElem_mem _))
 have h3' : L.getD i 0 = L.getD j 0 := h3;rw [List.getD_eq_getElem?_getD, List.getD_eq_getElem?_getD, List.getElem?_eq_getElem (show i < L.length by omega), List.getElem?_eq_getElem (show j < L.length by omega)] at h3';have h4 : L[i]'(by omega) = L[j]'(by omega) := h3';have := (List.getElem_inj h).1 h4;omega
section
variable {X : FuncId -> List Value -> St -> (Value -> St -> Bool) -> Bool}
end
def RL (ls : List (List Int)) (t : Nat -> Int) : List (List Int) := ls ++ (List.range ls.length).map (fun i => if 0 < t i then [((lb ls i : Nat) : Int), ((la ls i : Nat) : Int), -(lw ls i), 0] else [((la ls i : Nat) : Int), ((lb ls i : Nat) : Int), lw ls i, 0])
theorem rl_len {ls : List (List Int)} {t : Nat -> Int} : (RL ls t).length = ls.length + ls.length := by simp [RL]
theorem rl_at {ls : List (List Int)} {t : Nat -> Int} {i : Nat} (hi : i < ls.length) : (RL ls t)[ls.length + i]? = some (if 0 < t i then [((lb ls i : Nat) : Int), ((la ls i : Nat) : Int), -(lw ls i), 0] else [((la ls i : Nat) : Int), ((lb ls i : Nat) : Int), lw ls i, 0]) := by
 unfold RL;rw [List.getElem?_append_right (by omega), show ls.length + i - ls.length = i by omega, List.getElem?_map, List.getElem?_range hi]; rfl
theorem rl_bck {ls : List (List Int)} {t : Nat -> Int} {i : Nat} (hi : i < ls.length) (ht : 0 < t i) : la (RL ls t) (ls.length + i) = lb ls i /\ lb (RL ls t) (ls.length + i) = la ls i /\ lw (RL ls t) (ls.length + i) = -(lw ls i) := by
 have h := rl_at (t := t) hi;rw [if_pos ht] at h;exact fld h
theorem fwd_pth {ls : List (List Int)} {t : Nat -> Int} {i : Nat} (hi : i < ls.length) : Pth (RL ls t) (la ls i) [] (lb ls i) (lw ls i) := by
 have h := Pth.one (ls := RL ls t) (i := i) (by rw [rl_len]; omega);obtain ⟨e1, e2, e3⟩ := app_fld (ls := ls) (us := (List.range ls.length).map (fun i => if 0 < t i then [((lb ls i : Nat) : Int), ((la ls i : Nat) : Int), -(lw ls i), 0] else [((la ls i : Nat) : Int), ((lb ls i : Nat) : Int), lw ls i, 0])) hi;have e1 : la (RL ls t) i = la ls i := e1;have e2 : lb (RL ls t) i = lb ls i := e2;have e3 : lw (RL ls t) i = lw ls i := e3
 rwa [e1, e2, e3] at h
theorem bck_pth {ls : List (List Int)} {t : Nat -> Int} {i : Nat} (hi : i < ls.length) (ht : 0 < t i) : Pth (RL ls t) (lb ls i) [] (la ls i) (-(lw ls i)) := by
 have h := Pth.one (ls := RL ls t) (i := ls.length + i) (by rw [rl_len]; omega);obtain ⟨e1, e2, e3⟩ := rl_bck hi ht
 rwa [e1, e2, e3] at h
theorem walk_short {R : List (List Int)} {y : Nat -> Int} {N : Nat} (hy : ∀ i, i < R.length -> y (lb R i) <= y (la R i) + lw R i) (hN : ∀ {a L b w}, Pth R a L b w -> a < N /\ b < N /\ ∀ v ∈ L, v < N) {a b : Nat} {L : List Nat} {w : Int} (h : Pth R a L b w) : 0 <= w ∨ ∃ a' L' w', L'.length + 2 <= N /\ Pth R a' L' b w' /\ w' <= w := by
 obtain ⟨L1, w1, n1, h1, e1⟩ := h.short hy;obtain ⟨L2, w2, n2, h2, e2, a2⟩ : ∃ L2 w2, L2.Nodup /\ Pth R a L2 b w2 /\ w2 <= w1 /\ ¬ a ∈ L2 := by
  by_cases q : a ∈ L1
  ·obtain ⟨A, B, e⟩ := List.append_of_mem q
   subst e;obtain ⟨u1, u2, k1, k2, k3⟩ := h1.split;have k4 := k1.pot hy;have nd := List.nodup_cons.1 (List.nodup_append.1 n1).2.1;exact ⟨B, u2, nd.2, k2, by omega, nd.1⟩
  ·exact ⟨L1, w1, n1, h1, Int.le_refl _, q⟩
 obtain ⟨L3, w3, n3, h3, e3, a3, b3⟩ : ∃ L3 w3, L3.Nodup /\ Pth R a L3 b w3 /\ w3 <= w2 /\ (¬ a ∈ L3) /\ ¬ b ∈ L3 := by
  by_cases q : b ∈ L2
  ·obtain ⟨A, B, e⟩ := List.append_of_mem q
   subst e;obtain ⟨u1, u2, k1, k2, k3⟩ := h2.split;have k4 := k2.pot hy;have nd := List.nodup_append.1 n2;exact ⟨A, u1, nd.1, k1, by omega, fun z => a2 (List.mem_append_left _ z), fun z => nd.2.2 b z b (List.mem_cons_self ..) rfl⟩
  ·exact ⟨L2, w2, n2, h2, Int.le_refl _, a2, q⟩
 by_cases q : a = b
 ·subst q
  have := h3.pot hy;exact .inl (by omega)
 ·obtain ⟨t1, t2, t3⟩ := hN h3
  have nd : (a :: b :: L3).Nodup := List.nodup_cons.2 ⟨fun z => by
   rcases List.mem_cons.1 z with z | z
   ·exact q z
   ·exact a3 z, List.nodup_cons.2 ⟨b3, n3⟩⟩
  have := nodup_len (N := N) nd (fun v hv => by
   rcases List.mem_cons.1 hv with rfl | hv
   ·exact t1
   ·rcases List.mem_cons.1 hv with rfl | hv
    ·exact t2
    ·exact t3 v hv)
  exact .inr ⟨a, L3, w3, this, h3, by omega⟩
theorem le_walk {R : List (List Int)} {x : Nat -> Nat -> Int} (cov : ∀ r e, e < R.length -> x (r + 1) (lb R e) <= x r (la R e) + lw R e) {a b : Nat} {L : List Nat} {w : Int} (h : Pth R a L b w) : ∀ r, x (r + (L.length + 1)) b <= x r a + w := by
 induction h with
 | one hi => intro r; exact cov r _ hi
 | cons hi _ ih =>
  intro r;have h1 := ih (r + 1);have h2 := cov r _ hi;rw [List.length_cons, show ∀ k, r + (k + 1 + 1) = r + 1 + (k + 1) from fun k => by omega];omega
theorem settled {R : List (List Int)} {y : Nat -> Int} {M : Nat} {x : Nat -> Nat -> Int} (hy : ∀ i, i < R.length -> y (lb R i) <= y (la R i) + lw R i) (hN : ∀ {a L b w}, Pth R a L b w -> a < M + 1 /\ b < M + 1 /\ ∀ v ∈ L, v < M + 1)
 (h0 : ∀ v, x 0 v = 0) (mono : ∀ r v, v < M + 1 -> x (r + 1) v <= x r v) (cov : ∀ r e, e < R.length -> x (r + 1) (lb R e) <= x r (la R e) + lw R e) (att : ∀ r v, v < M + 1 -> x r v = 0 ∨ ∃ a L, Pth R a L v (x r v)) : ∀ v, v < M + 1 -> x (M + 1) v = x M v := fun v hv => by
 have down : ∀ d r, x (r + d) v <= x r v := by
  intro d
  induction d with
  | zero => intro r; exact Int.le_refl _
  | succ d ih => intro r; have := ih r; have := mono (r + d) v hv; rw [show r + (d + 1) = r + d + 1 by omega]; omega
 have hm := mono M v hv;have hz : x M v <= 0 := by have := down M 0; rw [h0, Nat.zero_add] at this; exact this
 rcases att (M + 1) v hv with q | ⟨a, L, h⟩
 ·omega
 ·rcases walk_short hy hN h with q | ⟨a', L', w', l1, l2, l3⟩
  ·omega
  ·have h1 := le_walk cov l2 0
   rw [h0, Nat.zero_add] at h1;have h2 := down (M - (L'.length + 1)) (L'.length + 1);rw [show L'.length + 1 + (M - (L'.length + 1)) = M by omega] at h2;omega
structure Fb where
 x : Nat -> Int
 c : Nat -> Cm
 l : Int
def upB (s : Fb) (v i : Nat) (bk : Bool) (to : Nat) (ms : Int) : Fb := if s.x v + ms < s.x to then ⟨W2 s.x to (s.x v + ms), W2 s.c to ⟨i, bk, (v : Int), to, ms⟩, (to : Int)⟩ else s
def rlB (ls : List (List Int)) (t : Nat -> Int) (s : Fb) (v i : Nat) : Fb := if lb ls i = v then (if t i = 0 then s else upB s v i true (la ls i) (-(lw ls i))) else upB s v i false (lb ls i) (lw ls i)
def rwB (ls : List (List Int)) (t : Nat -> Int) (s : Fb) (v : Nat) : Nat -> Fb
 | 0 => s
 | q + 1 => rlB ls t (rwB ls t s v q) v ((nl ls ls.length v).getD q 0).toNat
def lwB (ls : List (List Int)) (t : Nat -> Int) (s : Fb) : Nat -> Fb
 | 0 => s
 | v + 1 => rwB ls t (lwB ls t s v) v (nl ls ls.length v).length
def stB (ls : List (List Int)) (t : Nat -> Int) (N : Nat) : Nat -> Fb
 | 0 => ⟨fun _ => 0, fun _ => ⟨0, false, 0, 0, 0⟩, -1⟩
 | r + 1 => lwB ls t ⟨(stB ls t N r).x, (stB ls t N r).c, -1⟩ N
structure Rb (ls : List (List Int)) (t : Nat -> Int) (M : Nat) (x0 : Nat -> Int) (s : Fb) : Prop where
 le : ∀ v, v < M + 1 -> s.x v <= x0 v
 att : ∀ v, v < M + 1 -> s.x v = 0 ∨ ∃ a L, Pth (RL ls t) a L v (s.x v)
 ch : (s.l = -1 /\ ∀ v, v < M + 1 -> s.x v = x0 v) ∨ ∃ b : Nat, b < M + 1 /\ s.l = (b : Int) /\ s.x b < x0 b
theorem Rb.up {ls : List (List Int)} {t : Nat -> Int} {M : Nat} {x0 : Nat -> Int} {s : Fb} {v i to : Nat} {bk : Bool} {ms : Int} (h : Rb ls t M x0 s) (hv : v < M + 1) (hto : to < M + 1) (hp : Pth (RL ls t) v [] to ms) : Rb ls t M x0 (upB s v i bk to ms) /\ (upB s v i bk to ms).x to <= s.x v + ms /\ ∀ u, (upB s v i bk to ms).x u <= s.x u := by
 unfold upB;by_cases c : s.x v + ms < s.x to
 ·rw [if_pos c]
  have hle := h.le to hto;refine ⟨⟨fun u hu => ?_, fun u hu => ?_, .inr ⟨to, hto, rfl, ?_⟩⟩, ?_, fun u => ?_⟩
  ·show W2 s.x to _ u <= _
   by_cases e : u = to
   ·subst e; rw [V2]; omega
   ·rw [V0 e]; exact h.le u hu
  ·show W2 s.x to _ u = 0 ∨ ∃ a L, Pth (RL ls t) a L u (W2 s.x to _ u)
   by_cases e : u = to
   ·subst e
    rw [V2];rcases h.att v hv with q | ⟨a, L, q⟩
    ·rw [q, Int.zero_add]; exact .inr ⟨v, [], hp⟩
    ·exact .inr ⟨a, _, q.app hp⟩
   ·rw [V0 e]; exact h.att u hu
  ·show W2 s.x to _ to < _
   rw [V2]; omega
  ·show W2 s.x to _ to <= _
   rw [V2]; exact Int.le_refl _
  ·show W2 s.x to _ u <= _
   by_cases e : u = to
   ·subst e; rw [V2]; omega
   ·rw [V0 e]; exact Int.le_refl _
 ·rw [if_neg c]
  exact ⟨h, by omega, fun u => Int.le_refl _⟩
def Cv (ls : List (List Int)) (t x0 x : Nat -> Int) (v i : Nat) : Prop := (la ls i = v -> x (lb ls i) <= x0 v + lw ls i) /\ (lb ls i = v -> 0 < t i -> x (la ls i) <= x0 v + -(lw ls i))
theorem Cv.mono {ls : List (List Int)} {t x0 x x' : Nat -> Int} {v i : Nat} (h : Cv ls t x0 x v i) (hx : ∀ u, x' u <= x u) : Cv ls t x0 x' v i := ⟨fun e => by have := h.1 e; have := hx (lb ls i); omega, fun e e2 => by have := h.2 e e2; have := hx (la ls i); omega⟩
theorem Rb.rl {ls : List (List Int)} {t : Nat -> Int} {M : Nat} {x0 : Nat -> Int} {s : Fb} {v i : Nat} (hg : Lg M ls) (hn : ∀ i, i < ls.length -> 0 <= t i) (h : Rb ls t M x0 s) (hv : v < M + 1) (hi : i < ls.length) (hnm : la ls i = v ∨ lb ls i = v) : Rb ls t M x0 (rlB ls t s v i) /\ Cv ls t x0 (rlB ls t s v i).x v i /\ ∀ u, (rlB ls t s v i).x u <= s.x u := by
 obtain ⟨g1, g2, g3, _⟩ := hg i hi;have hle := h.le v hv;unfold rlB;by_cases c : lb ls i = v
 ·rw [if_pos c]
  by_cases c2 : t i = 0
  ·rw [if_pos c2]
   exact ⟨h, ⟨fun e => absurd (e.trans c.symm) g3, fun _ e => by omega⟩, fun u => Int.le_refl _⟩
  ·rw [if_neg c2]
   have c3 := hn i hi;have hp := bck_pth (ls := ls) (t := t) hi (by omega);rw [c] at hp;obtain ⟨u1, u2, u3⟩ := h.up (i := i) (bk := true) hv g1 hp;exact ⟨u1, ⟨fun e => absurd (e.trans c.symm) g3, fun _ _ => by omega⟩, u3⟩
 ·rw [if_neg c]
  have ha := hnm.resolve_right c;have hp := fwd_pth (ls := ls) (t := t) hi;rw [ha] at hp;obtain ⟨u1, u2, u3⟩ := h.up (i := i) (bk := false) hv g2 hp;exact ⟨u1, ⟨fun _ => by omega, fun e => absurd e c⟩, u3⟩
theorem Rb.rw {ls : List (List Int)} {t : Nat -> Int} {M : Nat} {x0 : Nat -> Int} {s : Fb} {v : Nat} (hg : Lg M ls) (hn : ∀ i, i < ls.length -> 0 <= t i) (h : Rb ls t M x0 s) (hv : v < M + 1) : ∀ {q : Nat}, q <= (nl ls ls.length v).length -> Rb ls t M x0 (rwB ls t s v q) /\ (∀ j, j < q -> ∀ i : Nat, i < ls.length -> (nl ls ls.length v).getD j 0 = (i : Int) -> Cv ls t x0 (rwB ls t s v q).x v i) /\ ∀ u, (rwB ls t s v q).x u <= s.x u
 | 0, _ => ⟨h, fun j hj => absurd hj (Nat.not_lt_zero j), fun u => Int.le_refl _⟩
 | q + 1, hq => by
  obtain ⟨i1, i2, i3⟩ := Rb.rw hg hn h hv (q := q) (by omega);obtain ⟨i, hi, hil, hnm⟩ := nl_mem (ls := ls) (v := v) (k := ls.length) (q := q) (by omega);obtain ⟨j1, j2, j3⟩ := i1.rl hg hn hv hil ((nam_ab hg hil).1 hnm);show Rb ls t M x0 (rlB ls t (rwB ls t s v q) v ((nl ls ls.length v).getD q 0).toNat) /\ (∀ j, j < q + 1 -> ∀ i : Nat, i < ls.length -> (nl ls ls.length v).getD j 0 = (i : Int) -> Cv ls t x0 (rlB ls t (rwB ls t s v q) v ((nl ls ls.length v).getD q 0).toNat).x v i) /\ ∀ u, (rlB ls t (rwB ls t s v q) v ((nl ls ls.length v).getD q 0).toNat).x u <= s.x u;rw [hi, Int.toNat_natCast];refine ⟨j1, fun j hj i' hi' e' => ?_, fun u => by have := i3 u; have := j3 u; omega⟩;by_cases e : j = q
  ·subst e
   have : i' = i := by rw [hi] at e'; omega
   subst this;exact j2
  ·exact (i2 j (by omega) i' hi' e').mono j3
theorem Rb.lw {ls : List (List Int)} {t : Nat -> Int} {M : Nat} {x0 : Nat -> Int} {s : Fb} (hg : Lg M ls) (hn : ∀ i, i < ls.length -> 0 <= t i) (h : Rb ls t M x0 s) : ∀ {v : Nat}, v <= M + 1 -> Rb ls t M x0 (lwB ls t s v) /\ ∀ u, u < v -> ∀ i, i < ls.length -> Cv ls t x0 (lwB ls t s v).x u i
 | 0, _ => ⟨h, fun u hu => absurd hu (Nat.not_lt_zero u)⟩
 | v + 1, hv => by
  obtain ⟨i1, i2⟩ := Rb.lw hg hn h (v := v) (by omega);obtain ⟨j1, j2, j3⟩ := i1.rw hg hn (show v < M + 1 by omega) (Nat.le_refl _);refine ⟨j1, fun u hu i hi => ?_⟩;by_cases e : u = v
  ·subst e
   by_cases hnm : la ls i = u ∨ lb ls i = u
   ·obtain ⟨j, k1, k2⟩ := nl_has (ls := ls) (v := u) (i := i) ((nam_ab hg hi).2 hnm) (k := ls.length) hi
    exact j2 j k1 i hi k2
   ·exact ⟨fun q => absurd (.inl q) hnm, fun q => absurd (.inr q) hnm⟩
  ·exact (i2 u (by omega) i hi).mono j3
theorem Rb.st {ls : List (List Int)} {t : Nat -> Int} {M : Nat} (hg : Lg M ls) (hn : ∀ i, i < ls.length -> 0 <= t i) : ∀ {r : Nat}, (∀ v, v < M + 1 -> (stB ls t (M + 1) r).x v = 0 ∨ ∃ a L, Pth (RL ls t) a L v ((stB ls t (M + 1) r).x v)) /\ Rb ls t M (stB ls t (M + 1) r).x ⟨(stB ls t (M + 1) r).x, (stB ls t (M + 1) r).c, -1⟩
 | 0 => ⟨fun v _ => .inl rfl, fun v _ => Int.le_refl _, fun v _ => .inl rfl, .inl ⟨rfl, fun v _ => rfl⟩⟩
 | r + 1 => by
  obtain ⟨_, i2⟩ := Rb.st hg hn (r := r);obtain ⟨j1, _⟩ := i2.lw hg hn (Nat.le_refl (M + 1));exact ⟨j1.att, fun v _ => Int.le_refl _, j1.att, .inl ⟨rfl, fun v _ => rfl⟩⟩
section
variable {X : FuncId -> List Value -> St -> (Value -> St -> Bool) -> Bool}
end
def NG (w : List Int) : List Int := w.map (fun x => -x)
theorem ng_len {w : List Int} : (NG w).length = w.length := List.length_map ..
theorem ng_get {w : List Int} {i : Nat} : (NG w).getD i 0 = -(w.getD i 0) := by
 unfold NG;rw [List.getD_eq_getElem?_getD, List.getD_eq_getElem?_getD, List.getElem?_map];cases w[i]? <;> rfl
def Ngd (l w : List Int) (k : Nat) : Prop := w.length = l.length /\ ∀ i, i < k -> w.getD i 0 = -(l.getD i 0)
theorem Ngd.step {l w : List Int} {k : Nat} (h : Ngd l w k) (hk : k < l.length) : Ngd l (w.set k (-(l.getD k 0))) (k + 1) := by
 refine ⟨by rw [List.length_set]; exact h.1, fun i hi => ?_⟩;rw [getD_set (by rw [h.1]; exact hk)];by_cases q : k = i
 ·rw [if_pos q, q]
 ·rw [if_neg q]; exact h.2 i (by omega)
theorem Ngd.eq {l w : List Int} (h : Ngd l w l.length) : w = NG l := by
 refine List.ext_getElem? (fun j => ?_);by_cases hj : j < l.length
 ·have h1 := h.2 j hj
  rw [<- ng_get] at h1;rw [List.getElem?_eq_getElem (by rw [h.1]; exact hj), List.getElem?_eq_getElem (by rw [ng_len]; exact hj)];rw [List.getD_eq_getElem?_getD, List.getD_eq_getElem?_getD, List.getElem?_eq_getElem (by rw [h.1]; exact hj), List.getElem?_eq_getElem (by rw [ng_len]; exact hj)] at h1;exact congrArg some h1
 ·rw [List.getElem?_eq_none (by rw [h.1]; omega), List.getElem?_eq_none (by rw [ng_len]; omega)]
theorem wok_at {w : List Int} (h : WOk w w.length) {i : Nat} (hi : i < w.length) : -3600000000000 <= w.getD i 0 /\ w.getD i 0 <= 3600000000000 := by
 have h1 := h i hi;have h2 := szs_pos (w := w) (k := i);have h3 : szs w i + max (w.getD i 0) (-(w.getD i 0)) <= 3600000000000 := h1;omega
theorem ng_szs {w : List Int} : ∀ {k : Nat}, szs (NG w) k = szs w k
 | 0 => rfl
 | k + 1 => by
  show szs (NG w) k + max ((NG w).getD k 0) (-((NG w).getD k 0)) = szs w k + max (w.getD k 0) (-(w.getD k 0));rw [ng_szs, ng_get]; omega
theorem ng_wok {w : List Int} (h : WOk w w.length) : WOk (NG w) (NG w).length := fun k hk => by
 rw [ng_szs]; rw [ng_len] at hk; exact h k hk
theorem ng_fit {w : List Int} (h : WOk w w.length) : ∀ x ∈ NG w, -9223372036854775808 <= x /\ x < 9223372036854775808 := fun x hx => by
 obtain ⟨j, hj, e⟩ := List.mem_iff_getElem.1 hx;rw [ng_len] at hj;have h1 := wok_at h hj;have h2 : (NG w).getD j 0 = x := by rw [List.getD_eq_getElem?_getD, List.getElem?_eq_getElem (by rw [ng_len]; exact hj), e]; rfl
 rw [ng_get] at h2;omega
section
variable {X : FuncId -> List Value -> St -> (Value -> St -> Bool) -> Bool}
theorem turned_s (n : Nat) (aw : Option Addr) (cw : Nat) (w : List Int) (s : St) (hs : Wf s) (hn : 281474976710656 <= n) (hW : IntsE s aw w) (hb : ∀ i, i < w.length -> -1000000000000000 <= w.getD i 0 /\ w.getD i 0 <= 1000000000000000) (h64 : w.length <= 100000) : Spec Try.prog (tabK tabw) X (n + 400) 61 [.slice aw w.length cw] s (fun v A => ∃ b, v = .slice (some ⟨b, 0, none⟩) w.length w.length /\ A = [.row b 3 false (ints (NG w))]) := by
 refine enter bw61_at rfl hs ?_;unfold bw61;have hlen := hW.len;refine rS (kM J J (Q0 (rS (kM J J (kO J (a_lenx J hW.spot (kO J (a_mksI (m := 0) (c := w.length) J J (by omega) (by omega) (by omega) (fun b1 => (kM J J (Q0 (rQ (rS (kM J J (kO J (a_lenx J hW.spot (kM J J (Q0 (Y1 (Z5 (fun j e A => ∃ (k : Nat) (w9 : List Int), e = [(3, .slice (some ⟨b1, 0, none⟩) k w.length), (9, .slice aw w.length cw), (10, .int .i64 (w.length : Int)), (11, .int .i64 (k : Int))] /\ A = (.row b1 3 false (ints w9) :: []) /\ j = w.length - k /\ k <= w.length /\ Ngd w w9 k) 200 0 281474976710656 ?_ (j := _) (env2 := _) (A2 := _) ?_ ?_ ?_ ?_ ⟨0, List.replicate w.length 0, rfl, rfl, rfl, Nat.zero_le _, ⟨by simp, fun i hi => absurd hi (Nat.not_lt_zero i)⟩⟩))))))))))))))))))))
 rotate_left
 ·omega
 ·omega
 ·exact (lc 3 J (lc 9 J (lc 10 J (lc 11 J Less.nil))))
 ·exact (.q .slnil)
 rintro n hn j _ _ ⟨k, w9, rfl, rfl, rfl, hk, hw⟩;have hwl9 := hw.1;refine rS (kO J (Q6 J J (fun h2 => ?_) (fun h2 => ?_)))
 ·refine Q0 (rQ (Y0 J (Q1 (W0 (rQ (Y1 (rS (kO J (Q8 (j := k) hW rfl rfl (by omega) (by first | rfl | omega) (by omega) (fun _ _ a3 => ?_))))))))))
  have hbk := hb k (by omega);refine kO J (W7 J (hW.at a3 (by omega)) (kM J J (Q0 (rI (kM J J (kM J J (kO J (a_neg J (by omega) (kO J (a_lit J J J (fun b4 => (kO J (a_appc J J (Src.own .here rfl (by simp)) (.next .here) (by rw [ints_len]; omega) (by omega) (by show _ < 18446744073709551616; omega) (by omega) (by omega) (kM J J (Q0 (U1 (W0 (rI (kO J (Q4 J J (by omega) (kM J J (Q0 (W0 ?_)))))))))))))))))))))));exact ⟨rfl, _, _, _, (show w.length - (k + 1) < w.length - k by omega), (lc 3 J (lc 9 J (lc 10 J (lc 11 J Less.nil)))), (.cons _ (.q .slnil)), ⟨k + 1, _, rfl, (by show [Ob.row _ _ _ (over (ints w9) (k * 1) [.int .i64 _])] = _; rw [over_ints (by omega)]), rfl, by omega, (hw.step (by omega))⟩⟩
 ·refine Q0 (rQ (Z0 J (W5 (W3 (W3 (U3 (W0 (rS (kM J J (kM J J (Q0 (Z3 ?_))))))))))))
  have hkl : k = w.length := by omega
  subst hkl;rw [hw.eq];exact end1A J (.q .slnil) ⟨_, rfl, rfl⟩
theorem solve_n (n : Nat) (m : Int) (al : Option Addr) (cl : Nat) (ls : List (List Int)) (aw : Option Addr) (cw nw : Nat) (w : List Int) (s : St) (hs : Wf s) (hn : 6755399441055744 <= n) (hL : RowsE s 4 al ls) (hcl : al = none -> cl = 0) (hW : IntsE s aw w) (hnw : nw = w.length) (hCap : CapOk s aw w.length cw) : Spec Try.prog (tabK tabw) X (n + 9500) 25 [.agg ⟨[.int .i64 m, .slice al ls.length cl]⟩, .slice aw nw cw] s (fun v A => (¬ sysE m ls = 0 /\ v = .tuple #[.pointer none, .int .i64 (sysE m ls)] /\ A = []) ∨ (sysE m ls = 0 /\ ¬ ((w.length : Int) = m + 1 /\ WOk w w.length) /\ v = .tuple #[.pointer none, .int .i64 27] /\ A = []) ∨ (sysE m ls = 0 /\ ((w.length : Int) = m + 1 /\ WOk w w.length) /\ Uns ls (m.toNat + 1) /\ v = .tuple #[.pointer none, .int .i64 23] /\ A = []) ∨ (sysE m ls = 0 /\ ((w.length : Int) = m + 1 /\ WOk w w.length) /\ ¬ Uns ls (m.toNat + 1) /\ Opn ls (m.toNat + 1) (du0 w m.toNat) /\ v = .tuple #[.pointer none, .int .i64 22] /\ A = []) ∨ (sysE m ls = 0 /\ ((w.length : Int) = m + 1 /\ WOk w w.length) /\ ¬ Uns ls (m.toNat + 1) /\ ∃ t p, Opt ls (m.toNat + 1) (du0 w m.toNat) t p /\ (∀ i, i < ls.length -> t i <= 3600000000000) /\ tot t ls.length <= 230400000000000 /\ (∀ v, v < m.toNat + 1 -> -1300000 <= p v /\ p v <= 30000000) /\ ∃ b bt bn O B, v = .tuple #[.pointer (some ⟨b, 0, none⟩), .int .i64 0] /\ A = nobj B (nl ls ls.length) O ++ [.row b 93 false [.int .i64 m, .slice al ls.length cl, .slice (some ⟨bt, 0, none⟩) ls.length ls.length, .slice (some ⟨bn, 0, none⟩) (m.toNat + 1) (m.toNat + 1)], .row bn 25 false (nsl B (nl ls ls.length) (m.toNat + 1)), .row bt 3 false (ints (xs t ls.length))] /\ NO O (m.toNat + 1) (nl ls ls.length))) := by
 subst hnw;exact solve_s n m al cl ls aw cw w s hs hn hL hcl hW hCap
set_option maxRecDepth 100000 in
theorem Range_s (n : Nat) (m : Int) (al : Option Addr) (cl : Nat) (ls : List (List Int)) (aw : Option Addr) (cw : Nat) (w : List Int) (s : St) (hs : Wf s) (hn : 7318349394477056 <= n) (hL : RowsE s 4 al ls) (hcl : al = none -> cl = 0) (hW : IntsE s aw w) (hCap : CapOk s aw w.length cw) : Spec Try.prog (tabK tabw) X (n + 11000) 13 [.agg ⟨[.int .i64 m, .slice al ls.length cl]⟩, .slice aw w.length cw] s (fun v A => (∃ e, (e = sysE m ls ∨ e = 27 ∨ e = 23) /\ ¬ e = 0 /\ (sysE m ls = 0 -> ((w.length : Int) = m + 1 /\ WOk w w.length) -> e = 23 /\ Uns ls (m.toNat + 1)) /\ (¬ sysE m ls = 0 -> e = sysE m ls) /\ (sysE m ls = 0 -> ¬ ((w.length : Int) = m + 1 /\ WOk w w.length) -> e = 27) /\ v = .tuple #[.int .i64 0, .int .i64 0, .int .i64 e] /\ A = []) ∨ (sysE m ls = 0 /\ ((w.length : Int) = m + 1 /\ WOk w w.length) /\ ¬ Uns ls (m.toNat + 1) /\ (Opn ls (m.toNat + 1) (du0 w m.toNat) ∨ Opn ls (m.toNat + 1) (du0 (NG w) m.toNat)) /\ v = .tuple #[.int .i64 0, .int .i64 0, .int .i64 22] /\ A = []) ∨ (sysE m ls = 0 /\ ((w.length : Int) = m + 1 /\ WOk w w.length) /\ ¬ Uns ls (m.toNat + 1) /\ ∃ t p t2 p2, Opt ls (m.toNat + 1) (du0 w m.toNat) t p /\ Opt ls (m.toNat + 1) (du0 (NG w) m.toNat) t2 p2 /\ tot t ls.length <= 230400000000000 /\ tot t2 ls.length <= 230400000000000 /\ v = .tuple #[.int .i64 (-(tot (fun i => t2 i * lw ls i) ls.length)), .int .i64 (tot (fun i => t i * lw ls i) ls.length), .int .i64 0] /\ A = [])) := by
 refine enter bw13_at rfl hs ?_;unfold bw13;have hlen := hL.len;have hlenW := hW.len;refine rS (kO J (a_box J J J (fun b1 => (kM J J (kM J J (kM J J (Q0 (rS (kO J (U5 J (by decide) .here rfl (kM J J (kG J J (a_inl J J bw34_at rfl ?_)))))))))))));unfold bw34;refine rS (kO J (a_box J J J (fun b2 => (kM J J (kM J J (kM J J (Q0 (rS (kO J (U5 J (by decide) .here rfl (kM J J (kO J (Y5 J J (fun s1 h1 => solve_s _ m al cl ls aw cw w s1 h1.wf (by omega) (hL.ext hs h1.2.1) hcl (hW.ext hs h1.2.1) (hCap.ext hs h1.2.1)) (fun v1 A1 q1 => ?_))))))))))))));rcases q1 with ⟨hsx, rfl, rfl⟩ | ⟨hsys, hww, rfl, rfl⟩ | ⟨hsys, hww, hun, rfl, rfl⟩ | ⟨hsys, hww, hnu, hop, rfl, rfl⟩ | ⟨hsys, hww, hnu, q1⟩
 ·have hsx9 := hsx
  refine kM J J (kO J (Q2 J J (kO J (Q2 J J (kM J J (kM J J (Q0 (rQ (rS (kM J J (kO J (Z4 J J (fun h6 => ?_) (fun h6 => ?_)))))))))))))
  ·refine Q0 (Y0 J (rS (kM J J (kM J J (kM J J (kM J J (Q0 (Z3 (V3 (endD3A J J J .nil (.refl _) (kM J J (kO J (Q2 J J (kO J (Q2 J J (kO J (Q2 J J (kM J J (kM J J (kM J J (Q0 (rQ (rS (kM J J (kO J (Z4 J J (fun h7 => ?_) (fun h7 => ?_)))))))))))))))))))))))))))
   ·refine Q0 (Y0 J (rS (kM J J (kM J J (kM J J (kM J J (Q0 (Z3 (V3 ?_)))))))))
    exact end3A J J J (List.nil_sublist _) (.inl ⟨_, .inl rfl, hsx, fun q => absurd q hsx, fun _ => rfl, fun q => absurd q hsx, rfl, rfl⟩)
   ·exfalso; omega
  ·exfalso; omega
 ·have hww9 := hww
  refine kM J J (kO J (Q2 J J (kO J (Q2 J J (kM J J (kM J J (Q0 (rQ (rS (kM J J (kO J (Z4 J J (fun _ => (Q0 (Y0 J (rS (kM J J (kM J J (kM J J (kM J J (Q0 (Z3 (V3 (endD3A J J J .nil (.refl _) (kM J J (kO J (Q2 J J (kO J (Q2 J J ?_))))))))))))))))) (fun h => absurd h (by decide))))))))))))));refine kO J (Q2 J J (kM J J (kM J J (kM J J (Q0 (rQ (rS (kM J J (kO J (Z4 J J (fun _ => (Q0 (Y0 J (rS (kM J J (kM J J (kM J J (kM J J (Q0 (Z3 (V3 ?_))))))))))) (fun h => absurd h (by decide))))))))))));exact end3A J J J (List.nil_sublist _) (.inl ⟨27, .inr (.inl rfl), by decide, fun _ q => absurd q hww, fun q => absurd hsys q, fun _ _ => rfl, rfl, rfl⟩)
 ·have hun9 := hun
  refine kM J J (kO J (Q2 J J (kO J (Q2 J J (kM J J (kM J J (Q0 (rQ (rS (kM J J (kO J (Z4 J J (fun _ => (Q0 (Y0 J (rS (kM J J (kM J J (kM J J (kM J J (Q0 (Z3 (V3 (endD3A J J J .nil (.refl _) (kM J J (kO J (Q2 J J (kO J (Q2 J J ?_))))))))))))))))) (fun h => absurd h (by decide))))))))))))));refine kO J (Q2 J J (kM J J (kM J J (kM J J (Q0 (rQ (rS (kM J J (kO J (Z4 J J (fun _ => (Q0 (Y0 J (rS (kM J J (kM J J (kM J J (kM J J (Q0 (Z3 (V3 ?_))))))))))) (fun h => absurd h (by decide))))))))))));exact end3A J J J (List.nil_sublist _) (.inl ⟨23, .inr (.inr rfl), by decide, fun _ _ => ⟨rfl, hun⟩, fun q => absurd hsys q, fun _ q => absurd hww q, rfl, rfl⟩)
 ·have hop9 := hop
  refine kM J J (kO J (Q2 J J (kO J (Q2 J J (kM J J (kM J J (Q0 (rQ (rS (kM J J (kO J (Z4 J J (fun _ => (Q0 (Y0 J (rS (kM J J (kM J J (kM J J (kM J J (Q0 (Z3 (V3 (endD3A J J J .nil (.refl _) (kM J J (kO J (Q2 J J (kO J (Q2 J J ?_))))))))))))))))) (fun h => absurd h (by decide))))))))))))));refine kO J (Q2 J J (kM J J (kM J J (kM J J (Q0 (rQ (rS (kM J J (kO J (Z4 J J (fun _ => (Q0 (Y0 J (rS (kM J J (kM J J (kM J J (kM J J (Q0 (Z3 (V3 ?_))))))))))) (fun h => absurd h (by decide))))))))))));exact end3A J J J (List.nil_sublist _) (.inr (.inl ⟨hsys, (by first | exact hww1 | exact hww), (by first | exact hnu1 | exact hnu), (by first | exact .inl hop | exact .inr hop), rfl, rfl⟩))
 ·obtain ⟨hm0, hM, h400, hlm⟩ := sysE_ok hsys
  obtain ⟨M, rfl⟩ : ∃ q : Nat, m = (q : Int) := ⟨m.toNat, by omega⟩;obtain ⟨t, p, hOp, htb, hts, hpb, bf3, bt4, bn5, O, B, rfl, rfl, hO⟩ := q1;rw [Int.toNat_natCast, List.append_assoc, List.cons_append, List.cons_append, List.cons_append, List.nil_append];have hMM := hM;change Opt ls (M + 1) (du0 w M) t p at hOp;change ∀ v, v < M + 1 -> _ at hpb;have hwl : w.length = M + 1 := by omega
  have hww1 := hww;have hnu1 := hnu;refine kM J J (kO J (Q2 J J (kO J (Q2 J J (kM J J (kM J J (Q0 (rQ (rS (kM J J (kO J (Z4 J J (fun h => absurd h (by decide)) (fun _ => (Q0 (Z0 J (Q1 (W0 (rS (kO J (U5 J (by decide) (.app (.next (.next (.next .here)))) J (kM J J (kO J (Y5 J J (fun s1 h1 => turned_s _ aw cw w s1 h1.wf (by omega) (hW.ext hs h1.2.1) (fun i hi => by have := wok_at hww.2 hi; omega) (by omega)) (fun v1 A1 q1 => ?_))))))))))))))))))))))));obtain ⟨bg15, rfl, rfl⟩ := q1;rw [List.singleton_append];refine kZ J (a_againa J J (by decide) (.next (.app (.next (.next (.next .here))))) J (by simp [eqL, eqV, eqA, kindEq, intEq_eq, V6 hL.spot, V6 hW.spot]) (kO J (Y5 J J (fun s1 h1 => solve_n _ (M : Int) al cl ls _ _ _ (NG w) s1 h1.wf (by omega) (hL.ext hs h1.2.1) hcl (IntsE.own (h1.own .here) (ng_fit hww.2) (by rw [ng_len]; omega)) ng_len.symm (.inl ⟨by show _ < 18446744073709551616; omega, by rw [ng_len]; omega⟩)) (fun v1 A1 q1 => ?_))));rcases q1 with ⟨hsx, rfl, rfl⟩ | ⟨hsys, hww, rfl, rfl⟩ | ⟨hsys, hww, hun, rfl, rfl⟩ | ⟨hsys, hww, hnu, hop, rfl, rfl⟩ | ⟨hsys, hww, hnu, q1⟩
  ·exact absurd hsys hsx
  ·exact absurd ⟨by rw [ng_len]; exact hww1.1, ng_wok hww1.2⟩ hww
  ·exact absurd hun hnu1
  ·have hop92 := hop
   refine kM J J (kO J (Q2 J J (kO J (Q2 J J (kM J J (kM J J (Q0 (rQ (rS (kM J J (kO J (Z4 J J (fun _ => (Q0 (Y0 J (rS (kM J J (kM J J (kM J J (kM J J (Q0 (Z3 (V3 (endD3A J J J .nil (.refl _) (kM J J (kO J (Q2 J J (kO J (Q2 J J ?_))))))))))))))))) (fun h => absurd h (by decide))))))))))))));refine kO J (Q2 J J (kM J J (kM J J (kM J J (Q0 (rQ (rS (kM J J (kO J (Z4 J J (fun _ => (Q0 (Y0 J (rS (kM J J (kM J J (kM J J (kM J J (Q0 (Z3 (V3 ?_))))))))))) (fun h => absurd h (by decide))))))))))));exact end3A J J J (List.nil_sublist _) (.inr (.inl ⟨hsys, (by first | exact hww1 | exact hww), (by first | exact hnu1 | exact hnu), (by first | exact .inl hop | exact .inr hop), rfl, rfl⟩))
  ·obtain ⟨t2, p2, hOp2, htb2, hts2, hpb2, bf16, bt17, bn18, O2, B2, rfl, rfl, hO2⟩ := q1
   rw [Int.toNat_natCast, List.append_assoc, List.cons_append, List.cons_append, List.cons_append, List.nil_append];have hMM2 := hM;refine kM J J (kO J (Q2 J J (kO J (Q2 J J (kM J J (kM J J (Q0 (rQ (rS (kM J J (kO J (Z4 J J (fun h => absurd h (by decide)) (fun _ => (Q0 (Z0 J (Q1 (W0 (rS (kM J J (kM J J (kM J J (kM J J (kM J J (Q0 (Z3 (endD3A J J J .nil (.refl _) (kM J J ?_)))))))))))))))))))))))))));refine kO J (Q2 J J (kO J (Q2 J J (kO J (Q2 J J (kM J J (kM J J (kM J J (Q0 (rQ (rS (kM J J (kO J (Z4 J J (fun h => absurd h (by decide)) (fun _ => (Q0 (Z0 J (Q1 (W0 (rS (kM J J (kG J J (a_inl J J bw26_at rfl ?_)))))))))))))))))))))));unfold bw26;refine rS (kM J J (Q0 (rS (kM J J (Q0 (rQ (rS (kM J J (kO J (Q5 J (kO J (Z2 J (kO J (Z2 J (kO J (Z1 J (.app .here) J (kO J (a_lenx J hL.spot (kM J J (Q0 (Y1 ?_)))))))))))))))))))));refine Z5 (fun j e A => ∃ (k : Nat), e = [(0, .pointer (some ⟨bf16, 0, none⟩)), (3, .int .i64 (tot (fun i => t2 i * lw ls i) k)), (10, .slice al ls.length cl), (11, .int .i64 (ls.length : Int)), (12, .int .i64 (k : Int))] /\ A = (nobj B2 (nl ls ls.length) O2 ++ (.row bf16 93 false ([.int .i64 (M : Int), .slice al ls.length cl, .slice (some ⟨bt17, 0, none⟩) ls.length ls.length, .slice (some ⟨bn18, 0, none⟩) (M + 1) (M + 1)]) :: (.row bn18 25 false (nsl B2 (nl ls ls.length) (M + 1)) :: (.row bt17 3 false (ints (xs t2 ls.length)) :: (nobj B (nl ls ls.length) O ++ (.row bf3 93 false ([.int .i64 (M : Int), .slice al ls.length cl, .slice (some ⟨bt4, 0, none⟩) ls.length ls.length, .slice (some ⟨bn5, 0, none⟩) (M + 1) (M + 1)]) :: (.row bn5 25 false (nsl B (nl ls ls.length) (M + 1)) :: (.row bt4 3 false (ints (xs t ls.length)) :: [])))))))) /\ j = ls.length - k /\ k <= ls.length) 200 0 281474976710656 ?_ (j := _) (env2 := _) (A2 := _) ?_ ?_ ?_ ?_ ⟨0, rfl, rfl, rfl, Nat.zero_le _⟩
   rotate_left
   ·omega
   ·omega
   ·exact (lc 0 J (lc 3 J (lc 10 J (lc 11 J (lc 12 J Less.nil)))))
   ·exact (.r (.q (.q (.q (.cons _ (.r (.q (.q (.q (.cons _ (.cons _ .slnil)))))))))))
   rintro n hn j _ _ ⟨k, rfl, rfl, rfl, hk⟩;refine rS (kO J (Q6 J J (fun h23 => ?_) (fun h23 => ?_)))
   ·obtain ⟨q4, o4, y0, y1, y2, y3, ahL, hx, hat, i0, i1, i2, i3⟩ := hL.row4 (k := k) (by omega)
    have hat2 := hat;obtain ⟨d0, d1, d2, d3, _⟩ := hat2;have := i0.lo; have := i0.hi;have := i1.lo; have := i1.hi;have := i2.lo; have := i2.hi;have := i3.lo; have := i3.hi;have hlw9 := lw_row hx;have hsr9 := sum_rng hlm hOp2 hts2 (show k < ls.length by omega);rw [hlw9] at hsr9;refine Q0 (rQ (Y0 J (Q1 (W0 (rQ (Y1 (rS (kM J J (kO J (a_iaA (j := k) ahL rfl rfl (by first | rfl | omega) (by first | decide | omega) (kO J (a_ldar J (by decide) (by assumption) J (kO J (a_new J J (fun b24 => (kM J J (kZ J (Q7 J J .here rfl rfl rfl rfl (Q0 (rI (kM J J (kM J J (kO J (Q5 J (kO J (Z2 J (kO J (Z1 J (.next (.app .here)) J (kM J J (kO J (Y4 (j := k) J J (by omega) (by omega) (kO J (V5 (x := (t2) (k)) J (.next (.app (.next (.next .here)))) (by rw [W4]; omega) (V4 (by omega)) ?_)))))))))))))))))))))))))))))))));refine kO J (Z2 J (kO J (Z1 J .here rfl (kO J (a_mul J J (by omega) (kO J (Q4 J J (by omega) (kM J J (Q0 (U1 (W0 (rI (kO J (Q4 J J (by omega) (kM J J (Q0 (W0 ?_)))))))))))))))));exact ⟨rfl, _, _, _, (show ls.length - (k + 1) < ls.length - k by omega), (lc 0 J (lc 3 (by show some (Value.int .i64 (_ + t2 k * y2)) = some (Value.int .i64 (tot (fun i => t2 i * lw ls i) k + t2 k * lw ls k)); rw [hlw9]) (lc 10 J (lc 11 J (lc 12 J Less.nil))))), (.cons _ (.r (.q (.q (.q (.r (.q (.q (.q .slnil))))))))), ⟨k + 1, rfl, rfl, rfl, by omega⟩⟩
   ·have hkl : k = ls.length := by omega
    subst hkl;refine Q0 (rQ (Z0 J (W5 (W3 (W3 (U3 (W0 (rS (kM J J (kM J J (Q0 (Z3 (endD1 J .nil ?_)))))))))))));have hsa2 := sum_all hlm hOp2 hts2;refine kO J (a_neg J (by omega) (kM J J (kG J J (a_inl J J bw26_at rfl ?_))));unfold bw26;refine rS (kM J J (Q0 (rS (kM J J (Q0 (rQ (rS (kM J J (kO J (Q5 J (kO J (Z2 J (kO J (Z2 J (kO J (Z1 J (.app (.next (.next (.next (.app .here))))) J (kO J (a_lenx J hL.spot (kM J J (Q0 (Y1 ?_)))))))))))))))))))));refine Z5 (fun j e A => ∃ (k : Nat), e = [(0, .pointer (some ⟨bf3, 0, none⟩)), (3, .int .i64 (tot (fun i => t i * lw ls i) k)), (10, .slice al ls.length cl), (11, .int .i64 (ls.length : Int)), (12, .int .i64 (k : Int))] /\ A = (nobj B2 (nl ls ls.length) O2 ++ (.row bf16 93 false ([.int .i64 (M : Int), .slice al ls.length cl, .slice (some ⟨bt17, 0, none⟩) ls.length ls.length, .slice (some ⟨bn18, 0, none⟩) (M + 1) (M + 1)]) :: (.row bn18 25 false (nsl B2 (nl ls ls.length) (M + 1)) :: (.row bt17 3 false (ints (xs t2 ls.length)) :: (nobj B (nl ls ls.length) O ++ (.row bf3 93 false ([.int .i64 (M : Int), .slice al ls.length cl, .slice (some ⟨bt4, 0, none⟩) ls.length ls.length, .slice (some ⟨bn5, 0, none⟩) (M + 1) (M + 1)]) :: (.row bn5 25 false (nsl B (nl ls ls.length) (M + 1)) :: (.row bt4 3 false (ints (xs t ls.length)) :: [])))))))) /\ j = ls.length - k /\ k <= ls.length) 200 0 281474976710656 ?_ (j := _) (env2 := _) (A2 := _) ?_ ?_ ?_ ?_ ⟨0, rfl, rfl, rfl, Nat.zero_le _⟩
    rotate_left
    ·omega
    ·omega
    ·exact (lc 0 J (lc 3 J (lc 10 J (lc 11 J (lc 12 J Less.nil)))))
    ·exact (.r (.q (.q (.q (.r (.q (.q (.q .slnil))))))))
    rintro n hn j _ _ ⟨k, rfl, rfl, rfl, hk⟩;refine rS (kO J (Q6 J J (fun h25 => ?_) (fun h25 => ?_)))
    ·obtain ⟨q4, o4, y0, y1, y2, y3, ahL, hx, hat, i0, i1, i2, i3⟩ := hL.row4 (k := k) (by omega)
     have hat2 := hat;obtain ⟨d0, d1, d2, d3, _⟩ := hat2;have := i0.lo; have := i0.hi;have := i1.lo; have := i1.hi;have := i2.lo; have := i2.hi;have := i3.lo; have := i3.hi;have hlw9 := lw_row hx;have hsr9 := sum_rng hlm hOp hts (show k < ls.length by omega);rw [hlw9] at hsr9;refine Q0 (rQ (Y0 J (Q1 (W0 (rQ (Y1 (rS (kM J J (kO J (a_iaA (j := k) ahL rfl rfl (by first | rfl | omega) (by first | decide | omega) (kO J (a_ldar J (by decide) (by assumption) J (kO J (a_new J J (fun b26 => (kM J J (kZ J (Q7 J J .here rfl rfl rfl rfl (Q0 (rI (kM J J (kM J J (kO J (Q5 J (kO J (Z2 J (kO J (Z1 J (.next (.app (.next (.next (.next (.app .here)))))) J (kM J J (kO J (Y4 (j := k) J J (by omega) (by omega) (kO J (V5 (x := (t) (k)) J (.next (.app (.next (.next (.next (.app (.next (.next .here)))))))) (by rw [W4]; omega) (V4 (by omega)) ?_)))))))))))))))))))))))))))))))));refine kO J (Z2 J (kO J (Z1 J .here rfl (kO J (a_mul J J (by omega) (kO J (Q4 J J (by omega) (kM J J (Q0 (U1 (W0 (rI (kO J (Q4 J J (by omega) (kM J J (Q0 (W0 ?_)))))))))))))))));exact ⟨rfl, _, _, _, (show ls.length - (k + 1) < ls.length - k by omega), (lc 0 J (lc 3 (by show some (Value.int .i64 (_ + t k * y2)) = some (Value.int .i64 (tot (fun i => t i * lw ls i) k + t k * lw ls k)); rw [hlw9]) (lc 10 J (lc 11 J (lc 12 J Less.nil))))), (.cons _ (.r (.q (.q (.q (.r (.q (.q (.q .slnil))))))))), ⟨k + 1, rfl, rfl, rfl, by omega⟩⟩
    ·have hkl : k = ls.length := by omega
     subst hkl;refine Q0 (rQ (Z0 J (W5 (W3 (W3 (U3 (W0 (rS (kM J J (kM J J (Q0 (Z3 (endD1 J .nil (kM J J (kM J J (kM J J (Q0 (Z3 ?_))))))))))))))))));exact end3A J J J (List.nil_sublist _) (.inr (.inr ⟨hsys, hww1, hnu1, t, p, t2, p2, hOp, hOp2, hts, hts2, rfl, rfl⟩))
end
def UlOk (TU : Nat) (a : Option Addr) (n c : Nat) (l : List Value) (UL : List Ob) : Prop := (a = none /\ n = 0 /\ c = 0 /\ l = [] /\ UL = []) ∨ ∃ b op, a = some ⟨b, 0, none⟩ /\ 0 < n /\ l.length = n * 2 /\ Tight op n c /\ UL = [.row b TU op l]
theorem UlOk.len {TU : Nat} {a : Option Addr} {n c : Nat} {l : List Value} {UL : List Ob} (h : UlOk TU a n c l UL) : l.length = n * 2 := by
 rcases h with ⟨_, rfl, _, rfl, _⟩ | ⟨_, _, _, _, hl, _⟩
 ·rfl
 ·exact hl
section
variable {X : FuncId -> List Value -> St -> (Value -> St -> Bool) -> Bool}
end
theorem hN_of {ls : List (List Int)} {M : Nat} (hl : lmB (M : Int) ls = true) : ∀ i, i < ls.length -> la ls i < M + 1 /\ lb ls i < M + 1 := fun i hi => by
 obtain ⟨h1, h2, _⟩ := lg_of hl i hi;exact ⟨h1, h2⟩
section
variable {X : FuncId -> List Value -> St -> (Value -> St -> Bool) -> Bool}
end
def modN (x m : Int) : Int := (x.tmod m + m).tmod m
theorem modN_bd {x m : Int} (h : 0 < m) : 0 <= modN x m /\ modN x m < m := by
 have h1 := tmodP_bd (x := x) h;unfold modN;exact ⟨Int.tmod_nonneg m (by omega), Int.tmod_lt_of_pos _ h⟩
theorem modN_sm {x m : Int} (h : 0 <= x) (h2 : x < m) : modN x m = x := by
 unfold modN;rw [Int.tmod_eq_emod_of_nonneg h, Int.emod_eq_of_lt h h2, Int.tmod_eq_emod_of_nonneg (by omega), Int.add_emod_right, Int.emod_eq_of_lt h h2]
theorem modN_up {x m : Int} (h : m <= x) (h0 : 0 < m) (h2 : x < m + m) : modN x m = x - m := by
 have e1 : x.tmod m = x - m := by
  have e : x = (x - m) + m := by omega
  have e2 : x % m = x - m := by
   rw [e, Int.add_emod_right, Int.emod_eq_of_lt (by omega) (by omega)]; omega
  rw [Int.tmod_eq_emod_of_nonneg (by omega), e2]
 unfold modN;rw [e1, Int.tmod_eq_emod_of_nonneg (by omega), Int.add_emod_right, Int.emod_eq_of_lt (by omega) (by omega)]
def mdM (r0 : Int) : Nat := (1 + modN r0 6).toNat
theorem mdM_bd {r0 : Int} : 1 <= mdM r0 /\ mdM r0 <= 6 /\ 1 + modN r0 6 = (mdM r0 : Int) := by
 have := modN_bd (x := r0) (m := 6) (by decide);unfold mdM; omega
def mdRow (M : Nat) (y0 y1 y2 y3 : Int) : List Int := [modN y0 ((M : Int) + 1), modN (modN y0 ((M : Int) + 1) + 1 + modN y1 (M : Int)) ((M : Int) + 1), modN y2 141 - 40, 1 + modN y3 6]
def mdR (M : Nat) (r : List Int) : List Int := mdRow M (r.getD 0 0) (r.getD 1 0) (r.getD 2 0) (r.getD 3 0)
def mdL (M : Nat) (rs : List (List Int)) : List (List Int) := (rs.take 20).map (mdR M)
def mdK (M : Nat) (rs : List (List Int)) (k : Nat) : List (List Int) := (rs.take k).map (mdR M)
theorem mdK_len {M : Nat} {rs : List (List Int)} {k : Nat} (h : k <= rs.length) : (mdK M rs k).length = k := by unfold mdK; rw [List.length_map, List.length_take]; omega
theorem mdL_len {M : Nat} {rs : List (List Int)} : (mdL M rs).length <= 20 := by unfold mdL; rw [List.length_map, List.length_take]; omega
theorem mdK_step {M : Nat} {rs : List (List Int)} {k : Nat} {y0 y1 y2 y3 : Int} (h : rs[k]? = some [y0, y1, y2, y3]) : mdK M rs (k + 1) = mdK M rs k ++ [mdRow M y0 y1 y2 y3] := by
 unfold mdK;rw [List.take_add_one, h, List.map_append]; rfl
theorem limC_row {y0 y1 y2 y3 : Int} : limC [[y0, y1, y2, y3]] = [.int .i64 y0, .int .i64 y1, .int .i64 y2, .int .i64 y3] := by kernel_rfl
theorem mdK_app {M : Nat} {rs : List (List Int)} {k : Nat} {y0 y1 y2 y3 : Int} (h : rs[k]? = some [y0, y1, y2, y3]) : limC (mdK M rs k) ++ [.int .i64 (modN y0 ((M : Int) + 1)), .int .i64 (modN (modN y0 ((M : Int) + 1) + 1 + modN y1 (M : Int)) ((M : Int) + 1)), .int .i64 (modN y2 141 - 40), .int .i64 (1 + modN y3 6)] = limC (mdK M rs (k + 1)) := by
 rw [mdK_step h, limC_app]
 congr 1
 exact limC_row.symm
theorem mdK_20 {M : Nat} {rs : List (List Int)} : mdK M rs 20 = mdL M rs := rfl
theorem mdK_all {M : Nat} {rs : List (List Int)} (h : rs.length <= 20) : mdK M rs rs.length = mdL M rs := by
 unfold mdK mdL;rw [List.take_of_length_le (Nat.le_refl _), List.take_of_length_le h]
theorem md_ok {M : Nat} {r : List Int} (h1 : 1 <= M) (h2 : M <= 6) : ∃ y0 y1 y2 y3 : Int, mdR M r = [y0, y1, y2, y3] /\ ((0 <= (M : Int) /\ (M : Int) <= 64) /\ (0 <= y0 /\ y0 <= M) /\ (0 <= y1 /\ y1 <= M) /\ ¬ y0 = y1 /\ (-20000 <= y2 /\ y2 <= 20000) /\ (1 <= y3 /\ y3 <= 99999)) /\ (-100 <= y2 /\ y2 <= 100) /\ (1 <= y3 /\ y3 <= 6) := by
 have a0 := modN_bd (x := r.getD 0 0) (m := (M : Int) + 1) (by omega);have a1 := modN_bd (x := r.getD 1 0) (m := (M : Int)) (by omega);have a2 := modN_bd (x := r.getD 2 0) (m := 141) (by decide);have a3 := modN_bd (x := r.getD 3 0) (m := 6) (by decide);have a4 := modN_bd (x := modN (r.getD 0 0) ((M : Int) + 1) + 1 + modN (r.getD 1 0) (M : Int)) (m := (M : Int) + 1) (by omega);have ne : ¬ modN (r.getD 0 0) ((M : Int) + 1) = modN (modN (r.getD 0 0) ((M : Int) + 1) + 1 + modN (r.getD 1 0) (M : Int)) ((M : Int) + 1) := by
  by_cases c : modN (r.getD 0 0) ((M : Int) + 1) + 1 + modN (r.getD 1 0) (M : Int) < (M : Int) + 1
  ·rw [modN_sm (x := modN (r.getD 0 0) ((M : Int) + 1) + 1 + modN (r.getD 1 0) (M : Int)) (by omega) c]; omega
  ·rw [modN_up (x := modN (r.getD 0 0) ((M : Int) + 1) + 1 + modN (r.getD 1 0) (M : Int)) (by omega) (by omega) (by omega)]; omega
 exact ⟨_, _, _, _, rfl, ⟨by omega, by omega, by omega, ne, by omega, by omega⟩, by omega, by omega⟩
theorem mdL_row {M : Nat} {rs : List (List Int)} {k : Nat} {y : List Int} (h : (mdL M rs)[k]? = some y) : ∃ r, y = mdR M r := by
 unfold mdL at h;rw [List.getElem?_map] at h;cases q : (rs.take 20)[k]? with
 | none => rw [q] at h; cases h
 | some r => rw [q] at h; cases h; exact ⟨r, rfl⟩
theorem mdL_lm {M : Nat} {rs : List (List Int)} (h1 : 1 <= M) (h2 : M <= 6) : lmB (M : Int) (mdL M rs) = true := by
 have key : ∀ k, k <= (mdL M rs).length -> lmB (M : Int) (mdL M rs) = lmB (M : Int) ((mdL M rs).drop k) := by
  intro k
  induction k with
  | zero => intro _; rfl
  | succ k ih =>
   intro hk;have hx := List.getElem?_eq_getElem (l := mdL M rs) (i := k) (by omega);obtain ⟨r, hr⟩ := mdL_row hx;obtain ⟨y0, y1, y2, y3, e, hc, _⟩ := md_ok (r := r) h1 h2;rw [hr, e] at hx;exact lmB_good hx (ih (by omega)) hc
 exact lmB_end (key _ (Nat.le_refl _)) (Nat.le_refl _)
theorem mdL_w {M : Nat} {rs : List (List Int)} (h1 : 1 <= M) (h2 : M <= 6) : ∀ i, i < (mdL M rs).length -> -100 <= lw (mdL M rs) i /\ lw (mdL M rs) i <= 100 := fun i hi => by
 have hx := List.getElem?_eq_getElem (l := mdL M rs) (i := i) hi;obtain ⟨r, hr⟩ := mdL_row hx;obtain ⟨y0, y1, y2, y3, e, hc, hd, _⟩ := md_ok (r := r) h1 h2;rw [hr, e] at hx;rw [lw_row hx]; exact hd
theorem mdL_fit {M : Nat} {rs : List (List Int)} (h1 : 1 <= M) (h2 : M <= 6) : ∀ r ∈ mdL M rs, r.length = 4 /\ ∀ x ∈ r, -9223372036854775808 <= x /\ x < 9223372036854775808 := fun r hr => by
 obtain ⟨k, hk, e⟩ := List.mem_iff_getElem.1 hr;obtain ⟨q, hq⟩ := mdL_row (List.getElem?_eq_getElem hk);obtain ⟨y0, y1, y2, y3, e2, hc, _⟩ := md_ok (r := q) h1 h2;rw [<- e, hq, e2];refine ⟨rfl, fun x hx => ?_⟩;simp only [List.mem_cons, List.not_mem_nil, or_false] at hx;omega
theorem mdL_sys {M : Nat} {rs : List (List Int)} (h1 : 1 <= M) (h2 : M <= 6) : sysE (M : Int) (mdL M rs) = 0 := by
 have := mdL_len (M := M) (rs := rs);unfold sysE;rw [if_pos (by omega), if_neg (by omega), if_pos (mdL_lm h1 h2)]
def TlR (TT : Nat) (a : Option Addr) (n c : Nat) (ts : List (List Int)) (TL : List Ob) : Prop := (a = none /\ n = 0 /\ c = 0 /\ ts = [] /\ TL = []) ∨ ∃ b op, a = some ⟨b, 0, none⟩ /\ 0 < n /\ ts.length = n /\ Tight op n c /\ TL = [.row b TT op (limC ts)]
theorem TlR.ok {TT : Nat} {a : Option Addr} {n c : Nat} {ts : List (List Int)} {TL : List Ob} (h : TlR TT a n c ts TL) : TlOk TT a ts TL /\ n = ts.length /\ (a = none -> c = 0) := by
 rcases h with ⟨rfl, rfl, rfl, rfl, rfl⟩ | ⟨b, op, rfl, h0, h1, h2, rfl⟩
 ·exact ⟨.inl ⟨rfl, rfl, fun b hb => by cases hb⟩, rfl, fun _ => rfl⟩
 ·exact ⟨.inr ⟨b, op, rfl, rfl⟩, h1.symm, fun q => by cases q⟩
theorem TlR.spot {TT : Nat} {a : Option Addr} {n c : Nat} {ts : List (List Int)} {TL : List Ob} (h : TlR TT a n c ts TL) : ∀ b, a = some b -> b.spot = none := fun b hb => by
 rcases h with ⟨rfl, _⟩ | ⟨b', op, rfl, _⟩
 ·cases hb
 ·cases hb; rfl
theorem a_appT {P : Program} {C : Nat -> (CF -> Bool) -> Bool} {X : FuncId -> List Value -> St -> (Value -> St -> Bool) -> Bool} {s0 : St} {n nt : Nat} {env : List (Nat × Value)} {A A1 A2 UL : List Ob} {R : Value -> List Ob -> Prop} {TU k c : Nat} {a : Option Addr} {ts : List (List Int)} {more z : List Value} {x y : Ev.X} {yv : Value} (hU : TlR TU a k c ts UL) (hA : A = A1 ++ (UL ++ A2)) (hx : xv env x = some (.slice a k c)) (hy : xv env y = some yv) (hsrc : Src s0 A 4 1 more yv) (hm : (1 : Nat) ≠ 0) (hb1 : k + 1 <= 1048576) (hb2 : 32 * (k + 1) <= 1073741824)
 (h : ∀ b, R (.slice (some ⟨b, 0, none⟩) (k + 1) OPEN) (.row b TU true (limC ts ++ more) :: (A1 ++ A2))) : OpA P C X s0 n nt (.app TU 4 32 z false x y) env A R := by
 rcases hU with ⟨rfl, rfl, rfl, rfl, rfl⟩ | ⟨b, op, rfl, h0, hl, ht, rfl⟩
 ·subst hA
  exact a_appn hx hy hsrc hm (by omega) (by omega) (fun b => by have := h b; exact this)
 ·subst hA
  have hd : Del (A1 ++ ([.row b TU op (limC ts)] ++ A2)) b TU op (limC ts) (A1 ++ A2) := by
   clear hsrc h
   induction A1 with
   | nil => exact .here
   | cons q A1 ih => exact .next ih
  exact a_app hx hy hsrc hd (by rw [limC_len, hl]) ht hm (by omega) (by omega) h
def IlR (TT : Nat) (a : Option Addr) (n c : Nat) (l : List Int) (TL : List Ob) : Prop := (a = none /\ n = 0 /\ c = 0 /\ l = [] /\ TL = []) ∨ ∃ b op, a = some ⟨b, 0, none⟩ /\ 0 < n /\ l.length = n /\ Tight op n c /\ TL = [.row b TT op (ints l)]
theorem a_appI {P : Program} {C : Nat -> (CF -> Bool) -> Bool} {X : FuncId -> List Value -> St -> (Value -> St -> Bool) -> Bool} {s0 : St} {n nt : Nat} {env : List (Nat × Value)} {A A1 A2 UL : List Ob} {R : Value -> List Ob -> Prop} {TU k c : Nat} {a : Option Addr} {l : List Int} {more z : List Value} {x y : Ev.X} {yv : Value} (hU : IlR TU a k c l UL) (hA : A = A1 ++ (UL ++ A2)) (hx : xv env x = some (.slice a k c)) (hy : xv env y = some yv) (hsrc : Src s0 A 1 1 more yv) (hm : (1 : Nat) ≠ 0) (hb1 : k + 1 <= 1048576) (hb2 : 8 * (k + 1) <= 1073741824)
 (h : ∀ b, R (.slice (some ⟨b, 0, none⟩) (k + 1) OPEN) (.row b TU true (ints l ++ more) :: (A1 ++ A2))) : OpA P C X s0 n nt (.app TU 1 8 z false x y) env A R := by
 rcases hU with ⟨rfl, rfl, rfl, rfl, rfl⟩ | ⟨b, op, rfl, h0, hl, ht, rfl⟩
 ·subst hA
  exact a_appn hx hy hsrc hm (by omega) (by omega) (fun b => by have := h b; exact this)
 ·subst hA
  have hd : Del (A1 ++ ([.row b TU op (ints l)] ++ A2)) b TU op (ints l) (A1 ++ A2) := by
   clear hsrc h
   induction A1 with
   | nil => exact .here
   | cons q A1 ih => exact .next ih
  exact a_app hx hy hsrc hd (by rw [ints_len, hl, Nat.mul_one]) ht hm (by omega) (by omega) h
def wgV (l : List Int) (i : Nat) : Int := if l.length = 0 then 0 else modN (l.getD (i % l.length) 0) 61 - 30
def wgL (l : List Int) (k : Nat) : List Int := (List.range k).map (wgV l)
theorem wgL_len {l : List Int} {k : Nat} : (wgL l k).length = k := by simp [wgL]
theorem wgL_step {l : List Int} {k : Nat} : wgL l (k + 1) = wgL l k ++ [wgV l k] := by unfold wgL; rw [List.range_succ, List.map_append]; rfl
theorem wgL_app {l : List Int} {k : Nat} {z : Int} (h : z = wgV l k) : ints (wgL l k) ++ [.int .i64 z] = ints (wgL l (k + 1)) := by rw [wgL_step, h]; unfold ints; rw [List.map_append]; rfl
theorem wgV_bd {l : List Int} {i : Nat} : -30 <= wgV l i /\ wgV l i <= 30 := by
 unfold wgV;split
 ·omega
 ·have := modN_bd (x := l.getD (i % l.length) 0) (m := 61) (by decide)
  omega
theorem wgL_get {l : List Int} {k i : Nat} (h : i < k) : (wgL l k).getD i 0 = wgV l i := by
 unfold wgL;rw [List.getD_eq_getElem?_getD, List.getElem?_map, List.getElem?_range h]; rfl
theorem wgL_ok {l : List Int} {k : Nat} (hk : k <= 1000000) : WOk (wgL l k) (wgL l k).length := by
 have key : ∀ i, i <= k -> szs (wgL l k) i <= 30 * (i : Int) := by
  intro i
  induction i with
  | zero => intro _; exact Int.le_refl _
  | succ i ih =>
   intro hi;have a1 := ih (by omega);have a2 := wgV_bd (l := l) (i := i);show szs (wgL l k) i + max ((wgL l k).getD i 0) (-((wgL l k).getD i 0)) <= _;rw [wgL_get (by omega)]; omega
 intro i hi;rw [wgL_len] at hi;have := key (i + 1) (by omega);omega
theorem wgL_fit {l : List Int} {k : Nat} : ∀ z ∈ wgL l k, -9223372036854775808 <= z /\ z < 9223372036854775808 := fun z hz => by
 obtain ⟨i, _, rfl⟩ := List.mem_map.1 hz;have := wgV_bd (l := l) (i := i);omega
section
variable {X : FuncId -> List Value -> St -> (Value -> St -> Bool) -> Bool}
theorem mod_s (n : Nat) (x m : Int) (s : St) (hs : Wf s) (hm : 0 < m /\ m <= 4000000000) : Spec Try.prog (tabK tabw) X (n + 60) 14 [.int .i64 x, .int .i64 m] s (fun v A => v = .int .i64 (modN x m) /\ A = []) := by
 refine enter bw14_at rfl hs ?_;unfold bw14;have hq := tmodP_bd (x := x) hm.1;refine rS (kM J J (Q0 (rS (kM J J (kM J J (kO J (a_rem J J (by omega) (kM J J (kO J (Q4 J J (by omega) (kM J J (kO J (a_rem J J (by omega) (kM J J (Q0 (Z3 ?_))))))))))))))));exact end1 J ⟨rfl, rfl⟩
theorem weights_s (n : Nat) (M : Nat) (al : Option Addr) (cl nl9 : Nat) (a1 : Option Addr) (c1 : Nat) (l : List Int) (s : St) (hs : Wf s) (hn : 562949953421312 <= n) (hI : IntsE s a1 l) (hM : M <= 64) : Spec Try.prog (tabK tabw) X (n + 500) 9 [.agg ⟨[.int .i64 (M : Int), .slice al nl9 cl]⟩, .slice a1 l.length c1] s (fun v A => ∃ b op c, v = .slice (some ⟨b, 0, none⟩) (M + 1) c /\ Tight op (M + 1) c /\ A = [.row b 3 op (ints (wgL l (M + 1)))]) := by
 refine enter bw9_at rfl hs ?_;unfold bw9;have hlen := hI.len;refine rS (kO J (a_box J J J (fun b1 => (kM J J (Q0 (rS (kM J J (Q0 (rQ (rS (kM J J (Q0 (Y1 ?_)))))))))))));refine Z5 (fun j e A => ∃ (k : Nat) (aT : Option Addr) (n9 cp : Nat) (TL : List Ob), e = [(1, .slice a1 l.length c1), (2, .pointer (some ⟨b1, 0, none⟩)), (5, .slice aT n9 cp), (6, .int .i64 (k : Int))] /\ A = (TL ++ (.row b1 29 false ([.int .i64 (M : Int), .slice al nl9 cl]) :: [])) /\ j = M + 1 - k /\ k <= M + 1 /\ n9 = k /\ IlR 3 aT n9 cp (wgL l k) TL) 300 0 281474976710656 ?_ (j := _) (env2 := _) (A2 := _) ?_ ?_ ?_ ?_ ⟨0, none, 0, 0, [], rfl, rfl, rfl, Nat.zero_le _, rfl, (.inl ⟨rfl, rfl, rfl, rfl, rfl⟩)⟩
 rotate_left
 ·omega
 ·omega
 ·exact (lc 1 J (lc 2 J (lc 5 J (lc 6 J Less.nil))))
 ·exact (.q .slnil)
 rintro n hn j _ _ ⟨k, aT, n9, cp, TL, rfl, rfl, rfl, hk, hn9, hU⟩;refine rQ (rS (kM J J (kO J (Z2 J (kO J (Z1 J (.app .here) J (kO J (a_leq J J (fun h2 => ?_) (fun h2 => ?_)))))))))
 ·refine Q0 (Y0 J (Q1 (W0 (rQ (Y1 (rS (kM J J (Q0 (rQ (rS (kM J J (kO J (a_lenx J hI.spot (kO J (a_gtr J J (fun h3 => ?_) (fun h3 => ?_))))))))))))))))
  ·refine Q0 (Y0 J (rI (kM J J (kM J J (kM J J (kO J (a_lenx J hI.spot ?_)))))))
   have hmd9 : k % l.length < l.length := Nat.mod_lt _ (by omega);refine kO J (a_rem J J (by omega) (kO J (Q8 (j := k % l.length) hI rfl rfl rfl rfl (by omega) (fun _ _ a99 => (kO J (W7 J (hI.at a99 (by omega)) (kO J (a_callV J J (fun s1 h1 => mod_s _ _ _ s1 h1.wf (by omega)) ?_))))))));have m9 := modN_bd (x := l.getD (k % l.length) 0) (m := 61) (by decide);refine kO J (a_sub J J (by omega) (kM J J (Q0 (W0 (rI (kM J J (kM J J (kO J (a_lit J J J (fun b5 => (kO J (a_appI (A1 := [_]) hU rfl rfl rfl (Src.own .here rfl (by simp)) (by decide) (by omega) (by omega) (fun b6 => (kM J J (Q0 (U1 (W0 (rI (kM J J (kO J (Q4 J J (by omega) (kM J J (Q0 (W0 ?_))))))))))))))))))))))));exact ⟨rfl, _, _, _, (show M + 1 - (k + 1) < M + 1 - k by omega), (lc 1 J (lc 2 J (lc 5 J (lc 6 J Less.nil)))), (.q (.cons _ (.q .slnil))), ⟨k + 1, some ⟨b6, 0, none⟩, n9 + 1, OPEN, [.row b6 3 true (ints (wgL l (k + 1)))], rfl, (by rw [<- wgL_app (by first | exact (if_neg (by omega)).symm | exact (if_pos (by omega)).symm)]; rfl), rfl, by omega, by omega, (.inr ⟨_, _, rfl, by omega, by rw [wgL_len]; omega, .inl ⟨rfl, rfl⟩, rfl⟩)⟩⟩
  ·refine Q0 (Z0 J (Q1 (W0 (rI (kM J J (kM J J (kO J (a_lit J J J (fun b7 => (kO J (a_appI (A1 := [_]) hU rfl rfl rfl (Src.own .here rfl (by simp)) (by decide) (by omega) (by omega) (fun b8 => (kM J J (Q0 (U1 (W0 (rI (kM J J (kO J (Q4 J J (by omega) (kM J J (Q0 (W0 ?_)))))))))))))))))))))))
   exact ⟨rfl, _, _, _, (show M + 1 - (k + 1) < M + 1 - k by omega), (lc 1 J (lc 2 J (lc 5 J (lc 6 J Less.nil)))), (.q (.cons _ (.q .slnil))), ⟨k + 1, some ⟨b8, 0, none⟩, n9 + 1, OPEN, [.row b8 3 true (ints (wgL l (k + 1)))], rfl, (by rw [<- wgL_app (by first | exact (if_neg (by omega)).symm | exact (if_pos (by omega)).symm)]; rfl), rfl, by omega, by omega, (.inr ⟨_, _, rfl, by omega, by rw [wgL_len]; omega, .inl ⟨rfl, rfl⟩, rfl⟩)⟩⟩
 ·refine Q0 (Z0 J (W5 (W3 (W3 (U3 (W0 (rS (kM J J (kM J J (Q0 (Z3 ?_)))))))))))
  have hkM : k = M + 1 := by omega
  subst hkM;rcases hU with ⟨_, q, _⟩ | ⟨b, op, rfl, h0, h2, h3, rfl⟩
  ·exfalso; omega
  ·exact end1A J (List.sublist_append_left _ _) ⟨b, op, cp, by rw [hn9], hn9 ▸ h3, rfl⟩
end
theorem Spec.imp {P : Program} {C : Nat -> (CF -> Bool) -> Bool} {X : FuncId -> List Value -> St -> (Value -> St -> Bool) -> Bool} {n : Nat} {f : FuncId} {vs : List Value} {s : St} {Q Q' : Value -> List Ob -> Prop} (h : Spec P C X n f vs s Q) (hq : ∀ v A, Q v A -> Q' v A) : Spec P C X n f vs s Q' := h.mono (fun v s' q => by obtain ⟨A, h1, h2⟩ := q; exact ⟨A, h1, hq v A h2⟩)
theorem cap_tight {s : St} {b n c : Nat} {l : List Value} {op : Bool} (ht : Tight op n c) (h : Obj s b 3 op l) (hn : n <= l.length) : CapOk s (some ⟨b, 0, none⟩) n c := by
 rcases ht with ⟨rfl, rfl⟩ | ⟨rfl, rfl, h2⟩
 ·exact CapOk.own h hn
 ·exact .inl ⟨h2, Nat.le_refl _⟩
section
variable {X : FuncId -> List Value -> St -> (Value -> St -> Bool) -> Bool}
end
theorem mod_nat {z : Int} {n : Nat} (h : 0 < n) : ∃ q : Nat, modN z (n : Int) = (q : Int) /\ q < n := by
 have := modN_bd (x := z) (m := (n : Int)) (by omega);exact ⟨(modN z (n : Int)).toNat, by omega, by omega⟩
section
variable {X : FuncId -> List Value -> St -> (Value -> St -> Bool) -> Bool}
end
def nF (F : Nat -> Nat -> Int) (N v : Nat) : Int := tot (fun a => F a v) N - tot (fun b => F v b) N
structure MT (m : Nat -> Nat -> Int) (N : Nat) : Prop where
 dg : ∀ a, a < N -> m a a = 0
 lo : ∀ a b, a < N -> b < N -> -1300000 <= m a b
 hi : ∀ a b, a < N -> b < N -> m a b = 1000000000 ∨ m a b <= 1280000
def pos (need : Nat -> Int) (N : Nat) : Int := tot (fun v => max (need v) 0) N
structure LS (m : Nat -> Nat -> Int) (N : Nat) (w need : Nat -> Int) (F : Nat -> Nat -> Int) (p : Nat -> Int) : Prop where
 nn : ∀ a b, a < N -> b < N -> 0 <= F a b
 ar : ∀ a b, a < N -> b < N -> 0 < F a b -> a ≠ b /\ ¬ m a b = 1000000000 /\ p b = p a + m a b
 st : ∀ a b, a < N -> b < N -> ¬ m a b = 1000000000 -> p b <= p a + m a b
 nt : ∀ v, v < N -> nF F N v = w v - need v
 lo : ∀ v, v < N -> -1300000 <= p v
 so : ∀ v, v < N -> need v < 0 -> p v <= 0
 nb : ∀ v, v < N -> -3600000000000 <= need v /\ need v <= 3600000000000
 cp : ∀ a b, a < N -> b < N -> F a b + pos need N <= 3600000000000
def Ra (m F : Nat -> Nat -> Int) (a v : Nat) (k : Bool) (om : Int) : Prop := (k = false /\ a ≠ v /\ ¬ m a v = 1000000000 /\ om = m a v) ∨ (k = true /\ 0 < F v a /\ om = -(m v a))
theorem Ra.pot {m F : Nat -> Nat -> Int} {N : Nat} {w need p : Nat -> Int} {a v : Nat} {k : Bool} {om : Int} (hm : MT m N) (h : LS m N w need F p) (ha : a < N) (hv : v < N) (r : Ra m F a v k om) : p v <= p a + om /\ om <= 1300000 /\ -1300000 <= om /\ a ≠ v := by
 rcases r with ⟨_, h1, h2, rfl⟩ | ⟨_, h1, rfl⟩
 ·have := h.st a v ha hv h2
  have := (hm.hi a v ha hv).resolve_left h2;have := hm.lo a v ha hv;exact ⟨by omega, by omega, by omega, h1⟩
 ·obtain ⟨k1, k2, k3⟩ := h.ar v a hv ha h1
  have := (hm.hi v a hv ha).resolve_left k2;have := hm.lo v a hv ha;exact ⟨by omega, by omega, by omega, fun e => k1 e.symm⟩
def Clo (m F : Nat -> Nat -> Int) (x : Nat -> Int) (a b : Nat) : Prop := (a ≠ b -> ¬ m a b = 1000000000 -> x b <= x a + m a b) /\ (0 < F b a -> x b <= x a - m b a)
structure Ps (m F : Nat -> Nat -> Int) (N : Nat) (x0 x : Nat -> Int) (g : Bool) (a b : Nat) : Prop where
 no : g = false -> tot x N = tot x0 N /\ (∀ i j, i < a -> j < N -> ¬ x i = 1000000000 -> Clo m F x i j) /\ (∀ j, j < b -> ¬ x a = 1000000000 -> Clo m F x a j)
 yes : g = true -> tot x N < tot x0 N
theorem Ps.row {m F : Nat -> Nat -> Int} {N : Nat} {x0 x : Nat -> Int} {g : Bool} {a : Nat} (h : Ps m F N x0 x g a N) : Ps m F N x0 x g (a + 1) 0 := ⟨fun q => by
 obtain ⟨h1, h2, h3⟩ := h.no q;refine ⟨h1, fun i j hi hj hx => ?_, fun j hj => absurd hj (Nat.not_lt_zero j)⟩;by_cases e : i = a
 ·subst e; exact h3 j hj hx
 ·exact h2 i j (by omega) hj hx, h.yes⟩
section
variable {X : FuncId -> List Value -> St -> (Value -> St -> Bool) -> Bool}
end
def rk (x p : Nat -> Int) (T : Nat -> Nat) (c v : Nat) : Nat := (x v - p v).toNat * (c + 1) + T v
def an (f : Nat -> Int) (v : Nat) : Nat -> Nat
 | 0 => v
 | i + 1 => (f (an f v i)).toNat
def IsM (ls : List (List Int)) (M : Nat) (w : Nat -> Int) (z : Int) : Prop := (∀ x : Nat -> Int, (∀ i, i < ls.length -> x (lb ls i) <= x (la ls i) + lw ls i) -> tot (fun v => x v * w v) (M + 1) <= z) /\ ∃ x : Nat -> Int, (∀ i, i < ls.length -> x (lb ls i) <= x (la ls i) + lw ls i) /\ tot (fun v => x v * w v) (M + 1) = z
theorem IsM.uniq {ls : List (List Int)} {M : Nat} {w : Nat -> Int} {z z' : Int} (h : IsM ls M w z) (h' : IsM ls M w z') : z = z' := by
 obtain ⟨h1, x, h2, h3⟩ := h;obtain ⟨k1, y, k2, k3⟩ := h';have := h1 y k2;have := k1 x h2;omega
theorem Opn.noM {ls : List (List Int)} {M : Nat} {w : Nat -> Int} {z : Int} (h : Opn ls (M + 1) w) (h' : IsM ls M w z) : False := by
 obtain ⟨U, h1, h2⟩ := h;obtain ⟨k1, x, k2, k3⟩ := h';have := k1 (fun v => x v + ind U v) (fun i hi => by
  have a1 := k2 i hi;have a2 := h1 i hi;show x (lb ls i) + ind U (lb ls i) <= x (la ls i) + ind U (la ls i) + lw ls i;unfold ind;by_cases c : U (lb ls i) = true
  ·rw [if_pos c, if_pos (a2 c)]; omega
  ·rw [if_neg c]; split <;> omega)
 rw [U6 (g := fun v => x v * w v + ind U v * w v) (fun v _ => Int.add_mul ..), tot_add] at this;omega
section
variable {X : FuncId -> List Value -> St -> (Value -> St -> Bool) -> Bool}
end
def dl (ls : List (List Int)) (i : Nat) : List (List Int) := ls.take i ++ ls.drop (i + 1)
theorem dl_len {ls : List (List Int)} {i : Nat} (h : i < ls.length) : (dl ls i).length + 1 = ls.length := by
 unfold dl;rw [List.length_append, List.length_take, List.length_drop]; omega
theorem dl_lo {ls : List (List Int)} {i j : Nat} (h : i < ls.length) (hj : j < i) : (dl ls i).getD j [] = ls.getD j [] := by
 unfold dl;rw [List.getD_eq_getElem?_getD, List.getD_eq_getElem?_getD, List.getElem?_append_left (by rw [List.length_take]; omega), List.getElem?_take, if_pos hj]
theorem dl_hi {ls : List (List Int)} {i j : Nat} (h : i < ls.length) (hj : i <= j) : (dl ls i).getD j [] = ls.getD (j + 1) [] := by
 unfold dl;rw [List.getD_eq_getElem?_getD, List.getD_eq_getElem?_getD, List.getElem?_append_right (by rw [List.length_take]; omega), List.length_take, List.getElem?_drop]
 congr 2; omega
def Kq (ls : List (List Int)) (x : Nat -> Int) : Prop := ∀ i, i < ls.length -> x (lb ls i) <= x (la ls i) + lw ls i
theorem ix_eq {ls l2 : List (List Int)} {i j : Nat} (h : ls.getD i [] = l2.getD j []) : la ls i = la l2 j /\ lb ls i = lb l2 j /\ lw ls i = lw l2 j := by
 unfold la lb lw;rw [h]; exact ⟨rfl, rfl, rfl⟩
theorem kp_dl {ls : List (List Int)} {i : Nat} {x : Nat -> Int} (h : i < ls.length) : Kq ls x ↔ Kq (dl ls i) x /\ x (lb ls i) <= x (la ls i) + lw ls i := by
 have hlen := dl_len h
 constructor
 ·intro k
  refine ⟨fun j hj => ?_, k i h⟩;by_cases c : j < i
  ·obtain ⟨e1, e2, e3⟩ := ix_eq (dl_lo h c)
   rw [e1, e2, e3]; exact k j (by omega)
  ·obtain ⟨e1, e2, e3⟩ := ix_eq (dl_hi h (show i <= j by omega))
   rw [e1, e2, e3]; exact k (j + 1) (by omega)
 ·rintro ⟨k, k2⟩ j hj
  by_cases c : j < i
  ·obtain ⟨e1, e2, e3⟩ := ix_eq (dl_lo h c)
   have := k j (by omega);rw [e1, e2, e3] at this; exact this
  ·by_cases e : j = i
   ·rw [e]; exact k2
   ·obtain ⟨e1, e2, e3⟩ := ix_eq (dl_hi h (show i <= j - 1 by omega))
    have := k (j - 1) (by omega);rw [e1, e2, e3, show j - 1 + 1 = j by omega] at this; exact this
theorem lm_cat {m : Int} {l r : List (List Int)} : lmB m (l ++ r) = (lmB m l && lmB m r) := by
 induction l with
 | nil => rfl
 | cons a l ih =>
  match a with
  | [y0, y1, y2, y3] =>
   show (decide _ && lmB m (l ++ r)) = ((decide _ && lmB m l) && lmB m r);rw [ih, Bool.and_assoc]
  | [] => rfl
  | [_] => rfl
  | [_, _] => rfl
  | [_, _, _] => rfl
  | _ :: _ :: _ :: _ :: _ :: _ => rfl
theorem dl_lm {m : Int} {ls : List (List Int)} {i : Nat} (h : lmB m ls = true) : lmB m (dl ls i) = true := by
 have h1 : lmB m (ls.take i ++ ls.drop i) = true := by rw [List.take_append_drop]; exact h
 rw [lm_cat, Bool.and_eq_true] at h1;have h2 : lmB m (ls.take (i + 1) ++ ls.drop (i + 1)) = true := by rw [List.take_append_drop]; exact h
 rw [lm_cat, Bool.and_eq_true] at h2;unfold dl;rw [lm_cat, Bool.and_eq_true]; exact ⟨h1.1, h2.2⟩
theorem idle_kp {ls : List (List Int)} {M i : Nat} {d : Nat -> Int} (hl : lmB (M : Int) ls = true) (h : i < ls.length) (hd : Dd (dl ls i) (M + 1) (la ls i) d) (hi : d (lb ls i) <= lw ls i) {x : Nat -> Int} (hx : Kq (dl ls i) x) : Kq ls x := by
 refine (kp_dl h).2 ⟨hx, ?_⟩;have hb := (hN_of hl i h).2;have hw := (lw_bd' hl h).2;have := (hd.way _ hb (show ¬ d (lb ls i) = 1000000000 by omega)).pot hx;omega
theorem IsM.same {ls l2 : List (List Int)} {M : Nat} {w : Nat -> Int} {z : Int} (h : ∀ x, Kq ls x ↔ Kq l2 x) (hm : IsM ls M w z) : IsM l2 M w z := ⟨fun x hx => hm.1 x ((h x).2 hx), by
 obtain ⟨x, h1, h2⟩ := hm.2;exact ⟨x, (h x).1 h1, h2⟩⟩
theorem pt_uns {ls : List (List Int)} {M : Nat} {x : Nat -> Int} (hl : lmB (M : Int) ls = true) (h4 : ls.length <= 400) (hM : M <= 64) (hx : Kq ls x) : ¬ Uns ls (M + 1) := fun hu => by
 obtain ⟨l0, hl0, he⟩ : ∃ u : Nat, u < M + 1 /\ (stl ls (M + 1) (M + 1)).l = (u : Int) := ((sb_of hl h4 hM).last M (by omega)).resolve_left (hu M (by omega));obtain ⟨p, hp1, hp2, hp3⟩ := itr_back (sb_of hl h4 hM).par hl0;obtain ⟨k, rfl⟩ : ∃ k, p = k + 1 := ⟨p - 1, by omega⟩;obtain ⟨hch, hn⟩ := uns_neg hl h4 hM hl0 he hp3;have := pt_chain hx hch (k + 1);rw [hp3] at this;omega
theorem dl_uns {ls : List (List Int)} {M i : Nat} (hl : lmB (M : Int) ls = true) (h4 : ls.length <= 400) (hM : M <= 64) (h : i < ls.length) (hn : ¬ Uns ls (M + 1)) : ¬ Uns (dl ls i) (M + 1) := by
 obtain ⟨x, hx, _⟩ := set_pt hl h4 hM hn;exact pt_uns (dl_lm hl) (by have := dl_len h; omega) hM ((kp_dl h).1 hx).1
theorem idle_no {ls : List (List Int)} {M i : Nat} {D D2 : Nat -> Nat -> Int} (hl : lmB (M : Int) ls = true) (h : i < ls.length) (hD : DT ls (M + 1) D) (hd : lw ls i < D2 (la ls i) (lb ls i)) : ¬ D (la ls i) (lb ls i) = D2 (la ls i) (lb ls i) := fun q => by
 obtain ⟨ha, hb⟩ := hN_of hl i h;have h0 := (hD _ ha).own;have h1 := ((hD _ ha).fix i h (by omega)).2;omega
theorem Dd.uniq {ls : List (List Int)} {M f : Nat} {x z : Nat -> Int} (hl : lmB (M : Int) ls = true) (hf : f < M + 1) (h : Dd ls (M + 1) f x) (h2 : Dd ls (M + 1) f z) {a : Nat} (ha : a < M + 1) (hx : ¬ x a = 1000000000) : ¬ z a = 1000000000 /\ z a <= x a := by
 have h0 := h2.own;have := h2.walk (h.way a ha hx) (by omega);omega
section
variable {X : FuncId -> List Value -> St -> (Value -> St -> Bool) -> Bool}
end
theorem a_appO {P : Program} {C : Nat -> (CF -> Bool) -> Bool} {X : FuncId -> List Value -> St -> (Value -> St -> Bool) -> Bool} {s0 : St} {n nt : Nat} {env : List (Nat × Value)} {A : List Ob} {R : Value -> List Ob -> Prop} {e size bytes b len cap m : Nat} {z more l : List Value} {x y : Ev.X} {yv : Value} {A' : List Ob} (hcap : cap = OPEN) (hx : xv env x = some (.slice (some ⟨b, 0, none⟩) len cap)) (hy : xv env y = some yv) (hsrc : Src s0 A size m more yv) (hu : Upd A b e true l (over l (len * size) more) A') (hfit : (len + m) * size <= l.length) (hb1 : len + m <= 1048576) (hb2 : bytes * (len + m) <= 1073741824)
 (h : R (.slice (some ⟨b, 0, none⟩) (len + m) OPEN) A') : OpA P C X s0 n nt (.app e size bytes z false x y) env A R := .mk fun s hs T hT k hk => by
 refine Z6 hT (k := fun x => valK T y (fun y => appK s e size bytes z false x y k)) hx (Z6 hT (k := fun y => appK s e size bytes z false _ y k) hy ?_);unfold appK;refine moreK_of hs hsrc ?_;obtain ⟨_, _, _, _, hml, hm0, _⟩ := hsrc;show ifB (Nat.beq cap 0) _ (ifB (Nat.ble (Nat.add len m) 1048576) (ifB (Nat.ble (Nat.mul bytes (Nat.add len m)) 1073741824) (appAtK s e size b 0 len cap m more k) false) false) = true;rw [beqF (show cap ≠ 0 by rw [hcap]; decide)];show ifB (Nat.ble (Nat.add len m) 1048576) (ifB (Nat.ble (Nat.mul bytes (Nat.add len m)) 1073741824) (appAtK s e size b 0 len cap m more k) false) false = true;rw [show Nat.ble (Nat.add len m) 1048576 = true from by rw [Nat.ble_eq]; exact hb1, show Nat.ble (Nat.mul bytes (Nat.add len m)) 1073741824 = true from by rw [Nat.ble_eq]; exact hb2];show appAtK s e size b 0 len cap m more k = true;obtain ⟨c, hc, hf, hg⟩ := hs.own hu.own;unfold appAtK;refine objK_of (k := _) hc ?_;have hfit2 : len * size + more.length <= l.length := by rw [hml, <- Nat.add_mul]; exact hfit
 show ifB (Nat.beq e e) (ifB (Nat.ble OPEN cap) (ifB true (ifB (Nat.beq 0 0) (ifB (Nat.beq cap OPEN) (ifB (Nat.ble (Nat.mul (Nat.add len m) size) l.length) (putsK c (Nat.mul len size) more _) _) _) _) _) _) false = true;rw [show Nat.beq e e = true from by rw [Nat.beq_eq], show Nat.ble OPEN cap = true from by rw [Nat.ble_eq]; omega, show Nat.beq cap OPEN = true from by rw [Nat.beq_eq]; exact hcap, show Nat.ble (Nat.mul (Nat.add len m) size) l.length = true from by rw [Nat.ble_eq]; exact hfit];show putsK c (len * size) more _ = true;refine putsK_of hf hfit2 (fun c' hc' hg' => storeK_of hs.wf (Full.lt hs.wf hc) (fun s1 hm1 hn1 hd1 => ?_));rw [forceN_eq];have hol : (over l (len * size) more).length = l.length := over_length hfit2;refine hk _ _ ⟨_, hs.upd hu hm1 ⟨c', by rw [hol]; exact hd1, by rw [hol]; exact hc', fun j => ?_⟩, h⟩;rw [hg', over_get hfit2];by_cases h1 : len * size <= j /\ j < len * size + more.length
 ·rw [if_pos h1, if_pos h1]
 ·rw [if_neg h1, if_neg h1, hg]
theorem slc_sl4T {row : Nat -> Option (Nat × Nat × Bool)} {b n k h : Nat} (hr : row b = some (k, 38, true)) (hk : h * 4 <= k) : evSlc row 38 4 (.slice (some ⟨b, 0, none⟩) n OPEN) none (some (.int .i64 (h : Int))) none = some (.slice (some ⟨b, 0, none⟩) h OPEN) := by
 show (match row b with
  | some (k, e', op) => sel (op && Nat.beq 38 e' && Nat.beq 0 ((OPEN - OPEN) * 4) && !Nat.beq 4 0 && (Nat.beq OPEN OPEN || !Nat.beq n 0)) (evSlcOpen b 4 0 h k (OPEN - OPEN) none) none
  | none => none) = _
 rw [hr];show sel (Nat.ble 0 h && Nat.ble ((0 + h) * 4) k) (some (Value.slice (some ⟨b, (0 + 0) * 4, none⟩) (h - 0) (OPEN + (0 + 0)))) none = _;rw [show Nat.ble 0 h = true from by rw [Nat.ble_eq]; omega, show Nat.ble ((0 + h) * 4) k = true from by rw [Nat.ble_eq]; omega]; rfl
theorem a_sl4T {P : Program} {C : Nat -> (CF -> Bool) -> Bool} {X : FuncId -> List Value -> St -> (Value -> St -> Bool) -> Bool} {s0 : St} {n nt : Nat} {env : List (Nat × Value)} {A : List Ob} {R : Value -> List Ob -> Prop} {x hi : Ev.X} {b m h : Nat} {l9 : List Value} (hx : xv env x = some (.slice (some ⟨b, 0, none⟩) m OPEN)) (h_hi : xv env hi = some (.int .i64 (h : Int))) (ho : Own A b 38 true l9) (hk : h * 4 <= l9.length)
 (hR : R (.slice (some ⟨b, 0, none⟩) h OPEN) A) : OpA P C X s0 n nt (.slc 38 4 x none (some hi) none) env A R := .mk fun s hs T hT q hq => by
 refine Z6 hT (k := fun x => valOK T (some hi) (fun o_hi => slcK s 38 4 x none o_hi none (vK s q))) hx ?_;refine Z6 hT (k := fun v => slcK s 38 4 _ none (some v) none (vK s q)) h_hi ?_;unfold slcK;obtain ⟨c, h3, _⟩ := hs.own ho;have hrow : rowOf s b = some (l9.length, 38, true) := by
  unfold rowOf;rw [h3]
 have key := slc_sl4T (n := m) hrow hk;rw [key];show forceV (Value.slice (some ⟨b, 0, none⟩) h OPEN) (vK s q) = true;rw [forceV_eq];exact hq _ _ ⟨A, hs, hR⟩
theorem slc_sl4F {row : Nat -> Option (Nat × Nat × Bool)} {b n k l : Nat} (hr : row b = some (k, 38, true)) (hl : l <= n) (hk : n * 4 <= k) : evSlc row 38 4 (.slice (some ⟨b, 0, none⟩) n OPEN) (some (.int .i64 (l : Int))) none none = some (.slice (some ⟨b, (0 + l) * 4, none⟩) (n - l) (OPEN + (0 + l))) := by
 show (match row b with
  | some (k, e', op) => sel (op && Nat.beq 38 e' && Nat.beq 0 ((OPEN - OPEN) * 4) && !Nat.beq 4 0 && (Nat.beq OPEN OPEN || !Nat.beq n 0)) (evSlcOpen b 4 l n k (OPEN - OPEN) none) none
  | none => none) = _
 rw [hr];show sel (Nat.ble l n && Nat.ble ((0 + n) * 4) k) (some (Value.slice (some ⟨b, (0 + l) * 4, none⟩) (n - l) (OPEN + (0 + l)))) none = _;rw [show Nat.ble l n = true from by rw [Nat.ble_eq]; omega, show Nat.ble ((0 + n) * 4) k = true from by rw [Nat.ble_eq]; omega]; rfl
theorem a_sl4F {P : Program} {C : Nat -> (CF -> Bool) -> Bool} {X : FuncId -> List Value -> St -> (Value -> St -> Bool) -> Bool} {s0 : St} {n nt : Nat} {env : List (Nat × Value)} {A : List Ob} {R : Value -> List Ob -> Prop} {x lo : Ev.X} {b m l : Nat} {l9 : List Value} (hx : xv env x = some (.slice (some ⟨b, 0, none⟩) m OPEN)) (h_lo : xv env lo = some (.int .i64 (l : Int))) (ho : Own A b 38 true l9) (hl : l <= m) (hk : m * 4 <= l9.length)
 (hR : R (.slice (some ⟨b, (0 + l) * 4, none⟩) (m - l) (OPEN + (0 + l))) A) : OpA P C X s0 n nt (.slc 38 4 x (some lo) none none) env A R := .mk fun s hs T hT q hq => by
 refine Z6 hT (k := fun x => valOK T (some lo) (fun o_lo => slcK s 38 4 x o_lo none none (vK s q))) hx ?_;refine Z6 hT (k := fun v => slcK s 38 4 _ (some v) none none (vK s q)) h_lo ?_;unfold slcK;obtain ⟨c, h3, _⟩ := hs.own ho;have hrow : rowOf s b = some (l9.length, 38, true) := by
  unfold rowOf;rw [h3]
 have key := slc_sl4F (n := m) hrow hl hk;rw [key];show forceV (Value.slice (some ⟨b, (0 + l) * 4, none⟩) (m - l) (OPEN + (0 + l))) (vK s q) = true;rw [forceV_eq];exact hq _ _ ⟨A, hs, hR⟩
theorem slc_sl4B {row : Nat -> Option (Nat × Nat × Bool)} {b n k l h : Nat} (hr : row b = some (k, 38, true)) (hl : l <= h) (hk : h * 4 <= k) : evSlc row 38 4 (.slice (some ⟨b, 0, none⟩) n OPEN) (some (.int .i64 (l : Int))) (some (.int .i64 (h : Int))) none = some (.slice (some ⟨b, (0 + l) * 4, none⟩) (h - l) (OPEN + (0 + l))) := by
 show (match row b with
  | some (k, e', op) => sel (op && Nat.beq 38 e' && Nat.beq 0 ((OPEN - OPEN) * 4) && !Nat.beq 4 0 && (Nat.beq OPEN OPEN || !Nat.beq n 0)) (evSlcOpen b 4 l h k (OPEN - OPEN) none) none
  | none => none) = _
 rw [hr];show sel (Nat.ble l h && Nat.ble ((0 + h) * 4) k) (some (Value.slice (some ⟨b, (0 + l) * 4, none⟩) (h - l) (OPEN + (0 + l)))) none = _;rw [show Nat.ble l h = true from by rw [Nat.ble_eq]; omega, show Nat.ble ((0 + h) * 4) k = true from by rw [Nat.ble_eq]; omega]; rfl
theorem a_sl4B {P : Program} {C : Nat -> (CF -> Bool) -> Bool} {X : FuncId -> List Value -> St -> (Value -> St -> Bool) -> Bool} {s0 : St} {n nt : Nat} {env : List (Nat × Value)} {A : List Ob} {R : Value -> List Ob -> Prop} {x lo hi : Ev.X} {b m l h : Nat} {l9 : List Value} (hx : xv env x = some (.slice (some ⟨b, 0, none⟩) m OPEN)) (h_lo : xv env lo = some (.int .i64 (l : Int))) (h_hi : xv env hi = some (.int .i64 (h : Int))) (ho : Own A b 38 true l9) (hl : l <= h) (hk : h * 4 <= l9.length)
 (hR : R (.slice (some ⟨b, (0 + l) * 4, none⟩) (h - l) (OPEN + (0 + l))) A) : OpA P C X s0 n nt (.slc 38 4 x (some lo) (some hi) none) env A R := .mk fun s hs T hT q hq => by
 refine Z6 hT (k := fun x => valOK T (some lo) (fun o_lo => valOK T (some hi) (fun o_hi => slcK s 38 4 x o_lo o_hi none (vK s q)))) hx ?_;refine Z6 hT (k := fun v => valOK T (some hi) (fun o_hi => slcK s 38 4 _ (some v) o_hi none (vK s q))) h_lo ?_;refine Z6 hT (k := fun v => slcK s 38 4 _ (some (.int .i64 (l : Int))) (some v) none (vK s q)) h_hi ?_;unfold slcK;obtain ⟨c, h3, _⟩ := hs.own ho;have hrow : rowOf s b = some (l9.length, 38, true) := by
  unfold rowOf;rw [h3]
 have key := slc_sl4B (n := m) hrow hl hk;rw [key];show forceV (Value.slice (some ⟨b, (0 + l) * 4, none⟩) (h - l) (OPEN + (0 + l))) (vK s q) = true;rw [forceV_eq];exact hq _ _ ⟨A, hs, hR⟩
theorem slc_sl4M {row : Nat -> Option (Nat × Nat × Bool)} {b n k l h u : Nat} (hr : row b = some (k, 38, true)) (hl : l <= h) (hu : h <= u) (hlu : l < u) (hO : u < OPEN) (hk : u * 4 <= k) : evSlc row 38 4 (.slice (some ⟨b, 0, none⟩) n OPEN) (some (.int .i64 (l : Int))) (some (.int .i64 (h : Int))) (some (.int .i64 (u : Int))) = some (.slice (some ⟨b, (0 + l) * 4, none⟩) (h - l) (u - l)) := by
 show (match row b with
  | some (k, e', op) => sel (op && Nat.beq 38 e' && Nat.beq 0 ((OPEN - OPEN) * 4) && !Nat.beq 4 0 && (Nat.beq OPEN OPEN || !Nat.beq n 0)) (evSlcOpen b 4 l h k (OPEN - OPEN) (some u)) none
  | none => none) = _
 rw [hr];show sel (Nat.ble l h && Nat.ble h u && Nat.blt u OPEN && Nat.ble ((0 + u) * 4) k) (some (Value.slice (some ⟨b, sel (Nat.beq u l) (0 * 4) ((0 + l) * 4), none⟩) (h - l) (u - l))) none = _;rw [show Nat.ble l h = true from by rw [Nat.ble_eq]; omega, show Nat.ble h u = true from by rw [Nat.ble_eq]; omega, show Nat.blt u OPEN = true from by rw [Nat.blt_eq]; exact hO, show Nat.ble ((0 + u) * 4) k = true from by rw [Nat.ble_eq]; omega, beqF (show u ≠ l by omega)]; rfl
theorem a_sl4M {P : Program} {C : Nat -> (CF -> Bool) -> Bool} {X : FuncId -> List Value -> St -> (Value -> St -> Bool) -> Bool} {s0 : St} {n nt : Nat} {env : List (Nat × Value)} {A : List Ob} {R : Value -> List Ob -> Prop} {x lo hi mx : Ev.X} {b m l h u : Nat} {l9 : List Value} (hx : xv env x = some (.slice (some ⟨b, 0, none⟩) m OPEN)) (h_lo : xv env lo = some (.int .i64 (l : Int))) (h_hi : xv env hi = some (.int .i64 (h : Int))) (h_mx : xv env mx = some (.int .i64 (u : Int))) (ho : Own A b 38 true l9) (hl : l <= h) (hu : h <= u) (hlu : l < u) (hO : u < OPEN) (hk : u * 4 <= l9.length)
 (hR : R (.slice (some ⟨b, (0 + l) * 4, none⟩) (h - l) (u - l)) A) : OpA P C X s0 n nt (.slc 38 4 x (some lo) (some hi) (some mx)) env A R := .mk fun s hs T hT q hq => by
 refine Z6 hT (k := fun x => valOK T (some lo) (fun o_lo => valOK T (some hi) (fun o_hi => valOK T (some mx) (fun o_mx => slcK s 38 4 x o_lo o_hi o_mx (vK s q))))) hx ?_;refine Z6 hT (k := fun v => valOK T (some hi) (fun o_hi => valOK T (some mx) (fun o_mx => slcK s 38 4 _ (some v) o_hi o_mx (vK s q)))) h_lo ?_;refine Z6 hT (k := fun v => valOK T (some mx) (fun o_mx => slcK s 38 4 _ (some (.int .i64 (l : Int))) (some v) o_mx (vK s q))) h_hi ?_;refine Z6 hT (k := fun v => slcK s 38 4 _ (some (.int .i64 (l : Int))) (some (.int .i64 (h : Int))) (some v) (vK s q)) h_mx ?_;unfold slcK;obtain ⟨c, h3, _⟩ := hs.own ho;have hrow : rowOf s b = some (l9.length, 38, true) := by
  unfold rowOf;rw [h3]
 have key := slc_sl4M (n := m) hrow hl hu hlu hO hk;rw [key];show forceV (Value.slice (some ⟨b, (0 + l) * 4, none⟩) (h - l) (u - l)) (vK s q) = true;rw [forceV_eq];exact hq _ _ ⟨A, hs, hR⟩
theorem a_clr {P : Program} {C : Nat -> (CF -> Bool) -> Bool} {X : FuncId -> List Value -> St -> (Value -> St -> Bool) -> Bool} {s0 : St} {n nt : Nat} {env : List (Nat × Value)} {A : List Ob} {R : Value -> List Ob -> Prop} {size e b off n9 cap : Nat} {op : Bool} {z l : List Value} {x : Ev.X} {A' : List Ob} (hx : xv env x = some (.slice (some ⟨b, off, none⟩) n9 cap)) (hn : n9 ≠ 0) (hu : Upd A b e op l (over l off (repeatN z n9)) A') (hz : (repeatN z n9).length = n9 * size) (hfit : off + n9 * size <= l.length)
 (h : R (.tuple #[]) A') : OpA P C X s0 n nt (.clear size z x) env A R := .mk fun s hs T hT k hk => by
 refine Z6 hT (k := fun x => clearK s size z x k) hx ?_;obtain ⟨c, hc, hf, hg⟩ := hs.own hu.own;have hfit2 : off + (repeatN z n9).length <= l.length := by rw [hz]; exact hfit
 show ifB (Nat.beq n9 0) _ (rowK s b (fun m c e op => ifB (Nat.ble (Nat.add off (Nat.mul n9 size)) m) (putsK c off (repeatN z n9) (fun c => storeK s b (.cells m c e op) (k (.tuple #[])))) false)) = true;rw [beqF hn];unfold rowK;refine objK_of (k := _) hc ?_;show ifB (Nat.ble (Nat.add off (Nat.mul n9 size)) l.length) (putsK c off (repeatN z n9) _) false = true;rw [show Nat.ble (Nat.add off (Nat.mul n9 size)) l.length = true from by rw [Nat.ble_eq]; exact hfit];refine putsK_of hf hfit2 (fun c' hc' hg' => storeK_of hs.wf (Full.lt hs.wf hc) (fun s1 hm1 hn1 hd1 => ?_));have hol : (over l off (repeatN z n9)).length = l.length := over_length hfit2;refine hk _ _ ⟨_, hs.upd hu hm1 ⟨c', by rw [hol]; exact hd1, by rw [hol]; exact hc', fun j => ?_⟩, h⟩;rw [hg', over_get hfit2];by_cases h1 : off <= j /\ j < off + (repeatN z n9).length
 ·rw [if_pos h1, if_pos h1]
 ·rw [if_neg h1, if_neg h1, hg]
theorem a_appO0 {P : Program} {C : Nat -> (CF -> Bool) -> Bool} {X : FuncId -> List Value -> St -> (Value -> St -> Bool) -> Bool} {s0 : St} {n nt : Nat} {env : List (Nat × Value)} {A : List Ob} {R : Value -> List Ob -> Prop} {e size bytes b len cap b9 o9 c9 : Nat} {z l : List Value} {x y : Ev.X} {A' : List Ob} (hcap : cap = OPEN) (hx : xv env x = some (.slice (some ⟨b, 0, none⟩) len cap)) (hy : xv env y = some (.slice (some ⟨b9, o9, none⟩) 0 c9)) (hu : Upd A b e true l l A') (hfit : len * size <= l.length) (hb1 : len <= 1048576) (hb2 : bytes * len <= 1073741824)
 (h : R (.slice (some ⟨b, 0, none⟩) len OPEN) A') : OpA P C X s0 n nt (.app e size bytes z false x y) env A R := .mk fun s hs T hT k hk => by
 refine Z6 hT (k := fun x => valK T y (fun y => appK s e size bytes z false x y k)) hx (Z6 hT (k := fun y => appK s e size bytes z false _ y k) hy ?_);unfold appK;show ifB (Nat.beq cap 0) _ (ifB (Nat.ble (Nat.add len 0) 1048576) (ifB (Nat.ble (Nat.mul bytes (Nat.add len 0)) 1073741824) (appAtK s e size b 0 len cap 0 [] k) false) false) = true;rw [beqF (show cap ≠ 0 by rw [hcap]; decide)];show ifB (Nat.ble (Nat.add len 0) 1048576) (ifB (Nat.ble (Nat.mul bytes (Nat.add len 0)) 1073741824) (appAtK s e size b 0 len cap 0 [] k) false) false = true;rw [show Nat.ble (Nat.add len 0) 1048576 = true from by rw [Nat.ble_eq]; exact hb1, show Nat.ble (Nat.mul bytes (Nat.add len 0)) 1073741824 = true from by rw [Nat.ble_eq]; exact hb2];show appAtK s e size b 0 len cap 0 [] k = true;obtain ⟨c, hc, hf, hg⟩ := hs.own hu.own;unfold appAtK;refine objK_of (k := _) hc ?_;show ifB (Nat.beq e e) (ifB (Nat.ble OPEN cap) (ifB true (ifB (Nat.beq 0 0) (ifB (Nat.beq cap OPEN) (ifB (Nat.ble (Nat.mul (Nat.add len 0) size) l.length) (putsK c (Nat.mul len size) [] _) _) _) _) _) _) false = true;rw [show Nat.beq e e = true from by rw [Nat.beq_eq], show Nat.ble OPEN cap = true from by rw [Nat.ble_eq]; omega, show Nat.beq cap OPEN = true from by rw [Nat.beq_eq]; exact hcap, show Nat.ble (Nat.mul (Nat.add len 0) size) l.length = true from by rw [Nat.ble_eq]; exact hfit];show storeK s b (CObj.cells l.length c e true) (fun s => forceN (Nat.add len 0) (fun l => k (.slice (some ⟨b, 0, none⟩) l OPEN) s)) = true;refine storeK_of hs.wf (Full.lt hs.wf hc) (fun s1 hm1 hn1 hd1 => ?_);rw [forceN_eq];exact hk _ _ ⟨_, hs.upd hu hm1 ⟨c, hd1, hf, hg⟩, h⟩
section
variable {X : FuncId -> List Value -> St -> (Value -> St -> Bool) -> Bool}
end
end Ev
end Go.Proofs.Ytoeklhdklcpllaa
