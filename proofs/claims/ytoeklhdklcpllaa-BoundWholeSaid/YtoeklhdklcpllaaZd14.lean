import Derived.Test.YtoeklhdklcpllaaZd13
import Derived.Test.YtoeklhdklcpllaaZd10
import Derived.Test.YtoeklhdklcpllaaZd11
import Derived.Test.YtoeklhdklcpllaaZd09
set_option linter.unusedVariables false
set_option linter.unusedSimpArgs false
namespace Go.Proofs.Ytoeklhdklcpllaa
open Go Go.RowKit
namespace Ev
theorem sum_pr {t z : Int} (ht : 0 <= t) (hz : -20000 <= z /\ z <= 20000) : -(20000 * t) <= t * z /\ t * z <= 20000 * t := by
 have h1 := Int.mul_le_mul_of_nonneg_left hz.2 ht
 have h2 := Int.mul_le_mul_of_nonneg_left hz.1 ht
 rw [Int.mul_comm t 20000] at h1
 rw [Int.mul_comm t (-20000)] at h2
 omega
theorem sum_bd {t z : Nat -> Int} {K : Nat} : ∀ {k : Nat}, k <= K -> (∀ i, i < K -> 0 <= t i) -> (∀ i, i < K -> -20000 <= z i /\ z i <= 20000) -> -(20000 * tot t k) <= tot (fun i => t i * z i) k /\ tot (fun i => t i * z i) k <= 20000 * tot t k
 | 0, _, _, _ => by show -(20000 * (0 : Int)) <= 0 /\ (0 : Int) <= 20000 * 0; omega
 | k + 1, hk, ht, hz => by
  have ih := sum_bd (k := k) (by omega) ht hz
  have h1 := sum_pr (ht k (by omega)) (hz k (by omega))
  show -(20000 * (tot t k + t k)) <= tot (fun i => t i * z i) k + t k * z k /\ tot (fun i => t i * z i) k + t k * z k <= 20000 * (tot t k + t k)
  omega
theorem lw_row {ls : List (List Int)} {k : Nat} {y0 y1 y2 y3 : Int} (h : ls[k]? = some [y0, y1, y2, y3]) : lw ls k = y2 := by
 unfold lw
 rw [show ls.getD k [] = [y0, y1, y2, y3] from by rw [List.getD_eq_getElem?_getD, h]; rfl]; rfl
theorem sum_rng {ls : List (List Int)} {M : Nat} {w t p : Nat -> Int} {k : Nat} (hl : lmB (M : Int) ls = true) (h : Opt ls (M + 1) w t p) (hs : tot t ls.length <= 230400000000000) (hk : k < ls.length) : (-4608000000000000000 <= tot (fun i => t i * lw ls i) k /\ tot (fun i => t i * lw ls i) k <= 4608000000000000000) /\ (-4608000000000000000 <= t k * lw ls k /\ t k * lw ls k <= 4608000000000000000) /\ (-4608000000000000000 <= tot (fun i => t i * lw ls i) k + t k * lw ls k /\ tot (fun i => t i * lw ls i) k + t k * lw ls k <= 4608000000000000000) := by
 have hz : ∀ i, i < ls.length -> -20000 <= lw ls i /\ lw ls i <= 20000 := fun i hi => lw_bd' hl hi
 have h1 := sum_bd (t := t) (z := lw ls) (K := ls.length) (k := k) (by omega) h.nn hz
 have h2 := sum_bd (t := t) (z := lw ls) (K := ls.length) (k := k + 1) (by omega) h.nn hz
 have h3 := tot_part (f := t) (K0 := k) (K := ls.length) (by omega) h.nn
 have h4 := tot_part (f := t) (K0 := k + 1) (K := ls.length) (by omega) h.nn
 have h5 := sum_pr (h.nn k hk) (hz k hk)
 have h6 := tot_mem (f := t) h.nn k hk
 have h7 : tot (fun i => t i * lw ls i) (k + 1) = tot (fun i => t i * lw ls i) k + t k * lw ls k := rfl
 rw [h7] at h2
 omega
theorem sum_all {ls : List (List Int)} {M : Nat} {w t p : Nat -> Int} (hl : lmB (M : Int) ls = true) (h : Opt ls (M + 1) w t p) (hs : tot t ls.length <= 230400000000000) : -4608000000000000000 <= tot (fun i => t i * lw ls i) ls.length /\ tot (fun i => t i * lw ls i) ls.length <= 4608000000000000000 := by
 have hz : ∀ i, i < ls.length -> -20000 <= lw ls i /\ lw ls i <= 20000 := fun i hi => lw_bd' hl hi
 have h1 := sum_bd (t := t) (z := lw ls) (K := ls.length) (k := ls.length) (Nat.le_refl _) h.nn hz
 omega
section
variable {X : FuncId -> List Value -> St -> (Value -> St -> Bool) -> Bool}
end
end Ev
end Go.Proofs.Ytoeklhdklcpllaa
namespace Go.Proofs.Ytoeklhdklcpllaa
open Go Go.RowKit
namespace Ev
def T0 : Nat -> Nat -> Int := fun i k => if i = k then 0 else 1000000000
def limT (ls : List (List Int)) : Nat -> Nat -> Nat -> Int
 | 0 => T0
 | k + 1 => updT (limT ls k) ((ls.getD k []).getD 0 0).toNat ((ls.getD k []).getD 1 0).toNat (min (limT ls k ((ls.getD k []).getD 0 0).toNat ((ls.getD k []).getD 1 0).toNat) ((ls.getD k []).getD 2 0))
def stp (T : Nat -> Nat -> Int) (m i k : Nat) : Nat -> Nat -> Int :=
 if ¬ T i m = 1000000000 /\ ¬ T m k = 1000000000 then updT T i k (max (min (T i k) (T i m + T m k)) (-2560000)) else T
def kT (T : Nat -> Nat -> Int) (m i : Nat) : Nat -> Nat -> Nat -> Int
 | 0 => T
 | k + 1 => stp (kT T m i k) m i k
def iT (T : Nat -> Nat -> Int) (N m : Nat) : Nat -> Nat -> Nat -> Int
 | 0 => T
 | i + 1 => kT (iT T N m i) m i N
def mT (T : Nat -> Nat -> Int) (N : Nat) : Nat -> Nat -> Nat -> Int
 | 0 => T
 | m + 1 => iT (mT T N m) N m N
def wm (ls : List (List Int)) (N m : Nat) : Nat -> Nat -> Int := mT (limT ls ls.length) N m
def wi (ls : List (List Int)) (N m i : Nat) : Nat -> Nat -> Int := iT (wm ls N m) N m i
def wk (ls : List (List Int)) (N m i k : Nat) : Nat -> Nat -> Int := kT (wi ls N m i) m i k
inductive Pth (ls : List (List Int)) : Nat -> List Nat -> Nat -> Int -> Prop where
 | one {i : Nat} (hi : i < ls.length) : Pth ls (la ls i) [] (lb ls i) (lw ls i)
 | cons {i : Nat} {L : List Nat} {k : Nat} {w : Int} (hi : i < ls.length) (h : Pth ls (lb ls i) L k w) : Pth ls (la ls i) (lb ls i :: L) k (lw ls i + w)
theorem Pth.app {ls : List (List Int)} {a v b : Nat} {L L' : List Nat} {w w' : Int} (h : Pth ls a L v w) (h' : Pth ls v L' b w') : Pth ls a (L ++ v :: L') b (w + w') := by
 induction h with
 | one hi => exact .cons hi h'
 | cons hi _ ih => rw [Int.add_assoc]; exact .cons hi (ih h')
theorem Pth.split {ls : List (List Int)} {v b : Nat} {L' : List Nat} : ∀ {L : List Nat} {a : Nat} {w : Int}, Pth ls a (L ++ v :: L') b w -> ∃ w1 w2, Pth ls a L v w1 /\ Pth ls v L' b w2 /\ w = w1 + w2
 | [], a, w, h => by
  have h' : Pth ls a (v :: L') b w := h
  cases h' with
  | cons hi hq => exact ⟨_, _, .one hi, hq, rfl⟩
 | u :: L, a, w, h => by
  have h' : Pth ls a (u :: (L ++ v :: L')) b w := h
  cases h' with
  | cons hi hq =>
   obtain ⟨w1, w2, h1, h2, h3⟩ := Pth.split hq
   exact ⟨_, w2, .cons hi h1, h2, by omega⟩
theorem Pth.wk {ls : List (List Int)} {f : Nat} {a b : Nat} {L : List Nat} {w w0 : Int} (h0 : Wk ls f a w0) (h : Pth ls a L b w) : Wk ls f b (w0 + w) := by
 induction h generalizing w0 with
 | one hi => exact .step hi h0
 | cons hi _ ih => rw [<- Int.add_assoc]; exact ih (.step hi h0)
theorem Pth.pot {ls : List (List Int)} {y : Nat -> Int} (hy : ∀ i, i < ls.length -> y (lb ls i) <= y (la ls i) + lw ls i) {a b : Nat} {L : List Nat} {w : Int} (h : Pth ls a L b w) : y b <= y a + w := by
 have := (h.wk (.nil (f := a))).pot hy
 omega
theorem twice : ∀ {L : List Nat}, ¬ L.Nodup -> ∃ v A B C, L = A ++ v :: (B ++ v :: C)
 | [], h => absurd List.nodup_nil h
 | u :: L, h => by
  by_cases hu : u ∈ L
  ·obtain ⟨B, C, e⟩ := List.append_of_mem hu
   exact ⟨u, [], B, C, by rw [e]; rfl⟩
  ·have : ¬ L.Nodup := fun q => h (List.nodup_cons.2 ⟨hu, q⟩)
   obtain ⟨v, A, B, C, e⟩ := twice this
   exact ⟨v, u :: A, B, C, by rw [e]; rfl⟩
theorem Pth.short {ls : List (List Int)} {y : Nat -> Int} (hy : ∀ i, i < ls.length -> y (lb ls i) <= y (la ls i) + lw ls i) {a b : Nat} : ∀ {L : List Nat} {w : Int}, Pth ls a L b w -> ∃ L' w', L'.Nodup /\ Pth ls a L' b w' /\ w' <= w := by
 intro L
 induction hn : L.length using Nat.strongRecOn generalizing L with
 | ind n ih =>
  intro w h
  by_cases q : L.Nodup
  ·exact ⟨L, w, q, h, Int.le_refl _⟩
  ·obtain ⟨v, A, B, C, rfl⟩ := twice q
   obtain ⟨w1, w2, h1, h2, e⟩ := h.split
   obtain ⟨w3, w4, h3, h4, e2⟩ := h2.split
   have h5 := h3.pot hy
   obtain ⟨L', w', k1, k2, k3⟩ := ih (A ++ v :: C).length (by subst hn; simp; omega) rfl (h1.app h4)
   exact ⟨L', w', k1, k2, by omega⟩
theorem nodup_len {L : List Nat} {N : Nat} (h : L.Nodup) (hL : ∀ v ∈ L, v < N) : L.length <= N := by
 refine Classical.byContradiction (fun q => ?_)
 obtain ⟨i, j, h1, h2, h3⟩ := pigeon N (fun i => L.getD i 0) (fun i hi => by
  show L.getD i 0 < N
  rw [List.getD_eq_getElem?_getD, List.getElem?_eq_getElem (show i < L.length by omega)]
  exact hL _ (List.getElem_mem _))
 have h3' : L.getD i 0 = L.getD j 0 := h3
 rw [List.getD_eq_getElem?_getD, List.getD_eq_getElem?_getD, List.getElem?_eq_getElem (show i < L.length by omega), List.getElem?_eq_getElem (show j < L.length by omega)] at h3'
 have h4 : L[i]'(by omega) = L[j]'(by omega) := h3'
 have := (List.getElem_inj h).1 h4
 omega
section
variable {X : FuncId -> List Value -> St -> (Value -> St -> Bool) -> Bool}
end
end Ev
end Go.Proofs.Ytoeklhdklcpllaa
namespace Go.Proofs.Ytoeklhdklcpllaa
open Go Go.RowKit
namespace Ev
def RL (ls : List (List Int)) (t : Nat -> Int) : List (List Int) := ls ++ (List.range ls.length).map (fun i => if 0 < t i then [((lb ls i : Nat) : Int), ((la ls i : Nat) : Int), -(lw ls i), 0] else [((la ls i : Nat) : Int), ((lb ls i : Nat) : Int), lw ls i, 0])
theorem rl_len {ls : List (List Int)} {t : Nat -> Int} : (RL ls t).length = ls.length + ls.length := by simp [RL]
theorem rl_at {ls : List (List Int)} {t : Nat -> Int} {i : Nat} (hi : i < ls.length) : (RL ls t)[ls.length + i]? = some (if 0 < t i then [((lb ls i : Nat) : Int), ((la ls i : Nat) : Int), -(lw ls i), 0] else [((la ls i : Nat) : Int), ((lb ls i : Nat) : Int), lw ls i, 0]) := by
 unfold RL
 rw [List.getElem?_append_right (by omega), show ls.length + i - ls.length = i by omega, List.getElem?_map, List.getElem?_range hi]; rfl
theorem rl_bck {ls : List (List Int)} {t : Nat -> Int} {i : Nat} (hi : i < ls.length) (ht : 0 < t i) : la (RL ls t) (ls.length + i) = lb ls i /\ lb (RL ls t) (ls.length + i) = la ls i /\ lw (RL ls t) (ls.length + i) = -(lw ls i) := by
 have h := rl_at (t := t) hi
 rw [if_pos ht] at h
 exact fld h
theorem rl_all {ls : List (List Int)} {t : Nat -> Int} {e : Nat} (he : e < (RL ls t).length) : ∃ i, i < ls.length /\ ((la (RL ls t) e = la ls i /\ lb (RL ls t) e = lb ls i /\ lw (RL ls t) e = lw ls i) ∨ (0 < t i /\ la (RL ls t) e = lb ls i /\ lb (RL ls t) e = la ls i /\ lw (RL ls t) e = -(lw ls i))) := by
 rw [rl_len] at he
 by_cases q : e < ls.length
 ·exact ⟨e, q, .inl (app_fld q)⟩
 ·obtain ⟨i, rfl⟩ : ∃ i, e = ls.length + i := ⟨e - ls.length, by omega⟩
  refine ⟨i, by omega, ?_⟩
  by_cases ht : 0 < t i
  ·exact .inr ⟨ht, rl_bck (by omega) ht⟩
  ·have h := rl_at (ls := ls) (t := t) (i := i) (by omega)
   rw [if_neg ht] at h
   exact .inl (fld h)
theorem fwd_pth {ls : List (List Int)} {t : Nat -> Int} {i : Nat} (hi : i < ls.length) : Pth (RL ls t) (la ls i) [] (lb ls i) (lw ls i) := by
 have h := Pth.one (ls := RL ls t) (i := i) (by rw [rl_len]; omega)
 obtain ⟨e1, e2, e3⟩ := app_fld (ls := ls) (us := (List.range ls.length).map (fun i => if 0 < t i then [((lb ls i : Nat) : Int), ((la ls i : Nat) : Int), -(lw ls i), 0] else [((la ls i : Nat) : Int), ((lb ls i : Nat) : Int), lw ls i, 0])) hi
 have e1 : la (RL ls t) i = la ls i := e1
 have e2 : lb (RL ls t) i = lb ls i := e2
 have e3 : lw (RL ls t) i = lw ls i := e3
 rwa [e1, e2, e3] at h
theorem bck_pth {ls : List (List Int)} {t : Nat -> Int} {i : Nat} (hi : i < ls.length) (ht : 0 < t i) : Pth (RL ls t) (lb ls i) [] (la ls i) (-(lw ls i)) := by
 have h := Pth.one (ls := RL ls t) (i := ls.length + i) (by rw [rl_len]; omega)
 obtain ⟨e1, e2, e3⟩ := rl_bck hi ht
 rwa [e1, e2, e3] at h
theorem walk_short {R : List (List Int)} {y : Nat -> Int} {N : Nat} (hy : ∀ i, i < R.length -> y (lb R i) <= y (la R i) + lw R i) (hN : ∀ {a L b w}, Pth R a L b w -> a < N /\ b < N /\ ∀ v ∈ L, v < N) {a b : Nat} {L : List Nat} {w : Int} (h : Pth R a L b w) : 0 <= w ∨ ∃ a' L' w', L'.length + 2 <= N /\ Pth R a' L' b w' /\ w' <= w := by
 obtain ⟨L1, w1, n1, h1, e1⟩ := h.short hy
 obtain ⟨L2, w2, n2, h2, e2, a2⟩ : ∃ L2 w2, L2.Nodup /\ Pth R a L2 b w2 /\ w2 <= w1 /\ ¬ a ∈ L2 := by
  by_cases q : a ∈ L1
  ·obtain ⟨A, B, e⟩ := List.append_of_mem q
   subst e
   obtain ⟨u1, u2, k1, k2, k3⟩ := h1.split
   have k4 := k1.pot hy
   have nd := List.nodup_cons.1 (List.nodup_append.1 n1).2.1
   exact ⟨B, u2, nd.2, k2, by omega, nd.1⟩
  ·exact ⟨L1, w1, n1, h1, Int.le_refl _, q⟩
 obtain ⟨L3, w3, n3, h3, e3, a3, b3⟩ : ∃ L3 w3, L3.Nodup /\ Pth R a L3 b w3 /\ w3 <= w2 /\ (¬ a ∈ L3) /\ ¬ b ∈ L3 := by
  by_cases q : b ∈ L2
  ·obtain ⟨A, B, e⟩ := List.append_of_mem q
   subst e
   obtain ⟨u1, u2, k1, k2, k3⟩ := h2.split
   have k4 := k2.pot hy
   have nd := List.nodup_append.1 n2
   exact ⟨A, u1, nd.1, k1, by omega, fun z => a2 (List.mem_append_left _ z), fun z => nd.2.2 b z b (List.mem_cons_self ..) rfl⟩
  ·exact ⟨L2, w2, n2, h2, Int.le_refl _, a2, q⟩
 by_cases q : a = b
 ·subst q
  have := h3.pot hy
  exact .inl (by omega)
 ·obtain ⟨t1, t2, t3⟩ := hN h3
  have nd : (a :: b :: L3).Nodup := List.nodup_cons.2 ⟨fun z => by
   rcases List.mem_cons.1 z with z | z
   ·exact q z
   ·exact a3 z, List.nodup_cons.2 ⟨b3, n3⟩⟩
  have := nodup_len (N := N) nd (fun v hv => by
   rcases List.mem_cons.1 hv with rfl | hv
   ·exact t1
   ·rcases List.mem_cons.1 hv with rfl | hv
    ·exact t2
    ·exact t3 v hv)
  exact .inr ⟨a, L3, w3, this, h3, by omega⟩
theorem le_walk {R : List (List Int)} {x : Nat -> Nat -> Int} (cov : ∀ r e, e < R.length -> x (r + 1) (lb R e) <= x r (la R e) + lw R e) {a b : Nat} {L : List Nat} {w : Int} (h : Pth R a L b w) : ∀ r, x (r + (L.length + 1)) b <= x r a + w := by
 induction h with
 | one hi => intro r; exact cov r _ hi
 | cons hi _ ih =>
  intro r
  have h1 := ih (r + 1)
  have h2 := cov r _ hi
  rw [List.length_cons, show ∀ k, r + (k + 1 + 1) = r + 1 + (k + 1) from fun k => by omega]
  omega
theorem settled {R : List (List Int)} {y : Nat -> Int} {M : Nat} {x : Nat -> Nat -> Int} (hy : ∀ i, i < R.length -> y (lb R i) <= y (la R i) + lw R i) (hN : ∀ {a L b w}, Pth R a L b w -> a < M + 1 /\ b < M + 1 /\ ∀ v ∈ L, v < M + 1)
 (h0 : ∀ v, x 0 v = 0) (mono : ∀ r v, v < M + 1 -> x (r + 1) v <= x r v) (cov : ∀ r e, e < R.length -> x (r + 1) (lb R e) <= x r (la R e) + lw R e) (att : ∀ r v, v < M + 1 -> x r v = 0 ∨ ∃ a L, Pth R a L v (x r v)) : ∀ v, v < M + 1 -> x (M + 1) v = x M v := fun v hv => by
 have down : ∀ d r, x (r + d) v <= x r v := by
  intro d
  induction d with
  | zero => intro r; exact Int.le_refl _
  | succ d ih => intro r; have := ih r; have := mono (r + d) v hv; rw [show r + (d + 1) = r + d + 1 by omega]; omega
 have hm := mono M v hv
 have hz : x M v <= 0 := by have := down M 0; rw [h0, Nat.zero_add] at this; exact this
 rcases att (M + 1) v hv with q | ⟨a, L, h⟩
 ·omega
 ·rcases walk_short hy hN h with q | ⟨a', L', w', l1, l2, l3⟩
  ·omega
  ·have h1 := le_walk cov l2 0
   rw [h0, Nat.zero_add] at h1
   have h2 := down (M - (L'.length + 1)) (L'.length + 1)
   rw [show L'.length + 1 + (M - (L'.length + 1)) = M by omega] at h2
   omega
structure Fb where
 x : Nat -> Int
 c : Nat -> Cm
 l : Int
def upB (s : Fb) (v i : Nat) (bk : Bool) (to : Nat) (ms : Int) : Fb := if s.x v + ms < s.x to then ⟨updX s.x to (s.x v + ms), updX s.c to ⟨i, bk, (v : Int), to, ms⟩, (to : Int)⟩ else s
def rlB (ls : List (List Int)) (t : Nat -> Int) (s : Fb) (v i : Nat) : Fb := if lb ls i = v then (if t i = 0 then s else upB s v i true (la ls i) (-(lw ls i))) else upB s v i false (lb ls i) (lw ls i)
def rwB (ls : List (List Int)) (t : Nat -> Int) (s : Fb) (v : Nat) : Nat -> Fb
 | 0 => s
 | q + 1 => rlB ls t (rwB ls t s v q) v ((nl ls ls.length v).getD q 0).toNat
def lwB (ls : List (List Int)) (t : Nat -> Int) (s : Fb) : Nat -> Fb
 | 0 => s
 | v + 1 => rwB ls t (lwB ls t s v) v (nl ls ls.length v).length
def stB (ls : List (List Int)) (t : Nat -> Int) (N : Nat) : Nat -> Fb
 | 0 => ⟨fun _ => 0, fun _ => ⟨0, false, 0, 0, 0⟩, -1⟩
 | r + 1 => lwB ls t ⟨(stB ls t N r).x, (stB ls t N r).c, -1⟩ N
structure Rb (ls : List (List Int)) (t : Nat -> Int) (M : Nat) (x0 : Nat -> Int) (s : Fb) : Prop where
 le : ∀ v, v < M + 1 -> s.x v <= x0 v
 att : ∀ v, v < M + 1 -> s.x v = 0 ∨ ∃ a L, Pth (RL ls t) a L v (s.x v)
 ch : (s.l = -1 /\ ∀ v, v < M + 1 -> s.x v = x0 v) ∨ ∃ b : Nat, b < M + 1 /\ s.l = (b : Int) /\ s.x b < x0 b
theorem Rb.up {ls : List (List Int)} {t : Nat -> Int} {M : Nat} {x0 : Nat -> Int} {s : Fb} {v i to : Nat} {bk : Bool} {ms : Int} (h : Rb ls t M x0 s) (hv : v < M + 1) (hto : to < M + 1) (hp : Pth (RL ls t) v [] to ms) : Rb ls t M x0 (upB s v i bk to ms) /\ (upB s v i bk to ms).x to <= s.x v + ms /\ ∀ u, (upB s v i bk to ms).x u <= s.x u := by
 unfold upB
 by_cases c : s.x v + ms < s.x to
 ·rw [if_pos c]
  have hle := h.le to hto
  refine ⟨⟨fun u hu => ?_, fun u hu => ?_, .inr ⟨to, hto, rfl, ?_⟩⟩, ?_, fun u => ?_⟩
  ·show updX s.x to _ u <= _
   by_cases e : u = to
   ·subst e; rw [updX_eq]; omega
   ·rw [updX_ne e]; exact h.le u hu
  ·show updX s.x to _ u = 0 ∨ ∃ a L, Pth (RL ls t) a L u (updX s.x to _ u)
   by_cases e : u = to
   ·subst e
    rw [updX_eq]
    rcases h.att v hv with q | ⟨a, L, q⟩
    ·rw [q, Int.zero_add]; exact .inr ⟨v, [], hp⟩
    ·exact .inr ⟨a, _, q.app hp⟩
   ·rw [updX_ne e]; exact h.att u hu
  ·show updX s.x to _ to < _
   rw [updX_eq]; omega
  ·show updX s.x to _ to <= _
   rw [updX_eq]; exact Int.le_refl _
  ·show updX s.x to _ u <= _
   by_cases e : u = to
   ·subst e; rw [updX_eq]; omega
   ·rw [updX_ne e]; exact Int.le_refl _
 ·rw [if_neg c]
  exact ⟨h, by omega, fun u => Int.le_refl _⟩
def Cv (ls : List (List Int)) (t x0 x : Nat -> Int) (v i : Nat) : Prop := (la ls i = v -> x (lb ls i) <= x0 v + lw ls i) /\ (lb ls i = v -> 0 < t i -> x (la ls i) <= x0 v + -(lw ls i))
theorem Cv.mono {ls : List (List Int)} {t x0 x x' : Nat -> Int} {v i : Nat} (h : Cv ls t x0 x v i) (hx : ∀ u, x' u <= x u) : Cv ls t x0 x' v i := ⟨fun e => by have := h.1 e; have := hx (lb ls i); omega, fun e e2 => by have := h.2 e e2; have := hx (la ls i); omega⟩
theorem Rb.rl {ls : List (List Int)} {t : Nat -> Int} {M : Nat} {x0 : Nat -> Int} {s : Fb} {v i : Nat} (hg : Lg M ls) (hn : ∀ i, i < ls.length -> 0 <= t i) (h : Rb ls t M x0 s) (hv : v < M + 1) (hi : i < ls.length) (hnm : la ls i = v ∨ lb ls i = v) : Rb ls t M x0 (rlB ls t s v i) /\ Cv ls t x0 (rlB ls t s v i).x v i /\ ∀ u, (rlB ls t s v i).x u <= s.x u := by
 obtain ⟨g1, g2, g3, _⟩ := hg i hi
 have hle := h.le v hv
 unfold rlB
 by_cases c : lb ls i = v
 ·rw [if_pos c]
  by_cases c2 : t i = 0
  ·rw [if_pos c2]
   exact ⟨h, ⟨fun e => absurd (e.trans c.symm) g3, fun _ e => by omega⟩, fun u => Int.le_refl _⟩
  ·rw [if_neg c2]
   have c3 := hn i hi
   have hp := bck_pth (ls := ls) (t := t) hi (by omega)
   rw [c] at hp
   obtain ⟨u1, u2, u3⟩ := h.up (i := i) (bk := true) hv g1 hp
   exact ⟨u1, ⟨fun e => absurd (e.trans c.symm) g3, fun _ _ => by omega⟩, u3⟩
 ·rw [if_neg c]
  have ha := hnm.resolve_right c
  have hp := fwd_pth (ls := ls) (t := t) hi
  rw [ha] at hp
  obtain ⟨u1, u2, u3⟩ := h.up (i := i) (bk := false) hv g2 hp
  exact ⟨u1, ⟨fun _ => by omega, fun e => absurd e c⟩, u3⟩
theorem Rb.rw {ls : List (List Int)} {t : Nat -> Int} {M : Nat} {x0 : Nat -> Int} {s : Fb} {v : Nat} (hg : Lg M ls) (hn : ∀ i, i < ls.length -> 0 <= t i) (h : Rb ls t M x0 s) (hv : v < M + 1) : ∀ {q : Nat}, q <= (nl ls ls.length v).length -> Rb ls t M x0 (rwB ls t s v q) /\ (∀ j, j < q -> ∀ i : Nat, i < ls.length -> (nl ls ls.length v).getD j 0 = (i : Int) -> Cv ls t x0 (rwB ls t s v q).x v i) /\ ∀ u, (rwB ls t s v q).x u <= s.x u
 | 0, _ => ⟨h, fun j hj => absurd hj (Nat.not_lt_zero j), fun u => Int.le_refl _⟩
 | q + 1, hq => by
  obtain ⟨i1, i2, i3⟩ := Rb.rw hg hn h hv (q := q) (by omega)
  obtain ⟨i, hi, hil, hnm⟩ := nl_mem (ls := ls) (v := v) (k := ls.length) (q := q) (by omega)
  obtain ⟨j1, j2, j3⟩ := i1.rl hg hn hv hil ((nam_ab hg hil).1 hnm)
  show Rb ls t M x0 (rlB ls t (rwB ls t s v q) v ((nl ls ls.length v).getD q 0).toNat) /\ (∀ j, j < q + 1 -> ∀ i : Nat, i < ls.length -> (nl ls ls.length v).getD j 0 = (i : Int) -> Cv ls t x0 (rlB ls t (rwB ls t s v q) v ((nl ls ls.length v).getD q 0).toNat).x v i) /\ ∀ u, (rlB ls t (rwB ls t s v q) v ((nl ls ls.length v).getD q 0).toNat).x u <= s.x u
  rw [hi, Int.toNat_natCast]
  refine ⟨j1, fun j hj i' hi' e' => ?_, fun u => by have := i3 u; have := j3 u; omega⟩
  by_cases e : j = q
  ·subst e
   have : i' = i := by rw [hi] at e'; omega
   subst this
   exact j2
  ·exact (i2 j (by omega) i' hi' e').mono j3
theorem Rb.lw {ls : List (List Int)} {t : Nat -> Int} {M : Nat} {x0 : Nat -> Int} {s : Fb} (hg : Lg M ls) (hn : ∀ i, i < ls.length -> 0 <= t i) (h : Rb ls t M x0 s) : ∀ {v : Nat}, v <= M + 1 -> Rb ls t M x0 (lwB ls t s v) /\ ∀ u, u < v -> ∀ i, i < ls.length -> Cv ls t x0 (lwB ls t s v).x u i
 | 0, _ => ⟨h, fun u hu => absurd hu (Nat.not_lt_zero u)⟩
 | v + 1, hv => by
  obtain ⟨i1, i2⟩ := Rb.lw hg hn h (v := v) (by omega)
  obtain ⟨j1, j2, j3⟩ := i1.rw hg hn (show v < M + 1 by omega) (Nat.le_refl _)
  refine ⟨j1, fun u hu i hi => ?_⟩
  by_cases e : u = v
  ·subst e
   by_cases hnm : la ls i = u ∨ lb ls i = u
   ·obtain ⟨j, k1, k2⟩ := nl_has (ls := ls) (v := u) (i := i) ((nam_ab hg hi).2 hnm) (k := ls.length) hi
    exact j2 j k1 i hi k2
   ·exact ⟨fun q => absurd (.inl q) hnm, fun q => absurd (.inr q) hnm⟩
  ·exact (i2 u (by omega) i hi).mono j3
theorem Rb.st {ls : List (List Int)} {t : Nat -> Int} {M : Nat} (hg : Lg M ls) (hn : ∀ i, i < ls.length -> 0 <= t i) : ∀ {r : Nat}, (∀ v, v < M + 1 -> (stB ls t (M + 1) r).x v = 0 ∨ ∃ a L, Pth (RL ls t) a L v ((stB ls t (M + 1) r).x v)) /\ Rb ls t M (stB ls t (M + 1) r).x ⟨(stB ls t (M + 1) r).x, (stB ls t (M + 1) r).c, -1⟩
 | 0 => ⟨fun v _ => .inl rfl, fun v _ => Int.le_refl _, fun v _ => .inl rfl, .inl ⟨rfl, fun v _ => rfl⟩⟩
 | r + 1 => by
  obtain ⟨_, i2⟩ := Rb.st hg hn (r := r)
  obtain ⟨j1, _⟩ := i2.lw hg hn (Nat.le_refl (M + 1))
  exact ⟨j1.att, fun v _ => Int.le_refl _, j1.att, .inl ⟨rfl, fun v _ => rfl⟩⟩
theorem st_rnd {ls : List (List Int)} {t : Nat -> Int} {M r : Nat} (hg : Lg M ls) (hn : ∀ i, i < ls.length -> 0 <= t i) : Rb ls t M (stB ls t (M + 1) r).x (stB ls t (M + 1) (r + 1)) /\ ∀ u, u < M + 1 -> ∀ i, i < ls.length -> Cv ls t (stB ls t (M + 1) r).x (stB ls t (M + 1) (r + 1)).x u i :=
 (Rb.st hg hn (r := r)).2.lw hg hn (Nat.le_refl (M + 1))
theorem pth_lt {ls : List (List Int)} {t : Nat -> Int} {M : Nat} (hg : Lg M ls) {a b : Nat} {L : List Nat} {w : Int} (h : Pth (RL ls t) a L b w) : a < M + 1 /\ b < M + 1 /\ ∀ v ∈ L, v < M + 1 := by
 have key : ∀ e, e < (RL ls t).length -> la (RL ls t) e < M + 1 /\ lb (RL ls t) e < M + 1 := fun e he => by
  obtain ⟨i, hi, q⟩ := rl_all he
  obtain ⟨g1, g2, _⟩ := hg i hi
  rcases q with ⟨q1, q2, _⟩ | ⟨_, q1, q2, _⟩
  ·rw [q1, q2]; exact ⟨g1, g2⟩
  ·rw [q1, q2]; exact ⟨g2, g1⟩
 induction h with
 | one hi => exact ⟨(key _ hi).1, (key _ hi).2, fun v hv => absurd hv (List.not_mem_nil)⟩
 | cons hi _ ih =>
  refine ⟨(key _ hi).1, ih.2.1, fun v hv => ?_⟩
  rcases List.mem_cons.1 hv with rfl | hv
  ·exact (key _ hi).2
  ·exact ih.2.2 v hv
theorem rl_pot {ls : List (List Int)} {t y : Nat -> Int} (hs : ∀ i, i < ls.length -> y (lb ls i) <= y (la ls i) + lw ls i) (ht : ∀ i, i < ls.length -> 0 < t i -> y (lb ls i) = y (la ls i) + lw ls i) : ∀ i, i < (RL ls t).length -> y (lb (RL ls t) i) <= y (la (RL ls t) i) + lw (RL ls t) i := fun e he => by
 obtain ⟨i, hi, q⟩ := rl_all he
 rcases q with ⟨q1, q2, q3⟩ | ⟨q0, q1, q2, q3⟩
 ·rw [q1, q2, q3]; exact hs i hi
 ·rw [q1, q2, q3]; have := ht i hi q0; omega
theorem stb_end {ls : List (List Int)} {t y : Nat -> Int} {M : Nat} (hg : Lg M ls) (hn : ∀ i, i < ls.length -> 0 <= t i) (hs : ∀ i, i < ls.length -> y (lb ls i) <= y (la ls i) + lw ls i) (ht : ∀ i, i < ls.length -> 0 < t i -> y (lb ls i) = y (la ls i) + lw ls i) : (stB ls t (M + 1) (M + 1)).l = -1 := by
 have hx := settled (R := RL ls t) (y := y) (M := M) (x := fun r => (stB ls t (M + 1) r).x) (rl_pot hs ht) (fun h => pth_lt hg h) (fun v => rfl) (fun r v hv => (st_rnd hg hn (r := r)).1.le v hv) (fun r e he => by
  obtain ⟨i, hi, q⟩ := rl_all he
  obtain ⟨g1, g2, _⟩ := hg i hi
  rcases q with ⟨q1, q2, q3⟩ | ⟨q0, q1, q2, q3⟩
  ·rw [q1, q2, q3]; exact ((st_rnd hg hn (r := r)).2 _ g1 i hi).1 rfl
  ·rw [q1, q2, q3]; exact ((st_rnd hg hn (r := r)).2 _ g2 i hi).2 rfl q0) (fun r v hv => (Rb.st hg hn (r := r)).1 v hv)
 rcases (st_rnd hg hn (r := M)).1.ch with q | ⟨b, b1, b2, b3⟩
 ·exact q.1
 ·have := hx b b1
  have h2 : (stB ls t (M + 1) (M + 1)).x b = (stB ls t (M + 1) M).x b := this
  omega
theorem stb_tell {ls : List (List Int)} {t y : Nat -> Int} {M r : Nat} (hg : Lg M ls) (hn : ∀ i, i < ls.length -> 0 <= t i) (hl : (stB ls t (M + 1) (r + 1)).l = -1) : ∀ i, i < ls.length -> (stB ls t (M + 1) (r + 1)).x (lb ls i) <= (stB ls t (M + 1) (r + 1)).x (la ls i) + lw ls i /\ (0 < t i -> (stB ls t (M + 1) (r + 1)).x (lb ls i) = (stB ls t (M + 1) (r + 1)).x (la ls i) + lw ls i) := fun i hi => by
 obtain ⟨h1, h2⟩ := st_rnd hg hn (r := r)
 obtain ⟨g1, g2, _⟩ := hg i hi
 have e : ∀ v, v < M + 1 -> (stB ls t (M + 1) (r + 1)).x v = (stB ls t (M + 1) r).x v := by
  rcases h1.ch with q | ⟨b, b1, b2, b3⟩
  ·exact q.2
  ·rw [hl] at b2; omega
 have a1 := (h2 _ g1 i hi).1 rfl
 have a2 := (h2 _ g2 i hi).2 rfl
 have e1 := e _ g1
 have e2 := e _ g2
 refine ⟨by omega, fun h0 => ?_⟩
 have := a2 h0
 omega
section
variable {X : FuncId -> List Value -> St -> (Value -> St -> Bool) -> Bool}
end
end Ev
end Go.Proofs.Ytoeklhdklcpllaa
namespace Go.Proofs.Ytoeklhdklcpllaa
open Go Go.RowKit
namespace Ev
theorem cvs_cml {c : Nat -> Nat × Nat × Nat × Int} : ∀ {N : Nat}, cvs c N = cml (fun j => ⟨(c j).1, false, ((c j).2.1 : Int), (c j).2.2.1, (c j).2.2.2⟩) N
 | 0 => rfl
 | n + 1 => by
  show cvs c n ++ cell (c n) = _
  rw [cvs_cml, <- cml_app]; rfl
theorem rep_cml {N : Nat} : repeatN [.int .i64 0, .bool false, .int .i64 0, .int .i64 0, .int .i64 0] N = cml (fun _ => ⟨0, false, 0, 0, 0⟩) N := by
 rw [cvs_zero, cvs_cml]; rfl
theorem rwb_skip {ls : List (List Int)} {t : Nat -> Int} {s : Fb} {v q i : Nat} (hi : (nl ls ls.length v).getD q 0 = (i : Int)) (hb : lb ls i = v) (ht : t i = 0) : rwB ls t s v (q + 1) = rwB ls t s v q := by
 show rlB ls t _ v ((nl ls ls.length v).getD q 0).toNat = _
 rw [hi, Int.toNat_natCast]
 unfold rlB
 rw [if_pos hb, if_pos ht]
theorem rwb_back {ls : List (List Int)} {t : Nat -> Int} {s : Fb} {v q i : Nat} (hi : (nl ls ls.length v).getD q 0 = (i : Int)) (hb : lb ls i = v) (ht : ¬ t i = 0) : rwB ls t s v (q + 1) = upB (rwB ls t s v q) v i true (la ls i) (-(lw ls i)) := by
 show rlB ls t _ v ((nl ls ls.length v).getD q 0).toNat = _
 rw [hi, Int.toNat_natCast]
 unfold rlB
 rw [if_pos hb, if_neg ht]
theorem rwb_fwd {ls : List (List Int)} {t : Nat -> Int} {s : Fb} {v q i : Nat} (hi : (nl ls ls.length v).getD q 0 = (i : Int)) (hb : ¬ lb ls i = v) : rwB ls t s v (q + 1) = upB (rwB ls t s v q) v i false (lb ls i) (lw ls i) := by
 show rlB ls t _ v ((nl ls ls.length v).getD q 0).toNat = _
 rw [hi, Int.toNat_natCast]
 unfold rlB
 rw [if_neg hb]
theorem ub_yes {s : Fb} {v i to : Nat} {bk : Bool} {ms : Int} (h : s.x v + ms < s.x to) : (⟨updX s.x to (s.x v + ms), updX s.c to ⟨i, bk, (v : Int), to, ms⟩, (to : Int)⟩ : Fb) = upB s v i bk to ms := (if_pos h).symm
theorem ub_no {s : Fb} {v i to : Nat} {bk : Bool} {ms : Int} (h : ¬ s.x v + ms < s.x to) : s = upB s v i bk to ms := (if_neg h).symm
theorem pth_low {ls : List (List Int)} {t : Nat -> Int} (hw : ∀ i, i < ls.length -> -20000 <= lw ls i /\ lw ls i <= 20000) {a b : Nat} {L : List Nat} {w : Int} (h : Pth (RL ls t) a L b w) : -20000 * ((L.length : Int) + 1) <= w := by
 have key : ∀ e, e < (RL ls t).length -> -20000 <= lw (RL ls t) e := fun e he => by
  obtain ⟨i, hi, q⟩ := rl_all he
  have := hw i hi
  rcases q with ⟨_, _, q3⟩ | ⟨_, _, _, q3⟩ <;> omega
 induction h with
 | one hi => have := key _ hi; show -20000 * (((0 : Nat) : Int) + 1) <= _; omega
 | cons hi _ ih => have := key _ hi; rw [List.length_cons]; omega
theorem rb_bd {ls : List (List Int)} {t y x0 : Nat -> Int} {M : Nat} {s : Fb} (h : Rb ls t M x0 s) (hg : Lg M ls) (h0 : ∀ v, v < M + 1 -> x0 v <= 0) (hy : ∀ i, i < (RL ls t).length -> y (lb (RL ls t) i) <= y (la (RL ls t) i) + lw (RL ls t) i) (hw : ∀ i, i < ls.length -> -20000 <= lw ls i /\ lw ls i <= 20000) (hM : M <= 64) : ∀ v, v < M + 1 -> -1280000 <= s.x v /\ s.x v <= 0 := fun v hv => by
 have h1 := h.le v hv
 have h2 := h0 v hv
 refine ⟨?_, by omega⟩
 rcases h.att v hv with q | ⟨a, L, q⟩
 ·omega
 ·rcases walk_short (N := M + 1) hy (fun h => pth_lt hg h) q with z | ⟨a', L', w', l1, l2, l3⟩
  ·omega
  ·have := pth_low hw l2
   omega
theorem stb_neg {ls : List (List Int)} {t : Nat -> Int} {M : Nat} (hg : Lg M ls) (hn : ∀ i, i < ls.length -> 0 <= t i) : ∀ {r : Nat}, ∀ v, v < M + 1 -> (stB ls t (M + 1) r).x v <= 0
 | 0, v, _ => Int.le_refl _
 | r + 1, v, hv => by
  have h1 := stb_neg hg hn (r := r) v hv
  have h2 := (st_rnd hg hn (r := r)).1.le v hv
  omega
theorem best_fin {ls : List (List Int)} {M r : Nat} {w t p : Nat -> Int} {x : List Int} {k : Nat} (hg : Lg M ls) (h : Opt ls (M + 1) w t p) (hb : ∀ v, v < M + 1 -> -1280000 <= (stB ls t (M + 1) (r + 1)).x v /\ (stB ls t (M + 1) (r + 1)).x v <= 0) (hl : (stB ls t (M + 1) (r + 1)).l = -1) (hm : Mvd (xs (stB ls t (M + 1) (r + 1)).x (M + 1)) x (-((stB ls t (M + 1) (r + 1)).x 0)) (xs (stB ls t (M + 1) (r + 1)).x (M + 1)).length) : x.length = M + 1 /\ x.getD 0 0 = 0 /\ Opt ls (M + 1) w t (fun v => x.getD v 0) /\ ∀ v, v < M + 1 -> -1280000 <= x.getD v 0 /\ x.getD v 0 <= 1280000 := by
 obtain ⟨m1, m2⟩ := hm
 rw [xs_len] at m1 m2
 have at' : ∀ v, v < M + 1 -> x.getD v 0 = (stB ls t (M + 1) (r + 1)).x v + -((stB ls t (M + 1) (r + 1)).x 0) := fun v hv => by
  have := m2 v hv
  rwa [xs_get hv] at this
 have ht := stb_tell hg h.nn hl (y := p)
 refine ⟨m1, by rw [at' 0 (by omega)]; omega, ⟨h.nn, h.nt, fun i hi => ?_, fun i hi h0 => ?_⟩, fun v hv => by have := at' v hv; have := hb v hv; have := hb 0 (by omega); omega⟩
 ·obtain ⟨g1, g2, _⟩ := hg i hi
  have e1 := at' _ g1
  have e2 := at' _ g2
  have := (ht i hi).1
  show x.getD _ 0 <= x.getD _ 0 + _
  omega
 ·obtain ⟨g1, g2, _⟩ := hg i hi
  have e1 := at' _ g1
  have e2 := at' _ g2
  have := (ht i hi).2 h0
  show x.getD _ 0 = x.getD _ 0 + _
  omega
section
variable {X : FuncId -> List Value -> St -> (Value -> St -> Bool) -> Bool}
end
end Ev
end Go.Proofs.Ytoeklhdklcpllaa
namespace Go.Proofs.Ytoeklhdklcpllaa
open Go Go.RowKit
namespace Ev
def NG (w : List Int) : List Int := w.map (fun x => -x)
theorem ng_len {w : List Int} : (NG w).length = w.length := List.length_map ..
theorem ng_get {w : List Int} {i : Nat} : (NG w).getD i 0 = -(w.getD i 0) := by
 unfold NG
 rw [List.getD_eq_getElem?_getD, List.getD_eq_getElem?_getD, List.getElem?_map]
 cases w[i]? <;> rfl
def Ngd (l w : List Int) (k : Nat) : Prop := w.length = l.length /\ ∀ i, i < k -> w.getD i 0 = -(l.getD i 0)
theorem Ngd.step {l w : List Int} {k : Nat} (h : Ngd l w k) (hk : k < l.length) : Ngd l (w.set k (-(l.getD k 0))) (k + 1) := by
 refine ⟨by rw [List.length_set]; exact h.1, fun i hi => ?_⟩
 rw [getD_set (by rw [h.1]; exact hk)]
 by_cases q : k = i
 ·rw [if_pos q, q]
 ·rw [if_neg q]; exact h.2 i (by omega)
theorem Ngd.eq {l w : List Int} (h : Ngd l w l.length) : w = NG l := by
 refine List.ext_getElem? (fun j => ?_)
 by_cases hj : j < l.length
 ·have h1 := h.2 j hj
  rw [<- ng_get] at h1
  rw [List.getElem?_eq_getElem (by rw [h.1]; exact hj), List.getElem?_eq_getElem (by rw [ng_len]; exact hj)]
  rw [List.getD_eq_getElem?_getD, List.getD_eq_getElem?_getD, List.getElem?_eq_getElem (by rw [h.1]; exact hj), List.getElem?_eq_getElem (by rw [ng_len]; exact hj)] at h1
  exact congrArg some h1
 ·rw [List.getElem?_eq_none (by rw [h.1]; omega), List.getElem?_eq_none (by rw [ng_len]; omega)]
theorem wok_at {w : List Int} (h : WOk w w.length) {i : Nat} (hi : i < w.length) : -3600000000000 <= w.getD i 0 /\ w.getD i 0 <= 3600000000000 := by
 have h1 := h i hi
 have h2 := szs_pos (w := w) (k := i)
 have h3 : szs w i + max (w.getD i 0) (-(w.getD i 0)) <= 3600000000000 := h1
 omega
theorem ng_szs {w : List Int} : ∀ {k : Nat}, szs (NG w) k = szs w k
 | 0 => rfl
 | k + 1 => by
  show szs (NG w) k + max ((NG w).getD k 0) (-((NG w).getD k 0)) = szs w k + max (w.getD k 0) (-(w.getD k 0))
  rw [ng_szs, ng_get]; omega
theorem ng_wok {w : List Int} (h : WOk w w.length) : WOk (NG w) (NG w).length := fun k hk => by
 rw [ng_szs]; rw [ng_len] at hk; exact h k hk
theorem ng_fit {w : List Int} (h : WOk w w.length) : ∀ x ∈ NG w, -9223372036854775808 <= x /\ x < 9223372036854775808 := fun x hx => by
 obtain ⟨j, hj, e⟩ := List.mem_iff_getElem.1 hx
 rw [ng_len] at hj
 have h1 := wok_at h hj
 have h2 : (NG w).getD j 0 = x := by rw [List.getD_eq_getElem?_getD, List.getElem?_eq_getElem (by rw [ng_len]; exact hj), e]; rfl
 rw [ng_get] at h2
 omega
section
variable {X : FuncId -> List Value -> St -> (Value -> St -> Bool) -> Bool}
theorem turned_s (n : Nat) (aw : Option Addr) (cw : Nat) (w : List Int) (s : St) (hs : Wf s) (hn : 281474976710656 <= n) (hW : IntsE s aw w) (hb : ∀ i, i < w.length -> -1000000000000000 <= w.getD i 0 /\ w.getD i 0 <= 1000000000000000) (h64 : w.length <= 100000) : Spec Try.prog (tabK tabw) X (n + 400) 61 [.slice aw w.length cw] s (fun v A => ∃ b, v = .slice (some ⟨b, 0, none⟩) w.length w.length /\ A = [.row b 3 false (ints (NG w))]) := by
 refine enter bw61_at rfl hs ?_
 unfold bw61
 have hlen := hW.len
 refine rS (kM rfl rfl (i_nil (rS (kM rfl rfl (kO rfl (a_lenx rfl hW.spot (kO rfl (a_mksI (m := 0) (c := w.length) rfl rfl (by omega) (by omega) (by omega) (fun b1 => (kM rfl rfl (i_nil (rQ (rS (kM rfl rfl (kO rfl (a_lenx rfl hW.spot (kM rfl rfl (i_nil (r_block (r_loop (fun j e A => ∃ (k : Nat) (w9 : List Int), e = [(3, .slice (some ⟨b1, 0, none⟩) k w.length), (9, .slice aw w.length cw), (10, .int .i64 (w.length : Int)), (11, .int .i64 (k : Int))] /\ A = (.row b1 3 false (ints w9) :: []) /\ j = w.length - k /\ k <= w.length /\ Ngd w w9 k) 200 0 281474976710656 ?_ (j := _) (env2 := _) (A2 := _) ?_ ?_ ?_ ?_ ⟨0, List.replicate w.length 0, rfl, rfl, rfl, Nat.zero_le _, ⟨by simp, fun i hi => absurd hi (Nat.not_lt_zero i)⟩⟩))))))))))))))))))))
 rotate_left
 ·omega
 ·omega
 ·exact (lc 3 rfl (lc 9 rfl (lc 10 rfl (lc 11 rfl Less.nil))))
 ·exact (.q .slnil)
 rintro n hn j _ _ ⟨k, w9, rfl, rfl, rfl, hk, hw⟩
 have hwl9 := hw.1
 refine rS (kO rfl (a_lss rfl rfl (fun h2 => ?_) (fun h2 => ?_)))
 ·refine i_nil (rQ (r_cond_t rfl (r_skip (then_n (rQ (r_block (rS (kO rfl (a_iaI (j := k) hW rfl rfl (by omega) (by first | rfl | omega) (by omega) (fun _ _ a3 => ?_))))))))))
  have hbk := hb k (by omega)
  refine kO rfl (a_ldr rfl (hW.at a3 (by omega)) (kM rfl rfl (i_nil (rI (kM rfl rfl (kM rfl rfl (kO rfl (a_neg rfl (by omega) (kO rfl (a_lit rfl rfl rfl (fun b4 => (kO rfl (a_appc rfl rfl (Src.own .here rfl (by simp)) (.next .here) (by rw [ints_len]; omega) (by omega) (by show _ < 18446744073709551616; omega) (by omega) (by omega) (kM rfl rfl (i_nil (block_n (then_n (rI (kO rfl (a_add rfl rfl (by omega) (kM rfl rfl (i_nil (then_n ?_)))))))))))))))))))))))
  exact ⟨rfl, _, _, _, (show w.length - (k + 1) < w.length - k by omega), (lc 3 rfl (lc 9 rfl (lc 10 rfl (lc 11 rfl Less.nil)))), (.cons _ (.q .slnil)), ⟨k + 1, _, rfl, (by show [Ob.row _ _ _ (over (ints w9) (k * 1) [.int .i64 _])] = _; rw [over_ints (by omega)]), rfl, by omega, (hw.step (by omega))⟩⟩
 ·refine i_nil (rQ (r_cond_f rfl (r_exit (then_e (then_e (block_hit (then_n (rS (kM rfl rfl (kM rfl rfl (i_nil (r_ret ?_))))))))))))
  have hkl : k = w.length := by omega
  subst hkl
  rw [hw.eq]
  exact end1A rfl (.q .slnil) ⟨_, rfl, rfl⟩
theorem solve_n (n : Nat) (m : Int) (al : Option Addr) (cl : Nat) (ls : List (List Int)) (aw : Option Addr) (cw nw : Nat) (w : List Int) (s : St) (hs : Wf s) (hn : 6755399441055744 <= n) (hL : RowsE s 4 al ls) (hcl : al = none -> cl = 0) (hW : IntsE s aw w) (hnw : nw = w.length) (hCap : CapOk s aw w.length cw) : Spec Try.prog (tabK tabw) X (n + 9500) 25 [.agg ⟨[.int .i64 m, .slice al ls.length cl]⟩, .slice aw nw cw] s (fun v A => (¬ sysE m ls = 0 /\ v = .tuple #[.pointer none, .int .i64 (sysE m ls)] /\ A = []) ∨ (sysE m ls = 0 /\ ¬ ((w.length : Int) = m + 1 /\ WOk w w.length) /\ v = .tuple #[.pointer none, .int .i64 27] /\ A = []) ∨ (sysE m ls = 0 /\ ((w.length : Int) = m + 1 /\ WOk w w.length) /\ Uns ls (m.toNat + 1) /\ v = .tuple #[.pointer none, .int .i64 23] /\ A = []) ∨ (sysE m ls = 0 /\ ((w.length : Int) = m + 1 /\ WOk w w.length) /\ ¬ Uns ls (m.toNat + 1) /\ Opn ls (m.toNat + 1) (du0 w m.toNat) /\ v = .tuple #[.pointer none, .int .i64 22] /\ A = []) ∨ (sysE m ls = 0 /\ ((w.length : Int) = m + 1 /\ WOk w w.length) /\ ¬ Uns ls (m.toNat + 1) /\ ∃ t p, Opt ls (m.toNat + 1) (du0 w m.toNat) t p /\ (∀ i, i < ls.length -> t i <= 3600000000000) /\ tot t ls.length <= 230400000000000 /\ (∀ v, v < m.toNat + 1 -> -1300000 <= p v /\ p v <= 30000000) /\ ∃ b bt bn O B, v = .tuple #[.pointer (some ⟨b, 0, none⟩), .int .i64 0] /\ A = nobj B (nl ls ls.length) O ++ [.row b 93 false [.int .i64 m, .slice al ls.length cl, .slice (some ⟨bt, 0, none⟩) ls.length ls.length, .slice (some ⟨bn, 0, none⟩) (m.toNat + 1) (m.toNat + 1)], .row bn 25 false (nsl B (nl ls ls.length) (m.toNat + 1)), .row bt 3 false (ints (xs t ls.length))] /\ NO O (m.toNat + 1) (nl ls ls.length))) := by
 subst hnw
 exact solve_s n m al cl ls aw cw w s hs hn hL hcl hW hCap
set_option maxRecDepth 100000 in
theorem Range_s (n : Nat) (m : Int) (al : Option Addr) (cl : Nat) (ls : List (List Int)) (aw : Option Addr) (cw : Nat) (w : List Int) (s : St) (hs : Wf s) (hn : 7318349394477056 <= n) (hL : RowsE s 4 al ls) (hcl : al = none -> cl = 0) (hW : IntsE s aw w) (hCap : CapOk s aw w.length cw) : Spec Try.prog (tabK tabw) X (n + 11000) 13 [.agg ⟨[.int .i64 m, .slice al ls.length cl]⟩, .slice aw w.length cw] s (fun v A => (∃ e, (e = sysE m ls ∨ e = 27 ∨ e = 23) /\ ¬ e = 0 /\ (sysE m ls = 0 -> ((w.length : Int) = m + 1 /\ WOk w w.length) -> e = 23 /\ Uns ls (m.toNat + 1)) /\ (¬ sysE m ls = 0 -> e = sysE m ls) /\ (sysE m ls = 0 -> ¬ ((w.length : Int) = m + 1 /\ WOk w w.length) -> e = 27) /\ v = .tuple #[.int .i64 0, .int .i64 0, .int .i64 e] /\ A = []) ∨ (sysE m ls = 0 /\ ((w.length : Int) = m + 1 /\ WOk w w.length) /\ ¬ Uns ls (m.toNat + 1) /\ (Opn ls (m.toNat + 1) (du0 w m.toNat) ∨ Opn ls (m.toNat + 1) (du0 (NG w) m.toNat)) /\ v = .tuple #[.int .i64 0, .int .i64 0, .int .i64 22] /\ A = []) ∨ (sysE m ls = 0 /\ ((w.length : Int) = m + 1 /\ WOk w w.length) /\ ¬ Uns ls (m.toNat + 1) /\ ∃ t p t2 p2, Opt ls (m.toNat + 1) (du0 w m.toNat) t p /\ Opt ls (m.toNat + 1) (du0 (NG w) m.toNat) t2 p2 /\ tot t ls.length <= 230400000000000 /\ tot t2 ls.length <= 230400000000000 /\ v = .tuple #[.int .i64 (-(tot (fun i => t2 i * lw ls i) ls.length)), .int .i64 (tot (fun i => t i * lw ls i) ls.length), .int .i64 0] /\ A = [])) := by
 refine enter bw13_at rfl hs ?_
 unfold bw13
 have hlen := hL.len
 have hlenW := hW.len
 refine rS (kO rfl (a_box rfl rfl rfl (fun b1 => (kM rfl rfl (kM rfl rfl (kM rfl rfl (i_nil (rS (kO rfl (a_lda rfl (by decide) .here rfl (kM rfl rfl (kG rfl rfl (a_inl rfl rfl bw34_at rfl ?_)))))))))))))
 unfold bw34
 refine rS (kO rfl (a_box rfl rfl rfl (fun b2 => (kM rfl rfl (kM rfl rfl (kM rfl rfl (i_nil (rS (kO rfl (a_lda rfl (by decide) .here rfl (kM rfl rfl (kO rfl (a_call rfl rfl (fun s1 h1 => solve_s _ m al cl ls aw cw w s1 h1.wf (by omega) (hL.ext hs h1.2.1) hcl (hW.ext hs h1.2.1) (hCap.ext hs h1.2.1)) (fun v1 A1 q1 => ?_))))))))))))))
 rcases q1 with ⟨hsx, rfl, rfl⟩ | ⟨hsys, hww, rfl, rfl⟩ | ⟨hsys, hww, hun, rfl, rfl⟩ | ⟨hsys, hww, hnu, hop, rfl, rfl⟩ | ⟨hsys, hww, hnu, q1⟩
 ·have hsx9 := hsx
  refine kM rfl rfl (kO rfl (a_ext rfl rfl (kO rfl (a_ext rfl rfl (kM rfl rfl (kM rfl rfl (i_nil (rQ (rS (kM rfl rfl (kO rfl (a_neq rfl rfl (fun h6 => ?_) (fun h6 => ?_)))))))))))))
  ·refine i_nil (r_cond_t rfl (rS (kM rfl rfl (kM rfl rfl (kM rfl rfl (kM rfl rfl (i_nil (r_ret (then_r (endD3A rfl rfl rfl .nil (.refl _) (kM rfl rfl (kO rfl (a_ext rfl rfl (kO rfl (a_ext rfl rfl (kO rfl (a_ext rfl rfl (kM rfl rfl (kM rfl rfl (kM rfl rfl (i_nil (rQ (rS (kM rfl rfl (kO rfl (a_neq rfl rfl (fun h7 => ?_) (fun h7 => ?_)))))))))))))))))))))))))))
   ·refine i_nil (r_cond_t rfl (rS (kM rfl rfl (kM rfl rfl (kM rfl rfl (kM rfl rfl (i_nil (r_ret (then_r ?_)))))))))
    exact end3A rfl rfl rfl (List.nil_sublist _) (.inl ⟨_, .inl rfl, hsx, fun q => absurd q hsx, fun _ => rfl, fun q => absurd q hsx, rfl, rfl⟩)
   ·exfalso; omega
  ·exfalso; omega
 ·have hww9 := hww
  refine kM rfl rfl (kO rfl (a_ext rfl rfl (kO rfl (a_ext rfl rfl (kM rfl rfl (kM rfl rfl (i_nil (rQ (rS (kM rfl rfl (kO rfl (a_neq rfl rfl (fun _ => (i_nil (r_cond_t rfl (rS (kM rfl rfl (kM rfl rfl (kM rfl rfl (kM rfl rfl (i_nil (r_ret (then_r (endD3A rfl rfl rfl .nil (.refl _) (kM rfl rfl (kO rfl (a_ext rfl rfl (kO rfl (a_ext rfl rfl ?_))))))))))))))))) (fun h => absurd h (by decide))))))))))))))
  refine kO rfl (a_ext rfl rfl (kM rfl rfl (kM rfl rfl (kM rfl rfl (i_nil (rQ (rS (kM rfl rfl (kO rfl (a_neq rfl rfl (fun _ => (i_nil (r_cond_t rfl (rS (kM rfl rfl (kM rfl rfl (kM rfl rfl (kM rfl rfl (i_nil (r_ret (then_r ?_))))))))))) (fun h => absurd h (by decide))))))))))))
  exact end3A rfl rfl rfl (List.nil_sublist _) (.inl ⟨27, .inr (.inl rfl), by decide, fun _ q => absurd q hww, fun q => absurd hsys q, fun _ _ => rfl, rfl, rfl⟩)
 ·have hun9 := hun
  refine kM rfl rfl (kO rfl (a_ext rfl rfl (kO rfl (a_ext rfl rfl (kM rfl rfl (kM rfl rfl (i_nil (rQ (rS (kM rfl rfl (kO rfl (a_neq rfl rfl (fun _ => (i_nil (r_cond_t rfl (rS (kM rfl rfl (kM rfl rfl (kM rfl rfl (kM rfl rfl (i_nil (r_ret (then_r (endD3A rfl rfl rfl .nil (.refl _) (kM rfl rfl (kO rfl (a_ext rfl rfl (kO rfl (a_ext rfl rfl ?_))))))))))))))))) (fun h => absurd h (by decide))))))))))))))
  refine kO rfl (a_ext rfl rfl (kM rfl rfl (kM rfl rfl (kM rfl rfl (i_nil (rQ (rS (kM rfl rfl (kO rfl (a_neq rfl rfl (fun _ => (i_nil (r_cond_t rfl (rS (kM rfl rfl (kM rfl rfl (kM rfl rfl (kM rfl rfl (i_nil (r_ret (then_r ?_))))))))))) (fun h => absurd h (by decide))))))))))))
  exact end3A rfl rfl rfl (List.nil_sublist _) (.inl ⟨23, .inr (.inr rfl), by decide, fun _ _ => ⟨rfl, hun⟩, fun q => absurd hsys q, fun _ q => absurd hww q, rfl, rfl⟩)
 ·have hop9 := hop
  refine kM rfl rfl (kO rfl (a_ext rfl rfl (kO rfl (a_ext rfl rfl (kM rfl rfl (kM rfl rfl (i_nil (rQ (rS (kM rfl rfl (kO rfl (a_neq rfl rfl (fun _ => (i_nil (r_cond_t rfl (rS (kM rfl rfl (kM rfl rfl (kM rfl rfl (kM rfl rfl (i_nil (r_ret (then_r (endD3A rfl rfl rfl .nil (.refl _) (kM rfl rfl (kO rfl (a_ext rfl rfl (kO rfl (a_ext rfl rfl ?_))))))))))))))))) (fun h => absurd h (by decide))))))))))))))
  refine kO rfl (a_ext rfl rfl (kM rfl rfl (kM rfl rfl (kM rfl rfl (i_nil (rQ (rS (kM rfl rfl (kO rfl (a_neq rfl rfl (fun _ => (i_nil (r_cond_t rfl (rS (kM rfl rfl (kM rfl rfl (kM rfl rfl (kM rfl rfl (i_nil (r_ret (then_r ?_))))))))))) (fun h => absurd h (by decide))))))))))))
  exact end3A rfl rfl rfl (List.nil_sublist _) (.inr (.inl ⟨hsys, (by first | exact hww1 | exact hww), (by first | exact hnu1 | exact hnu), (by first | exact .inl hop | exact .inr hop), rfl, rfl⟩))
 ·obtain ⟨hm0, hM, h400, hlm⟩ := sysE_ok hsys
  obtain ⟨M, rfl⟩ : ∃ q : Nat, m = (q : Int) := ⟨m.toNat, by omega⟩
  obtain ⟨t, p, hOp, htb, hts, hpb, bf3, bt4, bn5, O, B, rfl, rfl, hO⟩ := q1
  rw [Int.toNat_natCast, List.append_assoc, List.cons_append, List.cons_append, List.cons_append, List.nil_append]
  have hMM := hM
  change Opt ls (M + 1) (du0 w M) t p at hOp
  change ∀ v, v < M + 1 -> _ at hpb
  have hwl : w.length = M + 1 := by omega
  have hww1 := hww
  have hnu1 := hnu
  refine kM rfl rfl (kO rfl (a_ext rfl rfl (kO rfl (a_ext rfl rfl (kM rfl rfl (kM rfl rfl (i_nil (rQ (rS (kM rfl rfl (kO rfl (a_neq rfl rfl (fun h => absurd h (by decide)) (fun _ => (i_nil (r_cond_f rfl (r_skip (then_n (rS (kO rfl (a_lda rfl (by decide) (.app (.next (.next (.next .here)))) rfl (kM rfl rfl (kO rfl (a_call rfl rfl (fun s1 h1 => turned_s _ aw cw w s1 h1.wf (by omega) (hW.ext hs h1.2.1) (fun i hi => by have := wok_at hww.2 hi; omega) (by omega)) (fun v1 A1 q1 => ?_))))))))))))))))))))))))
  obtain ⟨bg15, rfl, rfl⟩ := q1
  rw [List.singleton_append]
  refine kZ rfl (a_againa rfl rfl (by decide) (.next (.app (.next (.next (.next .here))))) rfl (by simp [eqL, eqV, eqA, kindEq, intEq_eq, eqV_sl hL.spot, eqV_sl hW.spot]) (kO rfl (a_call rfl rfl (fun s1 h1 => solve_n _ (M : Int) al cl ls _ _ _ (NG w) s1 h1.wf (by omega) (hL.ext hs h1.2.1) hcl (IntsE.own (h1.own .here) (ng_fit hww.2) (by rw [ng_len]; omega)) ng_len.symm (.inl ⟨by show _ < 18446744073709551616; omega, by rw [ng_len]; omega⟩)) (fun v1 A1 q1 => ?_))))
  rcases q1 with ⟨hsx, rfl, rfl⟩ | ⟨hsys, hww, rfl, rfl⟩ | ⟨hsys, hww, hun, rfl, rfl⟩ | ⟨hsys, hww, hnu, hop, rfl, rfl⟩ | ⟨hsys, hww, hnu, q1⟩
  ·exact absurd hsys hsx
  ·exact absurd ⟨by rw [ng_len]; exact hww1.1, ng_wok hww1.2⟩ hww
  ·exact absurd hun hnu1
  ·have hop92 := hop
   refine kM rfl rfl (kO rfl (a_ext rfl rfl (kO rfl (a_ext rfl rfl (kM rfl rfl (kM rfl rfl (i_nil (rQ (rS (kM rfl rfl (kO rfl (a_neq rfl rfl (fun _ => (i_nil (r_cond_t rfl (rS (kM rfl rfl (kM rfl rfl (kM rfl rfl (kM rfl rfl (i_nil (r_ret (then_r (endD3A rfl rfl rfl .nil (.refl _) (kM rfl rfl (kO rfl (a_ext rfl rfl (kO rfl (a_ext rfl rfl ?_))))))))))))))))) (fun h => absurd h (by decide))))))))))))))
   refine kO rfl (a_ext rfl rfl (kM rfl rfl (kM rfl rfl (kM rfl rfl (i_nil (rQ (rS (kM rfl rfl (kO rfl (a_neq rfl rfl (fun _ => (i_nil (r_cond_t rfl (rS (kM rfl rfl (kM rfl rfl (kM rfl rfl (kM rfl rfl (i_nil (r_ret (then_r ?_))))))))))) (fun h => absurd h (by decide))))))))))))
   exact end3A rfl rfl rfl (List.nil_sublist _) (.inr (.inl ⟨hsys, (by first | exact hww1 | exact hww), (by first | exact hnu1 | exact hnu), (by first | exact .inl hop | exact .inr hop), rfl, rfl⟩))
  ·obtain ⟨t2, p2, hOp2, htb2, hts2, hpb2, bf16, bt17, bn18, O2, B2, rfl, rfl, hO2⟩ := q1
   rw [Int.toNat_natCast, List.append_assoc, List.cons_append, List.cons_append, List.cons_append, List.nil_append]
   have hMM2 := hM
   refine kM rfl rfl (kO rfl (a_ext rfl rfl (kO rfl (a_ext rfl rfl (kM rfl rfl (kM rfl rfl (i_nil (rQ (rS (kM rfl rfl (kO rfl (a_neq rfl rfl (fun h => absurd h (by decide)) (fun _ => (i_nil (r_cond_f rfl (r_skip (then_n (rS (kM rfl rfl (kM rfl rfl (kM rfl rfl (kM rfl rfl (kM rfl rfl (i_nil (r_ret (endD3A rfl rfl rfl .nil (.refl _) (kM rfl rfl ?_)))))))))))))))))))))))))))
   refine kO rfl (a_ext rfl rfl (kO rfl (a_ext rfl rfl (kO rfl (a_ext rfl rfl (kM rfl rfl (kM rfl rfl (kM rfl rfl (i_nil (rQ (rS (kM rfl rfl (kO rfl (a_neq rfl rfl (fun h => absurd h (by decide)) (fun _ => (i_nil (r_cond_f rfl (r_skip (then_n (rS (kM rfl rfl (kG rfl rfl (a_inl rfl rfl bw26_at rfl ?_)))))))))))))))))))))))
   unfold bw26
   refine rS (kM rfl rfl (i_nil (rS (kM rfl rfl (i_nil (rQ (rS (kM rfl rfl (kO rfl (a_nilc rfl (kO rfl (a_fa rfl (kO rfl (a_fa rfl (kO rfl (a_ld rfl (.app .here) rfl (kO rfl (a_lenx rfl hL.spot (kM rfl rfl (i_nil (r_block ?_)))))))))))))))))))))
   refine r_loop (fun j e A => ∃ (k : Nat), e = [(0, .pointer (some ⟨bf16, 0, none⟩)), (3, .int .i64 (tot (fun i => t2 i * lw ls i) k)), (10, .slice al ls.length cl), (11, .int .i64 (ls.length : Int)), (12, .int .i64 (k : Int))] /\ A = (nobj B2 (nl ls ls.length) O2 ++ (.row bf16 93 false ([.int .i64 (M : Int), .slice al ls.length cl, .slice (some ⟨bt17, 0, none⟩) ls.length ls.length, .slice (some ⟨bn18, 0, none⟩) (M + 1) (M + 1)]) :: (.row bn18 25 false (nsl B2 (nl ls ls.length) (M + 1)) :: (.row bt17 3 false (ints (xs t2 ls.length)) :: (nobj B (nl ls ls.length) O ++ (.row bf3 93 false ([.int .i64 (M : Int), .slice al ls.length cl, .slice (some ⟨bt4, 0, none⟩) ls.length ls.length, .slice (some ⟨bn5, 0, none⟩) (M + 1) (M + 1)]) :: (.row bn5 25 false (nsl B (nl ls ls.length) (M + 1)) :: (.row bt4 3 false (ints (xs t ls.length)) :: [])))))))) /\ j = ls.length - k /\ k <= ls.length) 200 0 281474976710656 ?_ (j := _) (env2 := _) (A2 := _) ?_ ?_ ?_ ?_ ⟨0, rfl, rfl, rfl, Nat.zero_le _⟩
   rotate_left
   ·omega
   ·omega
   ·exact (lc 0 rfl (lc 3 rfl (lc 10 rfl (lc 11 rfl (lc 12 rfl Less.nil)))))
   ·exact (.r (.q (.q (.q (.cons _ (.r (.q (.q (.q (.cons _ (.cons _ .slnil)))))))))))
   rintro n hn j _ _ ⟨k, rfl, rfl, rfl, hk⟩
   refine rS (kO rfl (a_lss rfl rfl (fun h23 => ?_) (fun h23 => ?_)))
   ·obtain ⟨q4, o4, y0, y1, y2, y3, ahL, hx, hat, i0, i1, i2, i3⟩ := hL.row4 (k := k) (by omega)
    have hat2 := hat
    obtain ⟨d0, d1, d2, d3, _⟩ := hat2
    have := i0.lo; have := i0.hi
    have := i1.lo; have := i1.hi
    have := i2.lo; have := i2.hi
    have := i3.lo; have := i3.hi
    have hlw9 := lw_row hx
    have hsr9 := sum_rng hlm hOp2 hts2 (show k < ls.length by omega)
    rw [hlw9] at hsr9
    refine i_nil (rQ (r_cond_t rfl (r_skip (then_n (rQ (r_block (rS (kM rfl rfl (kO rfl (a_iaA (j := k) ahL rfl rfl (by first | rfl | omega) (by first | decide | omega) (kO rfl (a_ldar rfl (by decide) (by assumption) rfl (kO rfl (a_new rfl rfl (fun b24 => (kM rfl rfl (kZ rfl (a_sta rfl rfl .here rfl rfl rfl rfl (i_nil (rI (kM rfl rfl (kM rfl rfl (kO rfl (a_nilc rfl (kO rfl (a_fa rfl (kO rfl (a_ld rfl (.next (.app .here)) rfl (kM rfl rfl (kO rfl (a_ia (j := k) rfl rfl (by omega) (by omega) (kO rfl (a_ldX (x := (t2) (k)) rfl (.next (.app (.next (.next .here)))) (by rw [xs_len]; omega) (xs_get (by omega)) ?_)))))))))))))))))))))))))))))))))
    refine kO rfl (a_fa rfl (kO rfl (a_ld rfl .here rfl (kO rfl (a_mul rfl rfl (by omega) (kO rfl (a_add rfl rfl (by omega) (kM rfl rfl (i_nil (block_n (then_n (rI (kO rfl (a_add rfl rfl (by omega) (kM rfl rfl (i_nil (then_n ?_)))))))))))))))))
    exact ⟨rfl, _, _, _, (show ls.length - (k + 1) < ls.length - k by omega), (lc 0 rfl (lc 3 (by show some (Value.int .i64 (_ + t2 k * y2)) = some (Value.int .i64 (tot (fun i => t2 i * lw ls i) k + t2 k * lw ls k)); rw [hlw9]) (lc 10 rfl (lc 11 rfl (lc 12 rfl Less.nil))))), (.cons _ (.r (.q (.q (.q (.r (.q (.q (.q .slnil))))))))), ⟨k + 1, rfl, rfl, rfl, by omega⟩⟩
   ·have hkl : k = ls.length := by omega
    subst hkl
    refine i_nil (rQ (r_cond_f rfl (r_exit (then_e (then_e (block_hit (then_n (rS (kM rfl rfl (kM rfl rfl (i_nil (r_ret (endD1 rfl .nil ?_)))))))))))))
    have hsa2 := sum_all hlm hOp2 hts2
    refine kO rfl (a_neg rfl (by omega) (kM rfl rfl (kG rfl rfl (a_inl rfl rfl bw26_at rfl ?_))))
    unfold bw26
    refine rS (kM rfl rfl (i_nil (rS (kM rfl rfl (i_nil (rQ (rS (kM rfl rfl (kO rfl (a_nilc rfl (kO rfl (a_fa rfl (kO rfl (a_fa rfl (kO rfl (a_ld rfl (.app (.next (.next (.next (.app .here))))) rfl (kO rfl (a_lenx rfl hL.spot (kM rfl rfl (i_nil (r_block ?_)))))))))))))))))))))
    refine r_loop (fun j e A => ∃ (k : Nat), e = [(0, .pointer (some ⟨bf3, 0, none⟩)), (3, .int .i64 (tot (fun i => t i * lw ls i) k)), (10, .slice al ls.length cl), (11, .int .i64 (ls.length : Int)), (12, .int .i64 (k : Int))] /\ A = (nobj B2 (nl ls ls.length) O2 ++ (.row bf16 93 false ([.int .i64 (M : Int), .slice al ls.length cl, .slice (some ⟨bt17, 0, none⟩) ls.length ls.length, .slice (some ⟨bn18, 0, none⟩) (M + 1) (M + 1)]) :: (.row bn18 25 false (nsl B2 (nl ls ls.length) (M + 1)) :: (.row bt17 3 false (ints (xs t2 ls.length)) :: (nobj B (nl ls ls.length) O ++ (.row bf3 93 false ([.int .i64 (M : Int), .slice al ls.length cl, .slice (some ⟨bt4, 0, none⟩) ls.length ls.length, .slice (some ⟨bn5, 0, none⟩) (M + 1) (M + 1)]) :: (.row bn5 25 false (nsl B (nl ls ls.length) (M + 1)) :: (.row bt4 3 false (ints (xs t ls.length)) :: [])))))))) /\ j = ls.length - k /\ k <= ls.length) 200 0 281474976710656 ?_ (j := _) (env2 := _) (A2 := _) ?_ ?_ ?_ ?_ ⟨0, rfl, rfl, rfl, Nat.zero_le _⟩
    rotate_left
    ·omega
    ·omega
    ·exact (lc 0 rfl (lc 3 rfl (lc 10 rfl (lc 11 rfl (lc 12 rfl Less.nil)))))
    ·exact (.r (.q (.q (.q (.r (.q (.q (.q .slnil))))))))
    rintro n hn j _ _ ⟨k, rfl, rfl, rfl, hk⟩
    refine rS (kO rfl (a_lss rfl rfl (fun h25 => ?_) (fun h25 => ?_)))
    ·obtain ⟨q4, o4, y0, y1, y2, y3, ahL, hx, hat, i0, i1, i2, i3⟩ := hL.row4 (k := k) (by omega)
     have hat2 := hat
     obtain ⟨d0, d1, d2, d3, _⟩ := hat2
     have := i0.lo; have := i0.hi
     have := i1.lo; have := i1.hi
     have := i2.lo; have := i2.hi
     have := i3.lo; have := i3.hi
     have hlw9 := lw_row hx
     have hsr9 := sum_rng hlm hOp hts (show k < ls.length by omega)
     rw [hlw9] at hsr9
     refine i_nil (rQ (r_cond_t rfl (r_skip (then_n (rQ (r_block (rS (kM rfl rfl (kO rfl (a_iaA (j := k) ahL rfl rfl (by first | rfl | omega) (by first | decide | omega) (kO rfl (a_ldar rfl (by decide) (by assumption) rfl (kO rfl (a_new rfl rfl (fun b26 => (kM rfl rfl (kZ rfl (a_sta rfl rfl .here rfl rfl rfl rfl (i_nil (rI (kM rfl rfl (kM rfl rfl (kO rfl (a_nilc rfl (kO rfl (a_fa rfl (kO rfl (a_ld rfl (.next (.app (.next (.next (.next (.app .here)))))) rfl (kM rfl rfl (kO rfl (a_ia (j := k) rfl rfl (by omega) (by omega) (kO rfl (a_ldX (x := (t) (k)) rfl (.next (.app (.next (.next (.next (.app (.next (.next .here)))))))) (by rw [xs_len]; omega) (xs_get (by omega)) ?_)))))))))))))))))))))))))))))))))
     refine kO rfl (a_fa rfl (kO rfl (a_ld rfl .here rfl (kO rfl (a_mul rfl rfl (by omega) (kO rfl (a_add rfl rfl (by omega) (kM rfl rfl (i_nil (block_n (then_n (rI (kO rfl (a_add rfl rfl (by omega) (kM rfl rfl (i_nil (then_n ?_)))))))))))))))))
     exact ⟨rfl, _, _, _, (show ls.length - (k + 1) < ls.length - k by omega), (lc 0 rfl (lc 3 (by show some (Value.int .i64 (_ + t k * y2)) = some (Value.int .i64 (tot (fun i => t i * lw ls i) k + t k * lw ls k)); rw [hlw9]) (lc 10 rfl (lc 11 rfl (lc 12 rfl Less.nil))))), (.cons _ (.r (.q (.q (.q (.r (.q (.q (.q .slnil))))))))), ⟨k + 1, rfl, rfl, rfl, by omega⟩⟩
    ·have hkl : k = ls.length := by omega
     subst hkl
     refine i_nil (rQ (r_cond_f rfl (r_exit (then_e (then_e (block_hit (then_n (rS (kM rfl rfl (kM rfl rfl (i_nil (r_ret (endD1 rfl .nil (kM rfl rfl (kM rfl rfl (kM rfl rfl (i_nil (r_ret ?_))))))))))))))))))
     exact end3A rfl rfl rfl (List.nil_sublist _) (.inr (.inr ⟨hsys, hww1, hnu1, t, p, t2, p2, hOp, hOp2, hts, hts2, rfl, rfl⟩))
end
end Ev
end Go.Proofs.Ytoeklhdklcpllaa
namespace Go.Proofs.Ytoeklhdklcpllaa
open Go Go.RowKit
namespace Ev
section
variable {X : FuncId -> List Value -> St -> (Value -> St -> Bool) -> Bool}
end
end Ev
end Go.Proofs.Ytoeklhdklcpllaa
namespace Go.Proofs.Ytoeklhdklcpllaa
open Go Go.RowKit
namespace Ev
section
variable {X : FuncId -> List Value -> St -> (Value -> St -> Bool) -> Bool}
end
end Ev
end Go.Proofs.Ytoeklhdklcpllaa
namespace Go.Proofs.Ytoeklhdklcpllaa
open Go Go.RowKit
namespace Ev
section
variable {X : FuncId -> List Value -> St -> (Value -> St -> Bool) -> Bool}
end
end Ev
end Go.Proofs.Ytoeklhdklcpllaa
namespace Go.Proofs.Ytoeklhdklcpllaa
open Go Go.RowKit
namespace Ev
def dt (w x : List Int) : Nat -> Int
 | 0 => 0
 | k + 1 => dt w x k + w.getD k 0 * x.getD k 0
theorem prod_bd {a b c : Int} (h : -c <= b /\ b <= c) (hc : 0 <= c) : -(c * max a (-a)) <= a * b /\ a * b <= c * max a (-a) := by
 rcases Int.lt_or_le a 0 with q | q
 ·rw [Int.max_eq_right (by omega)]
  have h1 := Int.mul_le_mul_of_nonneg_left h.1 (show 0 <= -a by omega)
  have h2 := Int.mul_le_mul_of_nonneg_left h.2 (show 0 <= -a by omega)
  rw [Int.neg_mul, Int.neg_mul, Int.mul_neg] at h1
  rw [Int.neg_mul, Int.neg_mul] at h2
  rw [Int.mul_neg, Int.mul_comm c a]
  omega
 ·rw [Int.max_eq_left (by omega)]
  have h1 := Int.mul_le_mul_of_nonneg_left h.1 q
  have h2 := Int.mul_le_mul_of_nonneg_left h.2 q
  rw [Int.mul_neg] at h1
  rw [Int.mul_comm c a]
  omega
theorem dt_bd {w x : List Int} {n : Nat} (hx : inB (-1280000) 1280000 x = true) (hn : n <= x.length) : ∀ {k : Nat}, k <= n -> -(1280000 * szs w k) <= dt w x k /\ dt w x k <= 1280000 * szs w k
 | 0, _ => ⟨by show -(1280000 * (0 : Int)) <= 0; decide, by show (0 : Int) <= 1280000 * 0; decide⟩
 | k + 1, hk => by
  have ih := dt_bd hx hn (w := w) (k := k) (by omega)
  have h1 := in_all hx (k := k) (by omega)
  have h2 := prod_bd (a := w.getD k 0) h1 (by decide)
  show -(1280000 * (szs w k + max (w.getD k 0) (-(w.getD k 0)))) <= dt w x k + w.getD k 0 * x.getD k 0 /\ dt w x k + w.getD k 0 * x.getD k 0 <= 1280000 * (szs w k + max (w.getD k 0) (-(w.getD k 0)))
  omega
theorem dt_bd2 {w x : List Int} {n : Nat} (hx : ∀ k, k < n -> -1280000 <= x.getD k 0 /\ x.getD k 0 <= 1280000) : ∀ {k : Nat}, k <= n -> -(1280000 * szs w k) <= dt w x k /\ dt w x k <= 1280000 * szs w k
 | 0, _ => ⟨by show -(1280000 * (0 : Int)) <= 0; decide, by show (0 : Int) <= 1280000 * 0; decide⟩
 | k + 1, hk => by
  have ih := dt_bd2 hx (w := w) (k := k) (by omega)
  have h1 := hx k (by omega)
  have h2 := prod_bd (a := w.getD k 0) h1 (by decide)
  show -(1280000 * (szs w k + max (w.getD k 0) (-(w.getD k 0)))) <= dt w x k + w.getD k 0 * x.getD k 0 /\ dt w x k + w.getD k 0 * x.getD k 0 <= 1280000 * (szs w k + max (w.getD k 0) (-(w.getD k 0)))
  omega
section
variable {X : FuncId -> List Value -> St -> (Value -> St -> Bool) -> Bool}
end
end Ev
end Go.Proofs.Ytoeklhdklcpllaa
namespace Go.Proofs.Ytoeklhdklcpllaa
open Go Go.RowKit
namespace Ev
section
variable {X : FuncId -> List Value -> St -> (Value -> St -> Bool) -> Bool}
end
end Ev
end Go.Proofs.Ytoeklhdklcpllaa
namespace Go.Proofs.Ytoeklhdklcpllaa
open Go Go.RowKit
namespace Ev
theorem dt_all {w x : List Int} {M : Nat} (h0 : x.getD 0 0 = 0) : ∀ {k : Nat}, dt w x k = tot (fun v => x.getD v 0 * du0 w M v) k
 | 0 => rfl
 | k + 1 => by
  show dt w x k + w.getD k 0 * x.getD k 0 = tot _ k + x.getD k 0 * du0 w M k
  rw [dt_all h0 (k := k)]
  congr 1
  by_cases e : k = 0
  ·subst e; rw [h0, Int.mul_zero, Int.zero_mul]
  ·rw [show du0 w M k = w.getD k 0 from updX_ne (x := fun v => w.getD v 0) e, Int.mul_comm]
theorem opt_same {ls : List (List Int)} {N : Nat} {w t p t2 p2 : Nat -> Int} (h : Opt ls N w t p) (h2 : Opt ls N w t2 p2) (hN : ∀ i, i < ls.length -> la ls i < N /\ lb ls i < N) : tot (fun i => t i * lw ls i) ls.length = tot (fun i => t2 i * lw ls i) ls.length := by
 have a1 := h.eq hN
 have a2 := h2.eq hN
 have a3 := h.le hN h2.st
 have a4 := h2.le hN h.st
 omega
theorem hN_of {ls : List (List Int)} {M : Nat} (hl : lmB (M : Int) ls = true) : ∀ i, i < ls.length -> la ls i < M + 1 /\ lb ls i < M + 1 := fun i hi => by
 obtain ⟨h1, h2, _⟩ := lg_of hl i hi
 exact ⟨h1, h2⟩
theorem dt_best {ls : List (List Int)} {w x : List Int} {M : Nat} {t p t2 : Nat -> Int} (hl : lmB (M : Int) ls = true) (ho : Opt ls (M + 1) (du0 w M) t p) (h2 : Opt ls (M + 1) (du0 w M) t2 (fun v => x.getD v 0)) (hx : x.getD 0 0 = 0) : dt w x (M + 1) = tot (fun i => t i * lw ls i) ls.length := by
 rw [dt_all hx (M := M), opt_same ho h2 (hN_of hl)]
 exact h2.eq (hN_of hl)
section
variable {X : FuncId -> List Value -> St -> (Value -> St -> Bool) -> Bool}
end
end Ev
end Go.Proofs.Ytoeklhdklcpllaa
namespace Go.Proofs.Ytoeklhdklcpllaa
open Go Go.RowKit
namespace Ev
def modN (x m : Int) : Int := (x.tmod m + m).tmod m
theorem modN_bd {x m : Int} (h : 0 < m) : 0 <= modN x m /\ modN x m < m := by
 have h1 := tmodP_bd (x := x) h
 unfold modN
 exact ⟨Int.tmod_nonneg m (by omega), Int.tmod_lt_of_pos _ h⟩
theorem modN_sm {x m : Int} (h : 0 <= x) (h2 : x < m) : modN x m = x := by
 unfold modN
 rw [Int.tmod_eq_emod_of_nonneg h, Int.emod_eq_of_lt h h2, Int.tmod_eq_emod_of_nonneg (by omega), Int.add_emod_right, Int.emod_eq_of_lt h h2]
theorem modN_up {x m : Int} (h : m <= x) (h0 : 0 < m) (h2 : x < m + m) : modN x m = x - m := by
 have e1 : x.tmod m = x - m := by
  have e : x = (x - m) + m := by omega
  have e2 : x % m = x - m := by
   rw [e, Int.add_emod_right, Int.emod_eq_of_lt (by omega) (by omega)]; omega
  rw [Int.tmod_eq_emod_of_nonneg (by omega), e2]
 unfold modN
 rw [e1, Int.tmod_eq_emod_of_nonneg (by omega), Int.add_emod_right, Int.emod_eq_of_lt (by omega) (by omega)]
def mdM (r0 : Int) : Nat := (1 + modN r0 6).toNat
theorem mdM_bd {r0 : Int} : 1 <= mdM r0 /\ mdM r0 <= 6 /\ 1 + modN r0 6 = (mdM r0 : Int) := by
 have := modN_bd (x := r0) (m := 6) (by decide)
 unfold mdM; omega
def mdRow (M : Nat) (y0 y1 y2 y3 : Int) : List Int := [modN y0 ((M : Int) + 1), modN (modN y0 ((M : Int) + 1) + 1 + modN y1 (M : Int)) ((M : Int) + 1), modN y2 141 - 40, 1 + modN y3 6]
def mdR (M : Nat) (r : List Int) : List Int := mdRow M (r.getD 0 0) (r.getD 1 0) (r.getD 2 0) (r.getD 3 0)
def mdL (M : Nat) (rs : List (List Int)) : List (List Int) := (rs.take 20).map (mdR M)
def mdK (M : Nat) (rs : List (List Int)) (k : Nat) : List (List Int) := (rs.take k).map (mdR M)
theorem mdK_len {M : Nat} {rs : List (List Int)} {k : Nat} (h : k <= rs.length) : (mdK M rs k).length = k := by unfold mdK; rw [List.length_map, List.length_take]; omega
theorem mdL_len {M : Nat} {rs : List (List Int)} : (mdL M rs).length <= 20 := by unfold mdL; rw [List.length_map, List.length_take]; omega
theorem mdK_step {M : Nat} {rs : List (List Int)} {k : Nat} {y0 y1 y2 y3 : Int} (h : rs[k]? = some [y0, y1, y2, y3]) : mdK M rs (k + 1) = mdK M rs k ++ [mdRow M y0 y1 y2 y3] := by
 unfold mdK
 rw [List.take_add_one, h, List.map_append]; rfl
theorem limC_row {y0 y1 y2 y3 : Int} : limC [[y0, y1, y2, y3]] = [.int .i64 y0, .int .i64 y1, .int .i64 y2, .int .i64 y3] := by kernel_rfl
theorem mdK_app {M : Nat} {rs : List (List Int)} {k : Nat} {y0 y1 y2 y3 : Int} (h : rs[k]? = some [y0, y1, y2, y3]) : limC (mdK M rs k) ++ [.int .i64 (modN y0 ((M : Int) + 1)), .int .i64 (modN (modN y0 ((M : Int) + 1) + 1 + modN y1 (M : Int)) ((M : Int) + 1)), .int .i64 (modN y2 141 - 40), .int .i64 (1 + modN y3 6)] = limC (mdK M rs (k + 1)) := by
 rw [mdK_step h, limC_app]
 congr 1
 exact limC_row.symm
theorem mdK_20 {M : Nat} {rs : List (List Int)} : mdK M rs 20 = mdL M rs := rfl
theorem mdK_all {M : Nat} {rs : List (List Int)} (h : rs.length <= 20) : mdK M rs rs.length = mdL M rs := by
 unfold mdK mdL
 rw [List.take_of_length_le (Nat.le_refl _), List.take_of_length_le h]
theorem md_ok {M : Nat} {r : List Int} (h1 : 1 <= M) (h2 : M <= 6) : ∃ y0 y1 y2 y3 : Int, mdR M r = [y0, y1, y2, y3] /\ ((0 <= (M : Int) /\ (M : Int) <= 64) /\ (0 <= y0 /\ y0 <= M) /\ (0 <= y1 /\ y1 <= M) /\ ¬ y0 = y1 /\ (-20000 <= y2 /\ y2 <= 20000) /\ (1 <= y3 /\ y3 <= 99999)) /\ (-100 <= y2 /\ y2 <= 100) /\ (1 <= y3 /\ y3 <= 6) := by
 have a0 := modN_bd (x := r.getD 0 0) (m := (M : Int) + 1) (by omega)
 have a1 := modN_bd (x := r.getD 1 0) (m := (M : Int)) (by omega)
 have a2 := modN_bd (x := r.getD 2 0) (m := 141) (by decide)
 have a3 := modN_bd (x := r.getD 3 0) (m := 6) (by decide)
 have a4 := modN_bd (x := modN (r.getD 0 0) ((M : Int) + 1) + 1 + modN (r.getD 1 0) (M : Int)) (m := (M : Int) + 1) (by omega)
 have ne : ¬ modN (r.getD 0 0) ((M : Int) + 1) = modN (modN (r.getD 0 0) ((M : Int) + 1) + 1 + modN (r.getD 1 0) (M : Int)) ((M : Int) + 1) := by
  by_cases c : modN (r.getD 0 0) ((M : Int) + 1) + 1 + modN (r.getD 1 0) (M : Int) < (M : Int) + 1
  ·rw [modN_sm (x := modN (r.getD 0 0) ((M : Int) + 1) + 1 + modN (r.getD 1 0) (M : Int)) (by omega) c]; omega
  ·rw [modN_up (x := modN (r.getD 0 0) ((M : Int) + 1) + 1 + modN (r.getD 1 0) (M : Int)) (by omega) (by omega) (by omega)]; omega
 exact ⟨_, _, _, _, rfl, ⟨by omega, by omega, by omega, ne, by omega, by omega⟩, by omega, by omega⟩
theorem mdL_row {M : Nat} {rs : List (List Int)} {k : Nat} {y : List Int} (h : (mdL M rs)[k]? = some y) : ∃ r, y = mdR M r := by
 unfold mdL at h
 rw [List.getElem?_map] at h
 cases q : (rs.take 20)[k]? with
 | none => rw [q] at h; cases h
 | some r => rw [q] at h; cases h; exact ⟨r, rfl⟩
theorem mdL_lm {M : Nat} {rs : List (List Int)} (h1 : 1 <= M) (h2 : M <= 6) : lmB (M : Int) (mdL M rs) = true := by
 have key : ∀ k, k <= (mdL M rs).length -> lmB (M : Int) (mdL M rs) = lmB (M : Int) ((mdL M rs).drop k) := by
  intro k
  induction k with
  | zero => intro _; rfl
  | succ k ih =>
   intro hk
   have hx := List.getElem?_eq_getElem (l := mdL M rs) (i := k) (by omega)
   obtain ⟨r, hr⟩ := mdL_row hx
   obtain ⟨y0, y1, y2, y3, e, hc, _⟩ := md_ok (r := r) h1 h2
   rw [hr, e] at hx
   exact lmB_good hx (ih (by omega)) hc
 exact lmB_end (key _ (Nat.le_refl _)) (Nat.le_refl _)
theorem mdL_w {M : Nat} {rs : List (List Int)} (h1 : 1 <= M) (h2 : M <= 6) : ∀ i, i < (mdL M rs).length -> -100 <= lw (mdL M rs) i /\ lw (mdL M rs) i <= 100 := fun i hi => by
 have hx := List.getElem?_eq_getElem (l := mdL M rs) (i := i) hi
 obtain ⟨r, hr⟩ := mdL_row hx
 obtain ⟨y0, y1, y2, y3, e, hc, hd, _⟩ := md_ok (r := r) h1 h2
 rw [hr, e] at hx
 rw [lw_row hx]; exact hd
theorem mdL_fit {M : Nat} {rs : List (List Int)} (h1 : 1 <= M) (h2 : M <= 6) : ∀ r ∈ mdL M rs, r.length = 4 /\ ∀ x ∈ r, -9223372036854775808 <= x /\ x < 9223372036854775808 := fun r hr => by
 obtain ⟨k, hk, e⟩ := List.mem_iff_getElem.1 hr
 obtain ⟨q, hq⟩ := mdL_row (List.getElem?_eq_getElem hk)
 obtain ⟨y0, y1, y2, y3, e2, hc, _⟩ := md_ok (r := q) h1 h2
 rw [<- e, hq, e2]
 refine ⟨rfl, fun x hx => ?_⟩
 simp only [List.mem_cons, List.not_mem_nil, or_false] at hx
 omega
theorem mdL_sys {M : Nat} {rs : List (List Int)} (h1 : 1 <= M) (h2 : M <= 6) : sysE (M : Int) (mdL M rs) = 0 := by
 have := mdL_len (M := M) (rs := rs)
 unfold sysE
 rw [if_pos (by omega), if_neg (by omega), if_pos (mdL_lm h1 h2)]
def TlR (TT : Nat) (a : Option Addr) (n c : Nat) (ts : List (List Int)) (TL : List Ob) : Prop := (a = none /\ n = 0 /\ c = 0 /\ ts = [] /\ TL = []) ∨ ∃ b op, a = some ⟨b, 0, none⟩ /\ 0 < n /\ ts.length = n /\ Tight op n c /\ TL = [.row b TT op (limC ts)]
theorem TlR.ok {TT : Nat} {a : Option Addr} {n c : Nat} {ts : List (List Int)} {TL : List Ob} (h : TlR TT a n c ts TL) : TlOk TT a ts TL /\ n = ts.length /\ (a = none -> c = 0) := by
 rcases h with ⟨rfl, rfl, rfl, rfl, rfl⟩ | ⟨b, op, rfl, h0, h1, h2, rfl⟩
 ·exact ⟨.inl ⟨rfl, rfl, fun b hb => by cases hb⟩, rfl, fun _ => rfl⟩
 ·exact ⟨.inr ⟨b, op, rfl, rfl⟩, h1.symm, fun q => by cases q⟩
theorem TlR.spot {TT : Nat} {a : Option Addr} {n c : Nat} {ts : List (List Int)} {TL : List Ob} (h : TlR TT a n c ts TL) : ∀ b, a = some b -> b.spot = none := fun b hb => by
 rcases h with ⟨rfl, _⟩ | ⟨b', op, rfl, _⟩
 ·cases hb
 ·cases hb; rfl
theorem a_appT {P : Program} {C : Nat -> (CF -> Bool) -> Bool} {X : FuncId -> List Value -> St -> (Value -> St -> Bool) -> Bool} {s0 : St} {n nt : Nat} {env : List (Nat × Value)} {A A1 A2 UL : List Ob} {R : Value -> List Ob -> Prop} {TU k c : Nat} {a : Option Addr} {ts : List (List Int)} {more z : List Value} {x y : Ev.X} {yv : Value} (hU : TlR TU a k c ts UL) (hA : A = A1 ++ (UL ++ A2)) (hx : xv env x = some (.slice a k c)) (hy : xv env y = some yv) (hsrc : Src s0 A 4 1 more yv) (hm : (1 : Nat) ≠ 0) (hb1 : k + 1 <= 1048576) (hb2 : 32 * (k + 1) <= 1073741824)
 (h : ∀ b, R (.slice (some ⟨b, 0, none⟩) (k + 1) OPEN) (.row b TU true (limC ts ++ more) :: (A1 ++ A2))) : OpA P C X s0 n nt (.app TU 4 32 z false x y) env A R := by
 rcases hU with ⟨rfl, rfl, rfl, rfl, rfl⟩ | ⟨b, op, rfl, h0, hl, ht, rfl⟩
 ·subst hA
  exact a_appn hx hy hsrc hm (by omega) (by omega) (fun b => by have := h b; exact this)
 ·subst hA
  have hd : Del (A1 ++ ([.row b TU op (limC ts)] ++ A2)) b TU op (limC ts) (A1 ++ A2) := by
   clear hsrc h
   induction A1 with
   | nil => exact .here
   | cons q A1 ih => exact .next ih
  exact a_app hx hy hsrc hd (by rw [limC_len, hl]) ht hm (by omega) (by omega) h
def IlR (TT : Nat) (a : Option Addr) (n c : Nat) (l : List Int) (TL : List Ob) : Prop := (a = none /\ n = 0 /\ c = 0 /\ l = [] /\ TL = []) ∨ ∃ b op, a = some ⟨b, 0, none⟩ /\ 0 < n /\ l.length = n /\ Tight op n c /\ TL = [.row b TT op (ints l)]
theorem a_appI {P : Program} {C : Nat -> (CF -> Bool) -> Bool} {X : FuncId -> List Value -> St -> (Value -> St -> Bool) -> Bool} {s0 : St} {n nt : Nat} {env : List (Nat × Value)} {A A1 A2 UL : List Ob} {R : Value -> List Ob -> Prop} {TU k c : Nat} {a : Option Addr} {l : List Int} {more z : List Value} {x y : Ev.X} {yv : Value} (hU : IlR TU a k c l UL) (hA : A = A1 ++ (UL ++ A2)) (hx : xv env x = some (.slice a k c)) (hy : xv env y = some yv) (hsrc : Src s0 A 1 1 more yv) (hm : (1 : Nat) ≠ 0) (hb1 : k + 1 <= 1048576) (hb2 : 8 * (k + 1) <= 1073741824)
 (h : ∀ b, R (.slice (some ⟨b, 0, none⟩) (k + 1) OPEN) (.row b TU true (ints l ++ more) :: (A1 ++ A2))) : OpA P C X s0 n nt (.app TU 1 8 z false x y) env A R := by
 rcases hU with ⟨rfl, rfl, rfl, rfl, rfl⟩ | ⟨b, op, rfl, h0, hl, ht, rfl⟩
 ·subst hA
  exact a_appn hx hy hsrc hm (by omega) (by omega) (fun b => by have := h b; exact this)
 ·subst hA
  have hd : Del (A1 ++ ([.row b TU op (ints l)] ++ A2)) b TU op (ints l) (A1 ++ A2) := by
   clear hsrc h
   induction A1 with
   | nil => exact .here
   | cons q A1 ih => exact .next ih
  exact a_app hx hy hsrc hd (by rw [ints_len, hl, Nat.mul_one]) ht hm (by omega) (by omega) h
def wgV (l : List Int) (i : Nat) : Int := if l.length = 0 then 0 else modN (l.getD (i % l.length) 0) 61 - 30
def wgL (l : List Int) (k : Nat) : List Int := (List.range k).map (wgV l)
theorem wgL_len {l : List Int} {k : Nat} : (wgL l k).length = k := by simp [wgL]
theorem wgL_step {l : List Int} {k : Nat} : wgL l (k + 1) = wgL l k ++ [wgV l k] := by unfold wgL; rw [List.range_succ, List.map_append]; rfl
theorem wgL_app {l : List Int} {k : Nat} {z : Int} (h : z = wgV l k) : ints (wgL l k) ++ [.int .i64 z] = ints (wgL l (k + 1)) := by rw [wgL_step, h]; unfold ints; rw [List.map_append]; rfl
theorem wgV_bd {l : List Int} {i : Nat} : -30 <= wgV l i /\ wgV l i <= 30 := by
 unfold wgV
 split
 ·omega
 ·have := modN_bd (x := l.getD (i % l.length) 0) (m := 61) (by decide)
  omega
theorem wgL_get {l : List Int} {k i : Nat} (h : i < k) : (wgL l k).getD i 0 = wgV l i := by
 unfold wgL
 rw [List.getD_eq_getElem?_getD, List.getElem?_map, List.getElem?_range h]; rfl
theorem wgL_ok {l : List Int} {k : Nat} (hk : k <= 1000000) : WOk (wgL l k) (wgL l k).length := by
 have key : ∀ i, i <= k -> szs (wgL l k) i <= 30 * (i : Int) := by
  intro i
  induction i with
  | zero => intro _; exact Int.le_refl _
  | succ i ih =>
   intro hi
   have a1 := ih (by omega)
   have a2 := wgV_bd (l := l) (i := i)
   show szs (wgL l k) i + max ((wgL l k).getD i 0) (-((wgL l k).getD i 0)) <= _
   rw [wgL_get (by omega)]; omega
 intro i hi
 rw [wgL_len] at hi
 have := key (i + 1) (by omega)
 omega
theorem wgL_fit {l : List Int} {k : Nat} : ∀ z ∈ wgL l k, -9223372036854775808 <= z /\ z < 9223372036854775808 := fun z hz => by
 obtain ⟨i, _, rfl⟩ := List.mem_map.1 hz
 have := wgV_bd (l := l) (i := i)
 omega
section
variable {X : FuncId -> List Value -> St -> (Value -> St -> Bool) -> Bool}
theorem mod_s (n : Nat) (x m : Int) (s : St) (hs : Wf s) (hm : 0 < m /\ m <= 4000000000) : Spec Try.prog (tabK tabw) X (n + 60) 14 [.int .i64 x, .int .i64 m] s (fun v A => v = .int .i64 (modN x m) /\ A = []) := by
 refine enter bw14_at rfl hs ?_
 unfold bw14
 have hq := tmodP_bd (x := x) hm.1
 refine rS (kM rfl rfl (i_nil (rS (kM rfl rfl (kM rfl rfl (kO rfl (a_rem rfl rfl (by omega) (kM rfl rfl (kO rfl (a_add rfl rfl (by omega) (kM rfl rfl (kO rfl (a_rem rfl rfl (by omega) (kM rfl rfl (i_nil (r_ret ?_))))))))))))))))
 exact end1 rfl ⟨rfl, rfl⟩
theorem made_s (n : Nat) (r0 : Int) (ar : Option Addr) (cr : Nat) (rs : List (List Int)) (s : St) (hs : Wf s) (hn : 562949953421312 <= n) (hR : RowsE s 4 ar rs) : Spec Try.prog (tabK tabw) X (n + 800) 8 [.agg ⟨[.int .i64 r0, .slice ar rs.length cr]⟩] s (fun v A => ∃ al cl TL, v = .agg ⟨[.int .i64 (mdM r0 : Int), .slice al (mdL (mdM r0) rs).length cl]⟩ /\ A = TL /\ TlR 38 al (mdL (mdM r0) rs).length cl (mdL (mdM r0) rs) TL) := by
 refine enter bw8_at rfl hs ?_
 unfold bw8
 have hlen := hR.len
 obtain ⟨hM1, hM6, hMe⟩ := mdM_bd (r0 := r0)
 have hmr := modN_bd (x := r0) (m := 6) (by decide)
 generalize hMg : mdM r0 = M at *
 refine rS (kO rfl (a_box rfl rfl rfl (fun b1 => (kO rfl (a_new rfl rfl (fun b2 => (i_nil (rS (kO rfl (a_fa rfl (kO rfl (a_ld rfl (.next .here) rfl (kO rfl (a_callV rfl rfl (fun s1 h1 => mod_s _ _ _ s1 h1.wf (by omega)) (kO rfl (a_add rfl rfl (by omega) ?_))))))))))))))))
 rw [hMe]
 refine kO rfl (a_build rfl rfl (kO rfl (a_new rfl rfl (fun b3 => (kZ rfl (a_sta rfl rfl .here rfl rfl rfl rfl (i_nil (rQ (rS (kO rfl (a_fa rfl (kO rfl (a_ld rfl (.next (.next .here)) rfl (kO rfl (a_lenx rfl hR.spot (kM rfl rfl (i_nil (r_block ?_))))))))))))))))))
 refine r_loop (fun j e A => ∃ (k : Nat) (aT : Option Addr) (n9 cp : Nat) (TL : List Ob), e = [(2, .pointer (some ⟨b2, 0, none⟩)), (3, .pointer (some ⟨b3, 0, none⟩)), (14, .slice ar rs.length cr), (15, .int .i64 (rs.length : Int)), (16, .int .i64 (k : Int))] /\ A = (TL ++ (.row b3 29 false ([.int .i64 (M : Int), .slice aT n9 cp]) :: (.row b2 29 false ([.int .i64 0, .slice none 0 0]) :: []))) /\ j = rs.length - k /\ k <= rs.length /\ k <= 20 /\ n9 = k /\ TlR 38 aT n9 cp (mdK M rs k) TL) 300 0 281474976710656 ?_ (j := _) (env2 := _) (A2 := _) ?_ ?_ ?_ ?_ ⟨0, none, 0, 0, [], rfl, rfl, rfl, Nat.zero_le _, Nat.zero_le _, rfl, (.inl ⟨rfl, rfl, rfl, rfl, rfl⟩)⟩
 rotate_left
 ·omega
 ·omega
 ·exact (lc 2 rfl (lc 3 rfl (lc 14 rfl (lc 15 rfl (lc 16 rfl Less.nil)))))
 ·exact (.q (.q (.cons _ .slnil)))
 rintro n hn j _ _ ⟨k, aT, n9, cp, TL, rfl, rfl, rfl, hk, hk20, hn9, hU⟩
 have hsp9 := hU.spot
 refine rS (kO rfl (a_lss rfl rfl (fun h4 => ?_) (fun h4 => ?_)))
 ·obtain ⟨q4, o4, y0, y1, y2, y3, ahR, hx, hat, i0, i1, i2, i3⟩ := hR.row4 (k := k) (by omega)
  have hat2 := hat
  obtain ⟨d0, d1, d2, d3, _⟩ := hat2
  have m0 := modN_bd (x := y0) (m := (M : Int) + 1) (by omega)
  have m1 := modN_bd (x := y1) (m := (M : Int)) (by omega)
  have m2 := modN_bd (x := y2) (m := 141) (by decide)
  have m3 := modN_bd (x := y3) (m := 6) (by decide)
  refine i_nil (rQ (r_cond_t rfl (r_skip (then_n (rQ (r_block (rS (kM rfl rfl (kO rfl (a_iaA (j := k) ahR rfl rfl (by first | rfl | omega) (by first | decide | omega) (kO rfl (a_ldar rfl (by decide) (by assumption) rfl (kO rfl (a_new rfl rfl (fun b5 => (kM rfl rfl (kZ rfl (a_sta rfl rfl .here rfl rfl rfl rfl (i_nil (rQ (rS (kM rfl rfl (kO rfl (a_eql rfl rfl (fun h6 => ?_) (fun h6 => ?_)))))))))))))))))))))))))
  ·refine i_nil (r_cond_t rfl (r_exit (then_e (block_miss rfl (then_e (then_e (block_hit (then_n (rS (kO rfl (a_lda rfl (by decide) (.next (.app .here)) rfl (kZ rfl (a_sta rfl rfl (.next (.app (.next .here))) rfl rfl rfl rfl (i_nil (r_ret ?_)))))))))))))))
   have hz9 : mdK M rs k = mdL M rs := by
    first
     | (rw [show k = 20 by omega]; exact mdK_20)
     | (rw [show k = rs.length by omega]; exact mdK_all (by omega))
   rw [hz9] at hU
   obtain ⟨hz1, hz2, hz3⟩ := hU.ok
   exact endcA rfl (by decide) (.cons _ (List.sublist_append_left _ _)) (.next (.app (.next .here))) rfl ⟨aT, cp, TL, by rw [<- hz2], rfl, hz2 ▸ hU⟩
  ·refine i_nil (r_cond_f rfl (r_skip (then_n (rS (kO rfl (a_iaa (j := 0) rfl rfl (by decide) (by decide) (kO rfl (a_ld rfl .here rfl (kO rfl (a_fa rfl (kO rfl (a_ld rfl (.next (.app .here)) rfl (kO rfl (a_add rfl rfl (by omega) (kO rfl (a_callV rfl rfl (fun s1 h1 => mod_s _ _ _ s1 h1.wf (by omega)) (kM rfl rfl (i_nil (rS (kM rfl rfl (kO rfl (a_add rfl rfl (by omega) (kO rfl (a_iaa (j := 1) rfl rfl (by decide) (by decide) (kO rfl (a_ld rfl .here rfl (kO rfl (a_fa rfl (kO rfl (a_ld rfl (.next (.app .here)) rfl (kO rfl (a_fa rfl (kO rfl (a_ld rfl (.next (.app .here)) rfl (kO rfl (a_add rfl rfl (by omega) (kO rfl (a_callV rfl rfl (fun s1 h1 => mod_s _ _ _ s1 h1.wf (by omega)) ?_))))))))))))))))))))))))))))))))))))))
   refine kZ rfl (a_again rfl rfl (.next (.app .here)) rfl (by simp [eqV, eqA, eqL, kindEq, intEq_eq, eqV_sl hR.spot, eqV_sl hsp9]) (kO rfl (a_add rfl rfl (by omega) (kO rfl (a_callV rfl rfl (fun s1 h1 => mod_s _ _ _ s1 h1.wf (by omega)) (kM rfl rfl (i_nil (rI (kO rfl (a_fa rfl (kO rfl (a_ld rfl (.next (.app .here)) rfl (kM rfl rfl (kM rfl rfl (kO rfl (a_iaa (j := 2) rfl rfl (by decide) (by decide) (kO rfl (a_ld rfl .here rfl (kO rfl (a_iaa (j := 3) rfl rfl (by decide) (by decide) (kO rfl (a_ld rfl .here rfl (kO rfl (a_callV rfl rfl (fun s1 h1 => mod_s _ _ _ s1 h1.wf (by omega)) (kZ rfl (a_again rfl rfl .here rfl (by simp [eqV, eqA, eqL, kindEq, intEq_eq, eqV_sl hR.spot, eqV_sl hsp9]) (kZ rfl (a_again rfl rfl (.next (.app .here)) rfl (by simp [eqV, eqA, eqL, kindEq, intEq_eq, eqV_sl hR.spot, eqV_sl hsp9]) (kO rfl (a_sub rfl rfl (by omega) (kO rfl (a_callV rfl rfl (fun s1 h1 => mod_s _ _ _ s1 h1.wf (by omega)) (kZ rfl (a_again rfl rfl (.next (.app .here)) rfl (by simp [eqV, eqA, eqL, kindEq, intEq_eq, eqV_sl hR.spot, eqV_sl hsp9]) (kO rfl (a_add rfl rfl (by omega) (kO rfl (a_build rfl rfl (kO rfl (a_lit rfl rfl rfl (fun b7 => (kO rfl (a_appT (A1 := [_, _]) hU rfl rfl rfl (Src.own .here rfl (by simp)) (by decide) (by omega) (by omega) (fun b8 => ?_))))))))))))))))))))))))))))))))))))))))))))
   refine kO rfl (a_fa rfl (kZ rfl (a_st rfl rfl (.next (.next (.next .here))) rfl rfl (i_nil (block_n (then_n (rI (kO rfl (a_add rfl rfl (by omega) (kM rfl rfl (i_nil (then_n ?_))))))))))))
   exact ⟨rfl, _, _, _, (show rs.length - (k + 1) < rs.length - k by omega), (lc 2 rfl (lc 3 rfl (lc 14 rfl (lc 15 rfl (lc 16 rfl Less.nil))))), (.q (.cons _ (.cons _ (.q (.q .slnil))))), ⟨k + 1, some ⟨b8, 0, none⟩, n9 + 1, OPEN, [.row b8 38 true (limC (mdK M rs (k + 1)))], rfl, (by rw [<- mdK_app hx]; rfl), rfl, by omega, by omega, by omega, (.inr ⟨_, _, rfl, by omega, by rw [mdK_len (by omega)]; omega, .inl ⟨rfl, rfl⟩, rfl⟩)⟩⟩
 ·refine i_nil (rQ (r_cond_f rfl (r_exit (then_e (then_e (block_hit (then_n (rS (kO rfl (a_lda rfl (by decide) (.app .here) rfl (kZ rfl (a_sta rfl rfl (.app (.next .here)) rfl rfl rfl rfl (i_nil (r_ret ?_))))))))))))))
  have hz9 : mdK M rs k = mdL M rs := by
   first
    | (rw [show k = 20 by omega]; exact mdK_20)
    | (rw [show k = rs.length by omega]; exact mdK_all (by omega))
  rw [hz9] at hU
  obtain ⟨hz1, hz2, hz3⟩ := hU.ok
  exact endcA rfl (by decide) (List.sublist_append_left _ _) (.app (.next .here)) rfl ⟨aT, cp, TL, by rw [<- hz2], rfl, hz2 ▸ hU⟩
theorem weights_s (n : Nat) (M : Nat) (al : Option Addr) (cl nl9 : Nat) (a1 : Option Addr) (c1 : Nat) (l : List Int) (s : St) (hs : Wf s) (hn : 562949953421312 <= n) (hI : IntsE s a1 l) (hM : M <= 64) : Spec Try.prog (tabK tabw) X (n + 500) 9 [.agg ⟨[.int .i64 (M : Int), .slice al nl9 cl]⟩, .slice a1 l.length c1] s (fun v A => ∃ b op c, v = .slice (some ⟨b, 0, none⟩) (M + 1) c /\ Tight op (M + 1) c /\ A = [.row b 3 op (ints (wgL l (M + 1)))]) := by
 refine enter bw9_at rfl hs ?_
 unfold bw9
 have hlen := hI.len
 refine rS (kO rfl (a_box rfl rfl rfl (fun b1 => (kM rfl rfl (i_nil (rS (kM rfl rfl (i_nil (rQ (rS (kM rfl rfl (i_nil (r_block ?_)))))))))))))
 refine r_loop (fun j e A => ∃ (k : Nat) (aT : Option Addr) (n9 cp : Nat) (TL : List Ob), e = [(1, .slice a1 l.length c1), (2, .pointer (some ⟨b1, 0, none⟩)), (5, .slice aT n9 cp), (6, .int .i64 (k : Int))] /\ A = (TL ++ (.row b1 29 false ([.int .i64 (M : Int), .slice al nl9 cl]) :: [])) /\ j = M + 1 - k /\ k <= M + 1 /\ n9 = k /\ IlR 3 aT n9 cp (wgL l k) TL) 300 0 281474976710656 ?_ (j := _) (env2 := _) (A2 := _) ?_ ?_ ?_ ?_ ⟨0, none, 0, 0, [], rfl, rfl, rfl, Nat.zero_le _, rfl, (.inl ⟨rfl, rfl, rfl, rfl, rfl⟩)⟩
 rotate_left
 ·omega
 ·omega
 ·exact (lc 1 rfl (lc 2 rfl (lc 5 rfl (lc 6 rfl Less.nil))))
 ·exact (.q .slnil)
 rintro n hn j _ _ ⟨k, aT, n9, cp, TL, rfl, rfl, rfl, hk, hn9, hU⟩
 refine rQ (rS (kM rfl rfl (kO rfl (a_fa rfl (kO rfl (a_ld rfl (.app .here) rfl (kO rfl (a_leq rfl rfl (fun h2 => ?_) (fun h2 => ?_)))))))))
 ·refine i_nil (r_cond_t rfl (r_skip (then_n (rQ (r_block (rS (kM rfl rfl (i_nil (rQ (rS (kM rfl rfl (kO rfl (a_lenx rfl hI.spot (kO rfl (a_gtr rfl rfl (fun h3 => ?_) (fun h3 => ?_))))))))))))))))
  ·refine i_nil (r_cond_t rfl (rI (kM rfl rfl (kM rfl rfl (kM rfl rfl (kO rfl (a_lenx rfl hI.spot ?_)))))))
   have hmd9 : k % l.length < l.length := Nat.mod_lt _ (by omega)
   refine kO rfl (a_rem rfl rfl (by omega) (kO rfl (a_iaI (j := k % l.length) hI rfl rfl rfl rfl (by omega) (fun _ _ a99 => (kO rfl (a_ldr rfl (hI.at a99 (by omega)) (kO rfl (a_callV rfl rfl (fun s1 h1 => mod_s _ _ _ s1 h1.wf (by omega)) ?_))))))))
   have m9 := modN_bd (x := l.getD (k % l.length) 0) (m := 61) (by decide)
   refine kO rfl (a_sub rfl rfl (by omega) (kM rfl rfl (i_nil (then_n (rI (kM rfl rfl (kM rfl rfl (kO rfl (a_lit rfl rfl rfl (fun b5 => (kO rfl (a_appI (A1 := [_]) hU rfl rfl rfl (Src.own .here rfl (by simp)) (by decide) (by omega) (by omega) (fun b6 => (kM rfl rfl (i_nil (block_n (then_n (rI (kM rfl rfl (kO rfl (a_add rfl rfl (by omega) (kM rfl rfl (i_nil (then_n ?_))))))))))))))))))))))))
   exact ⟨rfl, _, _, _, (show M + 1 - (k + 1) < M + 1 - k by omega), (lc 1 rfl (lc 2 rfl (lc 5 rfl (lc 6 rfl Less.nil)))), (.q (.cons _ (.q .slnil))), ⟨k + 1, some ⟨b6, 0, none⟩, n9 + 1, OPEN, [.row b6 3 true (ints (wgL l (k + 1)))], rfl, (by rw [<- wgL_app (by first | exact (if_neg (by omega)).symm | exact (if_pos (by omega)).symm)]; rfl), rfl, by omega, by omega, (.inr ⟨_, _, rfl, by omega, by rw [wgL_len]; omega, .inl ⟨rfl, rfl⟩, rfl⟩)⟩⟩
  ·refine i_nil (r_cond_f rfl (r_skip (then_n (rI (kM rfl rfl (kM rfl rfl (kO rfl (a_lit rfl rfl rfl (fun b7 => (kO rfl (a_appI (A1 := [_]) hU rfl rfl rfl (Src.own .here rfl (by simp)) (by decide) (by omega) (by omega) (fun b8 => (kM rfl rfl (i_nil (block_n (then_n (rI (kM rfl rfl (kO rfl (a_add rfl rfl (by omega) (kM rfl rfl (i_nil (then_n ?_)))))))))))))))))))))))
   exact ⟨rfl, _, _, _, (show M + 1 - (k + 1) < M + 1 - k by omega), (lc 1 rfl (lc 2 rfl (lc 5 rfl (lc 6 rfl Less.nil)))), (.q (.cons _ (.q .slnil))), ⟨k + 1, some ⟨b8, 0, none⟩, n9 + 1, OPEN, [.row b8 3 true (ints (wgL l (k + 1)))], rfl, (by rw [<- wgL_app (by first | exact (if_neg (by omega)).symm | exact (if_pos (by omega)).symm)]; rfl), rfl, by omega, by omega, (.inr ⟨_, _, rfl, by omega, by rw [wgL_len]; omega, .inl ⟨rfl, rfl⟩, rfl⟩)⟩⟩
 ·refine i_nil (r_cond_f rfl (r_exit (then_e (then_e (block_hit (then_n (rS (kM rfl rfl (kM rfl rfl (i_nil (r_ret ?_)))))))))))
  have hkM : k = M + 1 := by omega
  subst hkM
  rcases hU with ⟨_, q, _⟩ | ⟨b, op, rfl, h0, h2, h3, rfl⟩
  ·exfalso; omega
  ·exact end1A rfl (List.sublist_append_left _ _) ⟨b, op, cp, by rw [hn9], hn9 ▸ h3, rfl⟩
end
end Ev
end Go.Proofs.Ytoeklhdklcpllaa
namespace Go.Proofs.Ytoeklhdklcpllaa
open Go Go.RowKit
namespace Ev
theorem Spec.imp {P : Program} {C : Nat -> (CF -> Bool) -> Bool} {X : FuncId -> List Value -> St -> (Value -> St -> Bool) -> Bool} {n : Nat} {f : FuncId} {vs : List Value} {s : St} {Q Q' : Value -> List Ob -> Prop} (h : Spec P C X n f vs s Q) (hq : ∀ v A, Q v A -> Q' v A) : Spec P C X n f vs s Q' := h.mono (fun v s' q => by obtain ⟨A, h1, h2⟩ := q; exact ⟨A, h1, hq v A h2⟩)
theorem cap_tight {s : St} {b n c : Nat} {l : List Value} {op : Bool} (ht : Tight op n c) (h : Obj s b 3 op l) (hn : n <= l.length) : CapOk s (some ⟨b, 0, none⟩) n c := by
 rcases ht with ⟨rfl, rfl⟩ | ⟨rfl, rfl, h2⟩
 ·exact CapOk.own h hn
 ·exact .inl ⟨h2, Nat.le_refl _⟩
section
variable {X : FuncId -> List Value -> St -> (Value -> St -> Bool) -> Bool}
end
end Ev
end Go.Proofs.Ytoeklhdklcpllaa
namespace Go.Proofs.Ytoeklhdklcpllaa
open Go Go.RowKit
namespace Ev
section
variable {X : FuncId -> List Value -> St -> (Value -> St -> Bool) -> Bool}
end
end Ev
end Go.Proofs.Ytoeklhdklcpllaa
