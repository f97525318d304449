import Derived.Test.YtoeklhdklcpllaaGreatZe14
import Derived.Test.YtoeklhdklcpllaaGreatZe11
import Derived.Test.YtoeklhdklcpllaaGreatZe12
set_option linter.unusedVariables false
set_option linter.unusedSimpArgs false
namespace Go.Proofs.YtoeklhdklcpllaaGreat
open Go Go.RowKit
namespace Ev
theorem sum_pr {t z : Int} (ht : 0 <= t) (hz : -20000 <= z /\ z <= 20000) : -(20000 * t) <= t * z /\ t * z <= 20000 * t := by
 have h1 := Int.mul_le_mul_of_nonneg_left hz.2 ht;have h2 := Int.mul_le_mul_of_nonneg_left hz.1 ht;rw [Int.mul_comm t 20000] at h1;rw [Int.mul_comm t (-20000)] at h2;omega
theorem sum_bd {t z : Nat -> Int} {K : Nat} : ∀ {k : Nat}, k <= K -> (∀ i, i < K -> 0 <= t i) -> (∀ i, i < K -> -20000 <= z i /\ z i <= 20000) -> -(20000 * tot t k) <= tot (fun i => t i * z i) k /\ tot (fun i => t i * z i) k <= 20000 * tot t k
 | 0, _, _, _ => by show -(20000 * (0 : Int)) <= 0 /\ (0 : Int) <= 20000 * 0; omega
 | k + 1, hk, ht, hz => by
  have ih := sum_bd (k := k) (by omega) ht hz;have h1 := sum_pr (ht k (by omega)) (hz k (by omega));show -(20000 * (tot t k + t k)) <= tot (fun i => t i * z i) k + t k * z k /\ tot (fun i => t i * z i) k + t k * z k <= 20000 * (tot t k + t k);omega
theorem lw_row {ls : List (List Int)} {k : Nat} {y0 y1 y2 y3 : Int} (h : ls[k]? = some [y0, y1, y2, y3]) : lw ls k = y2 := by
 unfold lw;rw [show ls.getD k [] = [y0, y1, y2, y3] from by rw [List.getD_eq_getElem?_getD, h]; rfl]; rfl
theorem sum_rng {ls : List (List Int)} {M : Nat} {w t p : Nat -> Int} {k : Nat} (hl : lmB (M : Int) ls = true) (h : Opt ls (M + 1) w t p) (hs : tot t ls.length <= 230400000000000) (hk : k < ls.length) : (-4608000000000000000 <= tot (fun i => t i * lw ls i) k /\ tot (fun i => t i * lw ls i) k <= 4608000000000000000) /\ (-4608000000000000000 <= t k * lw ls k /\ t k * lw ls k <= 4608000000000000000) /\ (-4608000000000000000 <= tot (fun i => t i * lw ls i) k + t k * lw ls k /\ tot (fun i => t i * lw ls i) k + t k * lw ls k <= 4608000000000000000) := by
 have hz : ∀ i, i < ls.length -> -20000 <= lw ls i /\ lw ls i <= 20000 := fun i hi => lw_bd' hl hi
 have h1 := sum_bd (t := t) (z := lw ls) (K := ls.length) (k := k) (by omega) h.nn hz;have h2 := sum_bd (t := t) (z := lw ls) (K := ls.length) (k := k + 1) (by omega) h.nn hz;have h3 := tot_part (f := t) (K0 := k) (K := ls.length) (by omega) h.nn;have h4 := tot_part (f := t) (K0 := k + 1) (K := ls.length) (by omega) h.nn;have h5 := sum_pr (h.nn k hk) (hz k hk);have h6 := tot_mem (f := t) h.nn k hk;have h7 : tot (fun i => t i * lw ls i) (k + 1) = tot (fun i => t i * lw ls i) k + t k * lw ls k := rfl;rw [h7] at h2;omega
theorem sum_all {ls : List (List Int)} {M : Nat} {w t p : Nat -> Int} (hl : lmB (M : Int) ls = true) (h : Opt ls (M + 1) w t p) (hs : tot t ls.length <= 230400000000000) : -4608000000000000000 <= tot (fun i => t i * lw ls i) ls.length /\ tot (fun i => t i * lw ls i) ls.length <= 4608000000000000000 := by
 have hz : ∀ i, i < ls.length -> -20000 <= lw ls i /\ lw ls i <= 20000 := fun i hi => lw_bd' hl hi
 have h1 := sum_bd (t := t) (z := lw ls) (K := ls.length) (k := ls.length) (Nat.le_refl _) h.nn hz;omega
section
variable {X : FuncId -> List Value -> St -> (Value -> St -> Bool) -> Bool}
set_option maxRecDepth 100000 in
theorem Most_s (n : Nat) (m : Int) (al : Option Addr) (cl : Nat) (ls : List (List Int)) (aw : Option Addr) (cw : Nat) (w : List Int) (s : St) (hs : Wf s) (hn : 7318349394477056 <= n) (hL : RowsE s 4 al ls) (hcl : al = none -> cl = 0) (hW : IntsE s aw w) (hCap : CapOk s aw w.length cw) : Spec Tryz.prog (tabK tabw) X (n + 10000) 7 [.agg ⟨[.int .i64 m, .slice al ls.length cl]⟩, .slice aw w.length cw] s (fun v A => (¬ sysE m ls = 0 /\ v = .tuple #[.int .i64 0, .int .i64 (sysE m ls)] /\ A = []) ∨ (sysE m ls = 0 /\ ¬ ((w.length : Int) = m + 1 /\ WOk w w.length) /\ v = .tuple #[.int .i64 0, .int .i64 27] /\ A = []) ∨ (sysE m ls = 0 /\ ((w.length : Int) = m + 1 /\ WOk w w.length) /\ Uns ls (m.toNat + 1) /\ v = .tuple #[.int .i64 0, .int .i64 23] /\ A = []) ∨ (sysE m ls = 0 /\ ((w.length : Int) = m + 1 /\ WOk w w.length) /\ ¬ Uns ls (m.toNat + 1) /\ Opn ls (m.toNat + 1) (du0 w m.toNat) /\ v = .tuple #[.int .i64 0, .int .i64 22] /\ A = []) ∨ (sysE m ls = 0 /\ ((w.length : Int) = m + 1 /\ WOk w w.length) /\ ¬ Uns ls (m.toNat + 1) /\ ∃ t p, Opt ls (m.toNat + 1) (du0 w m.toNat) t p /\ tot t ls.length <= 230400000000000 /\ (∀ v, v < m.toNat + 1 -> -1300000 <= p v /\ p v <= 30000000) /\ v = .tuple #[.int .i64 (tot (fun i => t i * lw ls i) ls.length), .int .i64 0] /\ A = [])) := by
 refine enter bw7_at rfl hs ?_;unfold bw7;have hlen := hL.len;have hlenW := hW.len;refine rS (kO J (a_box J J J (fun b1 => (kM J J (kM J J (Q0 (rS (kO J (U5 J (by decide) .here rfl (kM J J (kO J (Y5 J J (fun s1 h1 => solve_s _ m al cl ls aw cw w s1 h1.wf (by omega) (hL.ext hs h1.2.1) hcl (hW.ext hs h1.2.1) (hCap.ext hs h1.2.1)) (fun v1 A1 q1 => ?_)))))))))))));rcases q1 with ⟨hsx, rfl, rfl⟩ | ⟨hsys, hww, rfl, rfl⟩ | ⟨hsys, hww, hun, rfl, rfl⟩ | ⟨hsys, hww, hnu, hop, rfl, rfl⟩ | ⟨hsys, hww, hnu, q1⟩
 ·have hsx9 := hsx
  refine kM J J (kO J (W2 J J (kO J (W2 J J (kM J J (kM J J (Q0 (rQ (rS (kM J J (kO J (Z4 J J (fun h5 => ?_) (fun h5 => ?_)))))))))))))
  ·refine Q0 (Y0 J (rS (kM J J (kM J J (kM J J (Q0 (Z3 (V3 ?_))))))))
   exact end2 J J (.inl ⟨hsx, rfl, rfl⟩)
  ·exfalso; omega
 ·have hww9 := hww
  refine kM J J (kO J (W2 J J (kO J (W2 J J (kM J J (kM J J (Q0 (rQ (rS (kM J J (kO J (Z4 J J (fun _ => (Q0 (Y0 J (rS (kM J J (kM J J (kM J J (Q0 (Z3 (V3 ?_)))))))))) (fun h => absurd h (by decide))))))))))))));exact end2 J J (.inr (.inl ⟨hsys, hww, rfl, rfl⟩))
 ·have hun9 := hun
  refine kM J J (kO J (W2 J J (kO J (W2 J J (kM J J (kM J J (Q0 (rQ (rS (kM J J (kO J (Z4 J J (fun _ => (Q0 (Y0 J (rS (kM J J (kM J J (kM J J (Q0 (Z3 (V3 ?_)))))))))) (fun h => absurd h (by decide))))))))))))));exact end2 J J (.inr (.inr (.inl ⟨hsys, hww, hun, rfl, rfl⟩)))
 ·have hop9 := hop
  refine kM J J (kO J (W2 J J (kO J (W2 J J (kM J J (kM J J (Q0 (rQ (rS (kM J J (kO J (Z4 J J (fun _ => (Q0 (Y0 J (rS (kM J J (kM J J (kM J J (Q0 (Z3 (V3 ?_)))))))))) (fun h => absurd h (by decide))))))))))))));exact end2 J J (.inr (.inr (.inr (.inl ⟨hsys, hww, hnu, hop, rfl, rfl⟩))))
 ·obtain ⟨hm0, hM, h400, hlm⟩ := sysE_ok hsys
  obtain ⟨M, rfl⟩ : ∃ q : Nat, m = (q : Int) := ⟨m.toNat, by omega⟩;obtain ⟨t, p, hOp, htb, hts, hpb, bf2, bt3, bn4, O, B, rfl, rfl, hO⟩ := q1;rw [Int.toNat_natCast, List.append_assoc, List.cons_append, List.cons_append, List.cons_append, List.nil_append];have hMM := hM;change Opt ls (M + 1) (du0 w M) t p at hOp;change ∀ v, v < M + 1 -> _ at hpb;have hwl : w.length = M + 1 := by omega
  refine kM J J (kO J (W2 J J (kO J (W2 J J (kM J J (kM J J (Q0 (rQ (rS (kM J J (kO J (Z4 J J (fun h => absurd h (by decide)) (fun _ => (Q0 (U0 J (W1 (W0 (rS (kM J J (kG J J (a_inl J J bw37_at rfl ?_)))))))))))))))))))));unfold bw37;refine rS (kM J J (Q0 (rS (kM J J (Q0 (rQ (rS (kM J J (kO J (Q5 J (kO J (U2 J (kO J (U2 J (kO J (U1 J (.app .here) J (kO J (a_lenx J hL.spot (kM J J (Q0 (Z1 ?_)))))))))))))))))))));refine Z5 (fun j e A => ∃ (k : Nat), e = [(0, .pointer (some ⟨bf2, 0, none⟩)), (3, .int .i64 (tot (fun i => t i * lw ls i) k)), (10, .slice al ls.length cl), (11, .int .i64 (ls.length : Int)), (12, .int .i64 (k : Int))] /\ A = (nobj B (nl ls ls.length) O ++ (.row bf2 104 false ([.int .i64 (M : Int), .slice al ls.length cl, .slice (some ⟨bt3, 0, none⟩) ls.length ls.length, .slice (some ⟨bn4, 0, none⟩) (M + 1) (M + 1)]) :: (.row bn4 25 false (nsl B (nl ls ls.length) (M + 1)) :: (.row bt3 3 false (ints (xs t ls.length)) :: [])))) /\ j = ls.length - k /\ k <= ls.length) 200 0 281474976710656 ?_ (j := _) (env2 := _) (A2 := _) ?_ ?_ ?_ ?_ ⟨0, rfl, rfl, rfl, Nat.zero_le _⟩
  rotate_left
  ·omega
  ·omega
  ·exact (lc 0 J (lc 3 J (lc 10 J (lc 11 J (lc 12 J Less.nil)))))
  ·exact (.r (.q (.q (.q (.cons _ .slnil)))))
  rintro n hn j _ _ ⟨k, rfl, rfl, rfl, hk⟩;refine rS (kO J (Q6 J J (fun h10 => ?_) (fun h10 => ?_)))
  ·obtain ⟨q4, o4, y0, y1, y2, y3, ahL, hx, hat, i0, i1, i2, i3⟩ := hL.row4 (k := k) (by omega)
   have hat2 := hat;obtain ⟨d0, d1, d2, d3, _⟩ := hat2;have := i0.lo; have := i0.hi;have := i1.lo; have := i1.hi;have := i2.lo; have := i2.hi;have := i3.lo; have := i3.hi;have hlw9 := lw_row hx;have hsr9 := sum_rng hlm hOp hts (show k < ls.length by omega);rw [hlw9] at hsr9;refine Q0 (rQ (Y0 J (W1 (W0 (rQ (Z1 (rS (kM J J (kO J (a_iaA (j := k) ahL rfl rfl (by first | rfl | omega) (by first | decide | omega) (kO J (a_ldar J (by decide) (by assumption) J (kO J (a_new J J (fun b11 => (kM J J (kZ J (Q7 J J .here rfl rfl rfl rfl (Q0 (rI (kM J J (kM J J (kO J (Q5 J (kO J (U2 J (kO J (U1 J (.next (.app .here)) J (kM J J (kO J (Y4 (j := k) J J (by omega) (by omega) (kO J (V5 (x := (t) (k)) J (.next (.app (.next (.next .here)))) (by rw [W4]; omega) (V4 (by omega)) ?_)))))))))))))))))))))))))))))))));refine kO J (U2 J (kO J (U1 J .here rfl (kO J (a_mul J J (by omega) (kO J (Q4 J J (by omega) (kM J J (Q0 (V1 (W0 (rI (kO J (Q4 J J (by omega) (kM J J (Q0 (W0 ?_)))))))))))))))));exact ⟨rfl, _, _, _, (show ls.length - (k + 1) < ls.length - k by omega), (lc 0 J (lc 3 (by show some (Value.int .i64 (_ + t k * y2)) = some (Value.int .i64 (tot (fun i => t i * lw ls i) k + t k * lw ls k)); rw [hlw9]) (lc 10 J (lc 11 J (lc 12 J Less.nil))))), (.cons _ (.r (.q (.q (.q .slnil))))), ⟨k + 1, rfl, rfl, rfl, by omega⟩⟩
  ·have hkl : k = ls.length := by omega
   subst hkl;refine Q0 (rQ (U0 J (W5 (W3 (W3 (U3 (W0 (rS (kM J J (kM J J (Q0 (Z3 (endD1 J .nil (kM J J (kM J J (Q0 (Z3 ?_)))))))))))))))));exact end2 J J (.inr (.inr (.inr (.inr ⟨hsys, hww, hnu, t, p, hOp, hts, hpb, rfl, rfl⟩))))
end
theorem sls_new {B : Nat -> Nat} {n m i b : Nat} (h : i < m) : (slsT (updB B i b) n (i + 1) m)[0 + i * 1]? = some (.slice (some ⟨b, 0, none⟩) n n) := by
 rw [sls_get (by omega) h]; simp [updB]
def dg (n i k : Nat) : List Int := rowT (fun _ j => if j < k /\ ¬ j = i then 1000000000 else 0) n i
theorem dg_len {n i k : Nat} : (dg n i k).length = n := rowT_len
theorem rowT_ext {T T' : Nat -> Nat -> Int} {n i i' : Nat} (h : ∀ j, j < n -> T i j = T' i' j) : rowT T n i = rowT T' n i' := by
 unfold rowT;exact List.map_congr_left (fun j hj => h j (List.mem_range.1 hj))
theorem dg_zero {n i : Nat} : List.replicate n 0 = dg n i 0 := by
 refine List.ext_getElem? (fun j => ?_);unfold dg rowT;rw [List.getElem?_replicate, List.getElem?_map];by_cases h : j < n
 ·rw [if_pos h, List.getElem?_range h]; rfl
 ·rw [if_neg h, List.getElem?_eq_none (by simp; omega)]; rfl
theorem dg_skip {n i k : Nat} (h : k = i) : dg n i (k + 1) = dg n i k := by
 subst h;refine rowT_ext (fun j hj => ?_);by_cases h1 : j < k
 ·rw [if_pos ⟨by omega, by omega⟩, if_pos ⟨h1, by omega⟩]
 ·rw [if_neg (by omega), if_neg (by omega)]
theorem dg_set {n i k : Nat} (h : ¬ k = i) : (dg n i k).set k 1000000000 = dg n i (k + 1) := by
 unfold dg;rw [rowT_set];refine rowT_ext (fun j hj => ?_);unfold updT;by_cases h1 : j = k
 ·subst h1
  rw [if_pos ⟨rfl, rfl⟩, if_pos ⟨by omega, h⟩]
 ·rw [if_neg (by omega)]
  show (if j < k /\ ¬ j = i then (1000000000 : Int) else 0) = _;by_cases h2 : j < k /\ ¬ j = i
  ·rw [if_pos h2, if_pos ⟨by omega, h2.2⟩]
  ·rw [if_neg h2, if_neg (by omega)]
def T0 : Nat -> Nat -> Int := fun i k => if i = k then 0 else 1000000000
theorem dg_end {n i k : Nat} (h : k = n) : dg n i k = rowT T0 n i := by
 subst h;refine rowT_ext (fun j hj => ?_);unfold T0;by_cases h1 : j = i
 ·subst h1
  rw [if_neg (by omega), if_pos rfl]
 ·rw [if_pos ⟨hj, h1⟩, if_neg (by omega)]
def limT (ls : List (List Int)) : Nat -> Nat -> Nat -> Int
 | 0 => T0
 | k + 1 => updT (limT ls k) ((ls.getD k []).getD 0 0).toNat ((ls.getD k []).getD 1 0).toNat (min (limT ls k ((ls.getD k []).getD 0 0).toNat ((ls.getD k []).getD 1 0).toNat) ((ls.getD k []).getD 2 0))
theorem limT_step {ls : List (List Int)} {k u0 u1 : Nat} {y2 y3 : Int} (h : ls[k]? = some [(u0 : Int), (u1 : Int), y2, y3]) : limT ls (k + 1) = updT (limT ls k) u0 u1 (min (limT ls k u0 u1) y2) := by
 have e : ls.getD k [] = [(u0 : Int), (u1 : Int), y2, y3] := by rw [List.getD_eq_getElem?_getD, h]; rfl
 show updT _ _ _ _ = _;rw [e]; rfl
def stp (T : Nat -> Nat -> Int) (m i k : Nat) : Nat -> Nat -> Int :=
 if ¬ T i m = 1000000000 /\ ¬ T m k = 1000000000 then updT T i k (max (min (T i k) (T i m + T m k)) (-2560000)) else T
def kT (T : Nat -> Nat -> Int) (m i : Nat) : Nat -> Nat -> Nat -> Int
 | 0 => T
 | k + 1 => stp (kT T m i k) m i k
def iT (T : Nat -> Nat -> Int) (N m : Nat) : Nat -> Nat -> Nat -> Int
 | 0 => T
 | i + 1 => kT (iT T N m i) m i N
def mT (T : Nat -> Nat -> Int) (N : Nat) : Nat -> Nat -> Nat -> Int
 | 0 => T
 | m + 1 => iT (mT T N m) N m N
def wm (ls : List (List Int)) (N m : Nat) : Nat -> Nat -> Int := mT (limT ls ls.length) N m
def wi (ls : List (List Int)) (N m i : Nat) : Nat -> Nat -> Int := iT (wm ls N m) N m i
def wk (ls : List (List Int)) (N m i k : Nat) : Nat -> Nat -> Int := kT (wi ls N m i) m i k
def WB (ls : List (List Int)) (N : Nat) : Prop := ∀ m i k, m < N -> i < N -> k < N -> ∀ a b, a < N -> b < N -> -1000000000000000000 <= wk ls N m i k a b /\ wk ls N m i k a b <= 1000000000000000000
theorem wk_go {ls : List (List Int)} {N m i k : Nat} (h1 : ¬ wk ls N m i k i m = 1000000000) (h2 : ¬ wk ls N m i k m k = 1000000000) : updT (wk ls N m i k) i k (max (min (wk ls N m i k i k) (wk ls N m i k i m + wk ls N m i k m k)) (-2560000)) = wk ls N m i (k + 1) := (if_pos ⟨h1, h2⟩).symm
theorem wk_no {ls : List (List Int)} {N m i k : Nat} (h : ¬ (¬ wk ls N m i k i m = 1000000000 /\ ¬ wk ls N m i k m k = 1000000000)) : wk ls N m i k = wk ls N m i (k + 1) := (if_neg h).symm
inductive Pth (ls : List (List Int)) : Nat -> List Nat -> Nat -> Int -> Prop where
 | one {i : Nat} (hi : i < ls.length) : Pth ls (la ls i) [] (lb ls i) (lw ls i)
 | cons {i : Nat} {L : List Nat} {k : Nat} {w : Int} (hi : i < ls.length) (h : Pth ls (lb ls i) L k w) : Pth ls (la ls i) (lb ls i :: L) k (lw ls i + w)
theorem Pth.app {ls : List (List Int)} {a v b : Nat} {L L' : List Nat} {w w' : Int} (h : Pth ls a L v w) (h' : Pth ls v L' b w') : Pth ls a (L ++ v :: L') b (w + w') := by
 induction h with
 | one hi => exact .cons hi h'
 | cons hi _ ih => rw [Int.add_assoc]; exact .cons hi (ih h')
theorem Pth.split {ls : List (List Int)} {v b : Nat} {L' : List Nat} : ∀ {L : List Nat} {a : Nat} {w : Int}, Pth ls a (L ++ v :: L') b w -> ∃ w1 w2, Pth ls a L v w1 /\ Pth ls v L' b w2 /\ w = w1 + w2
 | [], a, w, h => by
  have h' : Pth ls a (v :: L') b w := h;cases h' with
  | cons hi hq => exact ⟨_, _, .one hi, hq, rfl⟩
 | u :: L, a, w, h => by
  have h' : Pth ls a (u :: (L ++ v :: L')) b w := h;cases h' with
  | cons hi hq =>
   obtain ⟨w1, w2, h1, h2, h3⟩ := Pth.split hq;exact ⟨_, w2, .cons hi h1, h2, by omega⟩
theorem lw_bd {ls : List (List Int)} {M i : Nat} (hl : lmB (M : Int) ls = true) (hi : i < ls.length) : -20000 <= lw ls i /\ lw ls i <= 20000 := by
 obtain ⟨u0, u1, y2, y3, e, hc⟩ := lm_row hl hi;have e3 : ls.getD i [] = [(u0 : Int), (u1 : Int), y2, y3] := by rw [List.getD_eq_getElem?_getD, e]; rfl
 have e2 : lw ls i = y2 := by unfold lw; rw [e3]; rfl
 omega
theorem Pth.bd {ls : List (List Int)} {M a b : Nat} {L : List Nat} {w : Int} (hl : lmB (M : Int) ls = true) (h : Pth ls a L b w) : -20000 * ((L.length : Int) + 1) <= w /\ w <= 20000 * ((L.length : Int) + 1) := by
 induction h with
 | one hi => have := lw_bd hl hi; show _ <= _ /\ _ <= 20000 * (((0 : Nat) : Int) + 1); exact ⟨by show -20000 * (((0 : Nat) : Int) + 1) <= _; omega, by omega⟩
 | cons hi _ ih => have := lw_bd hl hi; rw [List.length_cons]; omega
theorem Pth.lt {ls : List (List Int)} {M a b : Nat} {L : List Nat} {w : Int} (hl : lmB (M : Int) ls = true) (h : Pth ls a L b w) : a < M + 1 /\ b < M + 1 /\ ∀ v ∈ L, v < M + 1 := by
 induction h with
 | one hi => have hL := lim_of hl hi; exact ⟨hL.ha, hL.hb, fun v hv => absurd hv (List.not_mem_nil)⟩
 | cons hi _ ih =>
  have hL := lim_of hl hi;refine ⟨hL.ha, ih.2.1, fun v hv => ?_⟩;rcases List.mem_cons.1 hv with rfl | hv
  ·exact hL.hb
  ·exact ih.2.2 v hv
theorem Pth.wk {ls : List (List Int)} {f : Nat} {a b : Nat} {L : List Nat} {w w0 : Int} (h0 : Wk ls f a w0) (h : Pth ls a L b w) : Wk ls f b (w0 + w) := by
 induction h generalizing w0 with
 | one hi => exact .step hi h0
 | cons hi _ ih => rw [<- Int.add_assoc]; exact ih (.step hi h0)
theorem Pth.pot {ls : List (List Int)} {y : Nat -> Int} (hy : ∀ i, i < ls.length -> y (lb ls i) <= y (la ls i) + lw ls i) {a b : Nat} {L : List Nat} {w : Int} (h : Pth ls a L b w) : y b <= y a + w := by
 have := (h.wk (.nil (f := a))).pot hy;omega
theorem Wk.pth {ls : List (List Int)} {f a : Nat} {w : Int} (h : Wk ls f a w) : (f = a /\ w = 0) ∨ ∃ L, Pth ls f L a w := by
 induction h with
 | nil => exact .inl ⟨rfl, rfl⟩
 | step hi _ ih =>
  rcases ih with ⟨rfl, rfl⟩ | ⟨L, h⟩
  ·exact .inr ⟨[], by rw [Int.zero_add]; exact .one hi⟩
  ·exact .inr ⟨_, h.app (.one hi)⟩
theorem Wk.add {ls : List (List Int)} {f a b : Nat} {w w' : Int} (h : Wk ls f a w) (h' : Wk ls a b w') : Wk ls f b (w + w') := by
 induction h' with
 | nil => rw [Int.add_zero]; exact h
 | step hi _ ih => rw [<- Int.add_assoc]; exact .step hi ih
theorem twice : ∀ {L : List Nat}, ¬ L.Nodup -> ∃ v A B C, L = A ++ v :: (B ++ v :: C)
 | [], h => absurd List.nodup_nil h
 | u :: L, h => by
  by_cases hu : u ∈ L
  ·obtain ⟨B, C, e⟩ := List.append_of_mem hu
   exact ⟨u, [], B, C, by rw [e]; rfl⟩
  ·have : ¬ L.Nodup := fun q => h (List.nodup_cons.2 ⟨hu, q⟩)
   obtain ⟨v, A, B, C, e⟩ := twice this;exact ⟨v, u :: A, B, C, by rw [e]; rfl⟩
theorem Pth.short {ls : List (List Int)} {y : Nat -> Int} (hy : ∀ i, i < ls.length -> y (lb ls i) <= y (la ls i) + lw ls i) {a b : Nat} : ∀ {L : List Nat} {w : Int}, Pth ls a L b w -> ∃ L' w', L'.Nodup /\ Pth ls a L' b w' /\ w' <= w := by
 intro L
 induction hn : L.length using Nat.strongRecOn generalizing L with
 | ind n ih =>
  intro w h;by_cases q : L.Nodup
  ·exact ⟨L, w, q, h, Int.le_refl _⟩
  ·obtain ⟨v, A, B, C, rfl⟩ := twice q
   obtain ⟨w1, w2, h1, h2, e⟩ := h.split;obtain ⟨w3, w4, h3, h4, e2⟩ := h2.split;have h5 := h3.pot hy;obtain ⟨L', w', k1, k2, k3⟩ := ih (A ++ v :: C).length (by subst hn; simp; omega) J (h1.app h4);exact ⟨L', w', k1, k2, by omega⟩
theorem Pth.neg {ls : List (List Int)} : ∀ {L : List Nat} {a : Nat} {w : Int}, Pth ls a L a w -> w < 0 -> ∃ b L' w', L'.Nodup /\ Pth ls b L' b w' /\ w' < 0 := by
 intro L
 induction hn : L.length using Nat.strongRecOn generalizing L with
 | ind n ih =>
  intro a w h hw;by_cases q : L.Nodup
  ·exact ⟨a, L, w, q, h, hw⟩
  ·obtain ⟨v, A, B, C, rfl⟩ := twice q
   obtain ⟨w1, w2, h1, h2, e⟩ := h.split;obtain ⟨w3, w4, h3, h4, e2⟩ := h2.split;by_cases q3 : w3 < 0
   ·exact ih B.length (by subst hn; simp; omega) J h3 q3
   ·exact ih (A ++ v :: C).length (by subst hn; simp; omega) J (h1.app h4) (by omega)
theorem chain_pth {ls : List (List Int)} {c : Nat -> Nat × Nat × Nat × Int} {a : Nat} (h : ∀ m, (c (itr c a m)).1 < ls.length /\ lb ls (c (itr c a m)).1 = itr c a m /\ la ls (c (itr c a m)).1 = itr c a (m + 1)) : ∀ d, ∃ L, Pth ls (itr c a (d + 1)) L a (sumC ls c a (d + 1))
 | 0 => by
  obtain ⟨c1, c2, c3⟩ := h 0;have := Pth.one c1;rw [c2, c3] at this;have e : sumC ls c a (0 + 1) = lw ls (c (itr c a 0)).1 := Int.zero_add _;rw [e];exact ⟨_, this⟩
 | d + 1 => by
  obtain ⟨L, ih⟩ := chain_pth h d;obtain ⟨c1, c2, c3⟩ := h (d + 1);have := Pth.cons (L := L) (k := a) (w := sumC ls c a (d + 1)) c1 (by rw [c2]; exact ih);rw [c3] at this;have e : sumC ls c a (d + 1 + 1) = lw ls (c (itr c a (d + 1))).1 + sumC ls c a (d + 1) := Int.add_comm _ _;rw [e];exact ⟨_, this⟩
theorem nodup_len {L : List Nat} {N : Nat} (h : L.Nodup) (hL : ∀ v ∈ L, v < N) : L.length <= N := by
 refine Classical.byContradiction (fun q => ?_);obtain ⟨i, j, h1, h2, h3⟩ := pigeon N (fun i => L.getD i 0) (fun i hi => by
  show L.getD i 0 < N;rw [List.getD_eq_getElem?_getD, List.getElem?_eq_getElem (show i < L.length by omega)];exact hL _ (List.getElem_mem _))
 have h3' : L.getD i 0 = L.getD j 0 := h3;rw [List.getD_eq_getElem?_getD, List.getD_eq_getElem?_getD, List.getElem?_eq_getElem (show i < L.length by omega), List.getElem?_eq_getElem (show j < L.length by omega)] at h3';have h4 : L[i]'(by omega) = L[j]'(by omega) := h3';have := (List.getElem_inj h).1 h4;omega
structure Tg (T : Nat -> Nat -> Int) : Prop where
 lo : ∀ a b, -2560000 <= T a b
 hi : ∀ a b, T a b <= 1000000000
def Le2 (T T' : Nat -> Nat -> Int) : Prop := ∀ a b, T a b <= T' a b
theorem stp_le {T : Nat -> Nat -> Int} {m i k : Nat} (h : Tg T) : Tg (stp T m i k) /\ Le2 (stp T m i k) T := by
 have key : ∀ a b, -2560000 <= stp T m i k a b /\ stp T m i k a b <= T a b := fun a b => by
  have := h.lo a b;unfold stp;split
  ·unfold updT
   split
   ·rename_i e
    obtain ⟨rfl, rfl⟩ := e;omega
   ·omega
  ·omega
 exact ⟨⟨fun a b => (key a b).1, fun a b => Int.le_trans (key a b).2 (h.hi a b)⟩, fun a b => (key a b).2⟩
theorem kT_le {T : Nat -> Nat -> Int} {m i : Nat} (h : Tg T) : ∀ k, Tg (kT T m i k) /\ Le2 (kT T m i k) T
 | 0 => ⟨h, fun _ _ => Int.le_refl _⟩
 | k + 1 => by
  obtain ⟨h1, h2⟩ := kT_le h k;obtain ⟨h3, h4⟩ := stp_le (m := m) (i := i) (k := k) h1;exact ⟨h3, fun a b => Int.le_trans (h4 a b) (h2 a b)⟩
theorem iT_le {T : Nat -> Nat -> Int} {N m : Nat} (h : Tg T) : ∀ i, Tg (iT T N m i) /\ Le2 (iT T N m i) T
 | 0 => ⟨h, fun _ _ => Int.le_refl _⟩
 | i + 1 => by
  obtain ⟨h1, h2⟩ := iT_le h i;obtain ⟨h3, h4⟩ := kT_le (m := m) (i := i) h1 N;exact ⟨h3, fun a b => Int.le_trans (h4 a b) (h2 a b)⟩
theorem kT_mono {T : Nat -> Nat -> Int} {m i : Nat} (h : Tg T) {k : Nat} : ∀ {d : Nat}, Le2 (kT T m i (k + d)) (kT T m i k)
 | 0 => fun _ _ => Int.le_refl _
 | d + 1 => fun a b => Int.le_trans ((stp_le (m := m) (i := i) (k := k + d) (kT_le h (k + d)).1).2 a b) (kT_mono h (d := d) a b)
theorem iT_mono {T : Nat -> Nat -> Int} {N m : Nat} (h : Tg T) {i : Nat} : ∀ {d : Nat}, Le2 (iT T N m (i + d)) (iT T N m i)
 | 0 => fun _ _ => Int.le_refl _
 | d + 1 => fun a b => Int.le_trans ((kT_le (m := m) (i := i + d) (iT_le h (i + d)).1 N).2 a b) (iT_mono h (d := d) a b)
theorem iT_thr {T : Nat -> Nat -> Int} {N m a b : Nat} (h : Tg T) (ha : a < N) (hb : b < N) (h1 : T a m < 1000000000) (h2 : T m b < 1000000000) : iT T N m N a b <= max (T a m + T m b) (-2560000) := by
 have t1 := iT_le (N := N) (m := m) h a;have t2 := kT_le (m := m) (i := a) t1.1 b;have l1 : kT (iT T N m a) m a b a m <= T a m := Int.le_trans (t2.2 a m) (t1.2 a m);have l2 : kT (iT T N m a) m a b m b <= T m b := Int.le_trans (t2.2 m b) (t1.2 m b);have e : kT (iT T N m a) m a (b + 1) a b <= max (T a m + T m b) (-2560000) := by
  show stp (kT (iT T N m a) m a b) m a b a b <= _;unfold stp;rw [if_pos ⟨by omega, by omega⟩];show updT _ a b _ a b <= _;unfold updT;rw [if_pos ⟨rfl, rfl⟩];omega
 have e2 : iT T N m (a + 1) a b <= max (T a m + T m b) (-2560000) := by
  show kT (iT T N m a) m a N a b <= _;have := kT_mono (m := m) (i := a) t1.1 (k := b + 1) (d := N - (b + 1)) a b;rw [show b + 1 + (N - (b + 1)) = N by omega] at this;omega
 have := iT_mono (N := N) (m := m) h (i := a + 1) (d := N - (a + 1)) a b;rw [show a + 1 + (N - (a + 1)) = N by omega] at this;omega
theorem T0_g : Tg T0 := ⟨fun a b => by unfold T0; split <;> omega, fun a b => by unfold T0; split <;> omega⟩
theorem limT_g {ls : List (List Int)} {M : Nat} (hl : lmB (M : Int) ls = true) : ∀ {k : Nat}, k <= ls.length -> Tg (limT ls k) /\ Le2 (limT ls k) T0 /\ ∀ i, i < k -> limT ls k (la ls i) (lb ls i) <= lw ls i
 | 0, _ => ⟨T0_g, fun _ _ => Int.le_refl _, fun i hi => absurd hi (Nat.not_lt_zero i)⟩
 | k + 1, hk => by
  obtain ⟨h1, h2, h3⟩ := limT_g hl (k := k) (by omega);have hL := lim_of hl (show k < ls.length by omega);have hw := lw_bd hl (show k < ls.length by omega);have e : ∀ a b, limT ls (k + 1) a b = if a = la ls k /\ b = lb ls k then min (limT ls k (la ls k) (lb ls k)) (lw ls k) else limT ls k a b := fun a b => by
   show updT (limT ls k) _ _ _ a b = _;rw [hL.ea, hL.eb, Int.toNat_natCast, Int.toNat_natCast]; rfl
  refine ⟨⟨fun a b => ?_, fun a b => ?_⟩, fun a b => ?_, fun i hi => ?_⟩
  ·rw [e]
   have := h1.lo a b; have := h1.lo (la ls k) (lb ls k);split <;> omega
  ·rw [e]
   have := h1.hi a b; have := h1.hi (la ls k) (lb ls k);split <;> omega
  ·rw [e]
   split
   ·rename_i q; obtain ⟨rfl, rfl⟩ := q; have := h2 (la ls k) (lb ls k); omega
   ·exact h2 a b
  ·rw [e]
   by_cases q : i = k
   ·subst q; rw [if_pos ⟨rfl, rfl⟩]; omega
   ·have := h3 i (by omega)
    split
    ·rename_i r; rw [r.1, r.2] at this; omega
    ·exact this
theorem wm_g {ls : List (List Int)} {M N : Nat} (hl : lmB (M : Int) ls = true) : ∀ m, Tg (wm ls N m) /\ Le2 (wm ls N m) (limT ls ls.length)
 | 0 => ⟨(limT_g hl (Nat.le_refl _)).1, fun _ _ => Int.le_refl _⟩
 | m + 1 => by
  obtain ⟨h1, h2⟩ := wm_g (N := N) hl m;obtain ⟨h3, h4⟩ := iT_le (N := N) (m := m) h1 N;exact ⟨h3, fun a b => Int.le_trans (h4 a b) (h2 a b)⟩
theorem wb_all {ls : List (List Int)} {M N : Nat} (hl : lmB (M : Int) ls = true) : WB ls N := fun m i k _ _ _ a b _ _ => by
 have h1 := (iT_le (N := N) (m := m) (wm_g (N := N) hl m).1 i).1;have h2 := (kT_le (m := m) (i := i) h1 k).1;have h3 := h2.lo a b;have h4 := h2.hi a b;show -1000000000000000000 <= kT (iT (wm ls N m) N m i) m i k a b /\ kT (iT (wm ls N m) N m i) m i k a b <= 1000000000000000000;omega
theorem wm_pth {ls : List (List Int)} {M : Nat} (hl : lmB (M : Int) ls = true) (hM : M <= 64) : ∀ {m : Nat}, m <= M + 1 -> ∀ {a b : Nat} {L : List Nat} {w : Int}, L.Nodup -> (∀ v ∈ L, v < m) -> Pth ls a L b w -> wm ls (M + 1) m a b <= w
 | 0, _, a, b, L, w, _, hL, h => by
  match L, hL, h with
  | [], _, h =>
   cases h with
   | one hi => exact (limT_g hl (Nat.le_refl _)).2.2 _ hi
  | v :: L, hL, _ => exact absurd (hL v (by simp)) (Nat.not_lt_zero v)
 | m + 1, hm, a, b, L, w, hn, hL, h => by
  have hg := (wm_g (N := M + 1) hl m).1;by_cases q : m ∈ L
  ·obtain ⟨A, B, rfl⟩ := List.append_of_mem q
   obtain ⟨w1, w2, h1, h2, e⟩ := h.split;have hn2 := List.nodup_append.1 hn;have hnB := List.nodup_cons.1 hn2.2.1;have hA : ∀ v ∈ A, v < m := fun v hv => by
    have h3 := hL v (by simp [hv]);have h4 : v ≠ m := fun e => hn2.2.2 v hv m (by simp) e
    omega
   have hB : ∀ v ∈ B, v < m := fun v hv => by
    have h3 := hL v (by simp [hv]);have h4 : v ≠ m := fun e => hnB.1 (e ▸ hv)
    omega
   have r1 := wm_pth hl hM (m := m) (by omega) hn2.1 hA h1;have r2 := wm_pth hl hM (m := m) (by omega) hnB.2 hB h2;have b0 := h.bd hl;have b1 := h1.bd hl;have b2 := h2.bd hl;have l0 := nodup_len hn (fun v hv => show v < 65 by have := hL v hv; omega);have l1 := nodup_len hn2.1 (fun v hv => show v < 65 by have := hA v hv; omega);have l2 := nodup_len hnB.2 (fun v hv => show v < 65 by have := hB v hv; omega);have k1 := h1.lt hl;have k2 := h2.lt hl;have := iT_thr (N := M + 1) (m := m) hg k1.1 k2.2.1 (by omega) (by omega);show iT (wm ls (M + 1) m) (M + 1) m (M + 1) a b <= w;omega
  ·have r := wm_pth hl hM (m := m) (by omega) hn (fun v hv => by
    have h3 := hL v hv;have h4 : v ≠ m := fun e => q (e ▸ hv)
    omega) h
   exact Int.le_trans ((iT_le (N := M + 1) (m := m) hg (M + 1)).2 a b) r
def Att (ls : List (List Int)) (T : Nat -> Nat -> Int) : Prop := ∀ a b, T a b = 1000000000 ∨ Wk ls a b (T a b)
theorem stp_att {ls : List (List Int)} {M N : Nat} {T : Nat -> Nat -> Int} {y : Nat -> Int} {m i k : Nat} (hy : ∀ i, i < ls.length -> y (lb ls i) <= y (la ls i) + lw ls i) (hb : ∀ a, a < N -> -1300000 <= y a /\ y a <= 0) (hi : i < N) (hk : k < N) (h : Att ls T) : Att ls (stp T m i k) := by
 unfold stp;split
 ·rename_i q
  intro a b;unfold updT;by_cases e : a = i /\ b = k
  ·rw [if_pos e]
   obtain ⟨rfl, rfl⟩ := e;have w1 := (h a m).resolve_left q.1;have w2 := (h m b).resolve_left q.2;have w3 := w1.add w2;have p3 := w3.pot hy;have ba := hb a hi;have bb := hb b hk;by_cases c : T a b <= T a m + T m b
   ·rw [show max (min (T a b) (T a m + T m b)) (-2560000) = T a b from by
     rcases h a b with e | e
     ·omega
     ·have := e.pot hy; omega]
    exact h a b
   ·rw [show max (min (T a b) (T a m + T m b)) (-2560000) = T a m + T m b by omega]
    exact .inr w3
  ·rw [if_neg e]; exact h a b
 ·exact h
theorem wm_att {ls : List (List Int)} {M : Nat} {y : Nat -> Int} (hl : lmB (M : Int) ls = true) (hy : ∀ i, i < ls.length -> y (lb ls i) <= y (la ls i) + lw ls i) (hb : ∀ a, a < M + 1 -> -1300000 <= y a /\ y a <= 0) : ∀ {m : Nat}, Att ls (wm ls (M + 1) m) := by
 have hlim : ∀ {k : Nat}, k <= ls.length -> Att ls (limT ls k) := by
  intro k
  induction k with
  | zero =>
   intro _ a b; show T0 a b = _ ∨ Wk ls a b (T0 a b); unfold T0; split
   ·rename_i e; subst e; exact .inr .nil
   ·exact .inl rfl
  | succ k ih =>
   intro hk a b;have hL := lim_of hl (show k < ls.length by omega);have ih := ih (by omega);show updT (limT ls k) _ _ _ a b = _ ∨ Wk ls a b (updT (limT ls k) _ _ _ a b);rw [hL.ea, hL.eb, Int.toNat_natCast, Int.toNat_natCast];unfold updT;by_cases e : a = la ls k /\ b = lb ls k
   ·rw [if_pos e]
    obtain ⟨rfl, rfl⟩ := e;show min _ (lw ls k) = _ ∨ Wk ls _ _ (min _ (lw ls k));by_cases c : limT ls k (la ls k) (lb ls k) <= lw ls k
    ·rw [Int.min_eq_left c]; exact ih _ _
    ·rw [Int.min_eq_right (by omega)]
     have := Wk.step (show k < ls.length by omega) (Wk.nil (ls := ls) (f := la ls k));rw [Int.zero_add] at this;exact .inr this
   ·rw [if_neg e]; exact ih a b
 have hk : ∀ {T : Nat -> Nat -> Int} {m i : Nat}, i < M + 1 -> Att ls T -> ∀ {k : Nat}, k <= M + 1 -> Att ls (kT T m i k) := by
  intro T m i hi h k
  induction k with
  | zero => intro _; exact h
  | succ k ih => intro hk; exact stp_att (M := M) hy hb hi (by omega) (ih (by omega))
 have hi : ∀ {T : Nat -> Nat -> Int} {m : Nat}, Att ls T -> ∀ {i : Nat}, i <= M + 1 -> Att ls (iT T (M + 1) m i) := by
  intro T m h i
  induction i with
  | zero => intro _; exact h
  | succ i ih => intro q; exact hk (by omega) (ih (by omega)) (Nat.le_refl _)
 intro m
 induction m with
 | zero => exact hlim (Nat.le_refl _)
 | succ m ih => exact hi ih (Nat.le_refl _)
def Snd (T : Nat -> Nat -> Int) (N : Nat) : Prop := ∀ a, a < N -> 0 <= T a a
theorem wm_dd {ls : List (List Int)} {M : Nat} {D : Nat -> Nat -> Int} {y : Nat -> Int} (hl : lmB (M : Int) ls = true) (hM : M <= 64) (hD : DT ls (M + 1) D) (hy : ∀ i, i < ls.length -> y (lb ls i) <= y (la ls i) + lw ls i) (hb : ∀ a, a < M + 1 -> -1300000 <= y a /\ y a <= 0) {a b : Nat} (ha : a < M + 1) (hb' : b < M + 1) : wm ls (M + 1) (M + 1) a b = D a b := by
 have hg := (wm_g (N := M + 1) hl (M + 1)).1;have hle : ¬ D a b = 1000000000 -> wm ls (M + 1) (M + 1) a b <= D a b := fun q => by
  rcases ((hD a ha).way b hb' q).pth with ⟨e, e2⟩ | ⟨L, h⟩
  ·subst e
   rw [e2];have h1 := (wm_g (N := M + 1) hl (M + 1)).2 a a;have h2 := (limT_g hl (Nat.le_refl _)).2.1 a a;have h3 : T0 a a = 0 := if_pos rfl;omega
  ·obtain ⟨L', w', h1, h2, h3⟩ := h.short hy
   have := wm_pth hl hM (Nat.le_refl _) h1 (h2.lt hl).2.2 h2;omega
 rcases wm_att hl hy hb (m := M + 1) a b with q | q
 ·by_cases r : D a b = 1000000000
  ·rw [q, r]
  ·have := hle r
   have := (hD a ha).hi b hb';omega
 ·have h1 := (hD a ha).walk q (by rw [(hD a ha).own]; decide)
  rw [(hD a ha).own] at h1;have := hle h1.1;omega
theorem wm_snd {ls : List (List Int)} {M : Nat} (hl : lmB (M : Int) ls = true) (h4 : ls.length <= 400) (hM : M <= 64) : Snd (wm ls (M + 1) (M + 1)) (M + 1) ↔ ¬ Uns ls (M + 1) := by
 constructor
 ·intro h hu
  obtain ⟨l0, hl0, he⟩ : ∃ u : Nat, u < M + 1 /\ (stl ls (M + 1) (M + 1)).l = (u : Int) := ((sb_of hl h4 hM).last M (by omega)).resolve_left (hu M (by omega));obtain ⟨p, hp1, hp2, hp3⟩ := itr_back (sb_of hl h4 hM).par hl0;obtain ⟨k, rfl⟩ : ∃ k, p = k + 1 := ⟨p - 1, by omega⟩;obtain ⟨hch, hn⟩ := uns_neg hl h4 hM hl0 he hp3;have hway := chain_pth hch;obtain ⟨L, hw⟩ := hway k;rw [hp3] at hw;obtain ⟨b, L', w', h1, h2, h3⟩ := hw.neg hn;have h5 := wm_pth hl hM (Nat.le_refl _) h1 (h2.lt hl).2.2 h2;have h6 := h b (h2.lt hl).1;omega
 ·intro h a ha
  obtain ⟨y, hy, hb⟩ := set_pt hl h4 hM h;rcases wm_att hl hy hb (m := M + 1) a a with q | q
  ·rw [q]; decide
  ·have := q.pot hy; omega
section
variable {X : FuncId -> List Value -> St -> (Value -> St -> Bool) -> Bool}
end
def RL (ls : List (List Int)) (t : Nat -> Int) : List (List Int) := ls ++ (List.range ls.length).map (fun i => if 0 < t i then [((lb ls i : Nat) : Int), ((la ls i : Nat) : Int), -(lw ls i), 0] else [((la ls i : Nat) : Int), ((lb ls i : Nat) : Int), lw ls i, 0])
theorem rl_len {ls : List (List Int)} {t : Nat -> Int} : (RL ls t).length = ls.length + ls.length := by simp [RL]
theorem rl_at {ls : List (List Int)} {t : Nat -> Int} {i : Nat} (hi : i < ls.length) : (RL ls t)[ls.length + i]? = some (if 0 < t i then [((lb ls i : Nat) : Int), ((la ls i : Nat) : Int), -(lw ls i), 0] else [((la ls i : Nat) : Int), ((lb ls i : Nat) : Int), lw ls i, 0]) := by
 unfold RL;rw [List.getElem?_append_right (by omega), show ls.length + i - ls.length = i by omega, List.getElem?_map, List.getElem?_range hi]; rfl
theorem rl_bck {ls : List (List Int)} {t : Nat -> Int} {i : Nat} (hi : i < ls.length) (ht : 0 < t i) : la (RL ls t) (ls.length + i) = lb ls i /\ lb (RL ls t) (ls.length + i) = la ls i /\ lw (RL ls t) (ls.length + i) = -(lw ls i) := by
 have h := rl_at (t := t) hi;rw [if_pos ht] at h;exact fld h
theorem rl_all {ls : List (List Int)} {t : Nat -> Int} {e : Nat} (he : e < (RL ls t).length) : ∃ i, i < ls.length /\ ((la (RL ls t) e = la ls i /\ lb (RL ls t) e = lb ls i /\ lw (RL ls t) e = lw ls i) ∨ (0 < t i /\ la (RL ls t) e = lb ls i /\ lb (RL ls t) e = la ls i /\ lw (RL ls t) e = -(lw ls i))) := by
 rw [rl_len] at he;by_cases q : e < ls.length
 ·exact ⟨e, q, .inl (app_fld q)⟩
 ·obtain ⟨i, rfl⟩ : ∃ i, e = ls.length + i := ⟨e - ls.length, by omega⟩
  refine ⟨i, by omega, ?_⟩;by_cases ht : 0 < t i
  ·exact .inr ⟨ht, rl_bck (by omega) ht⟩
  ·have h := rl_at (ls := ls) (t := t) (i := i) (by omega)
   rw [if_neg ht] at h;exact .inl (fld h)
theorem fwd_pth {ls : List (List Int)} {t : Nat -> Int} {i : Nat} (hi : i < ls.length) : Pth (RL ls t) (la ls i) [] (lb ls i) (lw ls i) := by
 have h := Pth.one (ls := RL ls t) (i := i) (by rw [rl_len]; omega);obtain ⟨e1, e2, e3⟩ := app_fld (ls := ls) (us := (List.range ls.length).map (fun i => if 0 < t i then [((lb ls i : Nat) : Int), ((la ls i : Nat) : Int), -(lw ls i), 0] else [((la ls i : Nat) : Int), ((lb ls i : Nat) : Int), lw ls i, 0])) hi;have e1 : la (RL ls t) i = la ls i := e1;have e2 : lb (RL ls t) i = lb ls i := e2;have e3 : lw (RL ls t) i = lw ls i := e3
 rwa [e1, e2, e3] at h
theorem bck_pth {ls : List (List Int)} {t : Nat -> Int} {i : Nat} (hi : i < ls.length) (ht : 0 < t i) : Pth (RL ls t) (lb ls i) [] (la ls i) (-(lw ls i)) := by
 have h := Pth.one (ls := RL ls t) (i := ls.length + i) (by rw [rl_len]; omega);obtain ⟨e1, e2, e3⟩ := rl_bck hi ht
 rwa [e1, e2, e3] at h
theorem walk_short {R : List (List Int)} {y : Nat -> Int} {N : Nat} (hy : ∀ i, i < R.length -> y (lb R i) <= y (la R i) + lw R i) (hN : ∀ {a L b w}, Pth R a L b w -> a < N /\ b < N /\ ∀ v ∈ L, v < N) {a b : Nat} {L : List Nat} {w : Int} (h : Pth R a L b w) : 0 <= w ∨ ∃ a' L' w', L'.length + 2 <= N /\ Pth R a' L' b w' /\ w' <= w := by
 obtain ⟨L1, w1, n1, h1, e1⟩ := h.short hy;obtain ⟨L2, w2, n2, h2, e2, a2⟩ : ∃ L2 w2, L2.Nodup /\ Pth R a L2 b w2 /\ w2 <= w1 /\ ¬ a ∈ L2 := by
  by_cases q : a ∈ L1
  ·obtain ⟨A, B, e⟩ := List.append_of_mem q
   subst e;obtain ⟨u1, u2, k1, k2, k3⟩ := h1.split;have k4 := k1.pot hy;have nd := List.nodup_cons.1 (List.nodup_append.1 n1).2.1;exact ⟨B, u2, nd.2, k2, by omega, nd.1⟩
  ·exact ⟨L1, w1, n1, h1, Int.le_refl _, q⟩
 obtain ⟨L3, w3, n3, h3, e3, a3, b3⟩ : ∃ L3 w3, L3.Nodup /\ Pth R a L3 b w3 /\ w3 <= w2 /\ (¬ a ∈ L3) /\ ¬ b ∈ L3 := by
  by_cases q : b ∈ L2
  ·obtain ⟨A, B, e⟩ := List.append_of_mem q
   subst e;obtain ⟨u1, u2, k1, k2, k3⟩ := h2.split;have k4 := k2.pot hy;have nd := List.nodup_append.1 n2;exact ⟨A, u1, nd.1, k1, by omega, fun z => a2 (List.mem_append_left _ z), fun z => nd.2.2 b z b (List.mem_cons_self ..) rfl⟩
  ·exact ⟨L2, w2, n2, h2, Int.le_refl _, a2, q⟩
 by_cases q : a = b
 ·subst q
  have := h3.pot hy;exact .inl (by omega)
 ·obtain ⟨t1, t2, t3⟩ := hN h3
  have nd : (a :: b :: L3).Nodup := List.nodup_cons.2 ⟨fun z => by
   rcases List.mem_cons.1 z with z | z
   ·exact q z
   ·exact a3 z, List.nodup_cons.2 ⟨b3, n3⟩⟩
  have := nodup_len (N := N) nd (fun v hv => by
   rcases List.mem_cons.1 hv with rfl | hv
   ·exact t1
   ·rcases List.mem_cons.1 hv with rfl | hv
    ·exact t2
    ·exact t3 v hv)
  exact .inr ⟨a, L3, w3, this, h3, by omega⟩
theorem le_walk {R : List (List Int)} {x : Nat -> Nat -> Int} (cov : ∀ r e, e < R.length -> x (r + 1) (lb R e) <= x r (la R e) + lw R e) {a b : Nat} {L : List Nat} {w : Int} (h : Pth R a L b w) : ∀ r, x (r + (L.length + 1)) b <= x r a + w := by
 induction h with
 | one hi => intro r; exact cov r _ hi
 | cons hi _ ih =>
  intro r;have h1 := ih (r + 1);have h2 := cov r _ hi;rw [List.length_cons, show ∀ k, r + (k + 1 + 1) = r + 1 + (k + 1) from fun k => by omega];omega
theorem settled {R : List (List Int)} {y : Nat -> Int} {M : Nat} {x : Nat -> Nat -> Int} (hy : ∀ i, i < R.length -> y (lb R i) <= y (la R i) + lw R i) (hN : ∀ {a L b w}, Pth R a L b w -> a < M + 1 /\ b < M + 1 /\ ∀ v ∈ L, v < M + 1)
 (h0 : ∀ v, x 0 v = 0) (mono : ∀ r v, v < M + 1 -> x (r + 1) v <= x r v) (cov : ∀ r e, e < R.length -> x (r + 1) (lb R e) <= x r (la R e) + lw R e) (att : ∀ r v, v < M + 1 -> x r v = 0 ∨ ∃ a L, Pth R a L v (x r v)) : ∀ v, v < M + 1 -> x (M + 1) v = x M v := fun v hv => by
 have down : ∀ d r, x (r + d) v <= x r v := by
  intro d
  induction d with
  | zero => intro r; exact Int.le_refl _
  | succ d ih => intro r; have := ih r; have := mono (r + d) v hv; rw [show r + (d + 1) = r + d + 1 by omega]; omega
 have hm := mono M v hv;have hz : x M v <= 0 := by have := down M 0; rw [h0, Nat.zero_add] at this; exact this
 rcases att (M + 1) v hv with q | ⟨a, L, h⟩
 ·omega
 ·rcases walk_short hy hN h with q | ⟨a', L', w', l1, l2, l3⟩
  ·omega
  ·have h1 := le_walk cov l2 0
   rw [h0, Nat.zero_add] at h1;have h2 := down (M - (L'.length + 1)) (L'.length + 1);rw [show L'.length + 1 + (M - (L'.length + 1)) = M by omega] at h2;omega
structure Fb where
 x : Nat -> Int
 c : Nat -> Cm
 l : Int
def upB (s : Fb) (v i : Nat) (bk : Bool) (to : Nat) (ms : Int) : Fb := if s.x v + ms < s.x to then ⟨Z2 s.x to (s.x v + ms), Z2 s.c to ⟨i, bk, (v : Int), to, ms⟩, (to : Int)⟩ else s
def rlB (ls : List (List Int)) (t : Nat -> Int) (s : Fb) (v i : Nat) : Fb := if lb ls i = v then (if t i = 0 then s else upB s v i true (la ls i) (-(lw ls i))) else upB s v i false (lb ls i) (lw ls i)
def rwB (ls : List (List Int)) (t : Nat -> Int) (s : Fb) (v : Nat) : Nat -> Fb
 | 0 => s
 | q + 1 => rlB ls t (rwB ls t s v q) v ((nl ls ls.length v).getD q 0).toNat
def lwB (ls : List (List Int)) (t : Nat -> Int) (s : Fb) : Nat -> Fb
 | 0 => s
 | v + 1 => rwB ls t (lwB ls t s v) v (nl ls ls.length v).length
def stB (ls : List (List Int)) (t : Nat -> Int) (N : Nat) : Nat -> Fb
 | 0 => ⟨fun _ => 0, fun _ => ⟨0, false, 0, 0, 0⟩, -1⟩
 | r + 1 => lwB ls t ⟨(stB ls t N r).x, (stB ls t N r).c, -1⟩ N
structure Rb (ls : List (List Int)) (t : Nat -> Int) (M : Nat) (x0 : Nat -> Int) (s : Fb) : Prop where
 le : ∀ v, v < M + 1 -> s.x v <= x0 v
 att : ∀ v, v < M + 1 -> s.x v = 0 ∨ ∃ a L, Pth (RL ls t) a L v (s.x v)
 ch : (s.l = -1 /\ ∀ v, v < M + 1 -> s.x v = x0 v) ∨ ∃ b : Nat, b < M + 1 /\ s.l = (b : Int) /\ s.x b < x0 b
theorem Rb.up {ls : List (List Int)} {t : Nat -> Int} {M : Nat} {x0 : Nat -> Int} {s : Fb} {v i to : Nat} {bk : Bool} {ms : Int} (h : Rb ls t M x0 s) (hv : v < M + 1) (hto : to < M + 1) (hp : Pth (RL ls t) v [] to ms) : Rb ls t M x0 (upB s v i bk to ms) /\ (upB s v i bk to ms).x to <= s.x v + ms /\ ∀ u, (upB s v i bk to ms).x u <= s.x u := by
 unfold upB;by_cases c : s.x v + ms < s.x to
 ·rw [if_pos c]
  have hle := h.le to hto;refine ⟨⟨fun u hu => ?_, fun u hu => ?_, .inr ⟨to, hto, rfl, ?_⟩⟩, ?_, fun u => ?_⟩
  ·show Z2 s.x to _ u <= _
   by_cases e : u = to
   ·subst e; rw [V2]; omega
   ·rw [Q1 e]; exact h.le u hu
  ·show Z2 s.x to _ u = 0 ∨ ∃ a L, Pth (RL ls t) a L u (Z2 s.x to _ u)
   by_cases e : u = to
   ·subst e
    rw [V2];rcases h.att v hv with q | ⟨a, L, q⟩
    ·rw [q, Int.zero_add]; exact .inr ⟨v, [], hp⟩
    ·exact .inr ⟨a, _, q.app hp⟩
   ·rw [Q1 e]; exact h.att u hu
  ·show Z2 s.x to _ to < _
   rw [V2]; omega
  ·show Z2 s.x to _ to <= _
   rw [V2]; exact Int.le_refl _
  ·show Z2 s.x to _ u <= _
   by_cases e : u = to
   ·subst e; rw [V2]; omega
   ·rw [Q1 e]; exact Int.le_refl _
 ·rw [if_neg c]
  exact ⟨h, by omega, fun u => Int.le_refl _⟩
def Cv (ls : List (List Int)) (t x0 x : Nat -> Int) (v i : Nat) : Prop := (la ls i = v -> x (lb ls i) <= x0 v + lw ls i) /\ (lb ls i = v -> 0 < t i -> x (la ls i) <= x0 v + -(lw ls i))
theorem Cv.mono {ls : List (List Int)} {t x0 x x' : Nat -> Int} {v i : Nat} (h : Cv ls t x0 x v i) (hx : ∀ u, x' u <= x u) : Cv ls t x0 x' v i := ⟨fun e => by have := h.1 e; have := hx (lb ls i); omega, fun e e2 => by have := h.2 e e2; have := hx (la ls i); omega⟩
theorem Rb.rl {ls : List (List Int)} {t : Nat -> Int} {M : Nat} {x0 : Nat -> Int} {s : Fb} {v i : Nat} (hg : Lg M ls) (hn : ∀ i, i < ls.length -> 0 <= t i) (h : Rb ls t M x0 s) (hv : v < M + 1) (hi : i < ls.length) (hnm : la ls i = v ∨ lb ls i = v) : Rb ls t M x0 (rlB ls t s v i) /\ Cv ls t x0 (rlB ls t s v i).x v i /\ ∀ u, (rlB ls t s v i).x u <= s.x u := by
 obtain ⟨g1, g2, g3, _⟩ := hg i hi;have hle := h.le v hv;unfold rlB;by_cases c : lb ls i = v
 ·rw [if_pos c]
  by_cases c2 : t i = 0
  ·rw [if_pos c2]
   exact ⟨h, ⟨fun e => absurd (e.trans c.symm) g3, fun _ e => by omega⟩, fun u => Int.le_refl _⟩
  ·rw [if_neg c2]
   have c3 := hn i hi;have hp := bck_pth (ls := ls) (t := t) hi (by omega);rw [c] at hp;obtain ⟨u1, u2, u3⟩ := h.up (i := i) (bk := true) hv g1 hp;exact ⟨u1, ⟨fun e => absurd (e.trans c.symm) g3, fun _ _ => by omega⟩, u3⟩
 ·rw [if_neg c]
  have ha := hnm.resolve_right c;have hp := fwd_pth (ls := ls) (t := t) hi;rw [ha] at hp;obtain ⟨u1, u2, u3⟩ := h.up (i := i) (bk := false) hv g2 hp;exact ⟨u1, ⟨fun _ => by omega, fun e => absurd e c⟩, u3⟩
theorem Rb.rw {ls : List (List Int)} {t : Nat -> Int} {M : Nat} {x0 : Nat -> Int} {s : Fb} {v : Nat} (hg : Lg M ls) (hn : ∀ i, i < ls.length -> 0 <= t i) (h : Rb ls t M x0 s) (hv : v < M + 1) : ∀ {q : Nat}, q <= (nl ls ls.length v).length -> Rb ls t M x0 (rwB ls t s v q) /\ (∀ j, j < q -> ∀ i : Nat, i < ls.length -> (nl ls ls.length v).getD j 0 = (i : Int) -> Cv ls t x0 (rwB ls t s v q).x v i) /\ ∀ u, (rwB ls t s v q).x u <= s.x u
 | 0, _ => ⟨h, fun j hj => absurd hj (Nat.not_lt_zero j), fun u => Int.le_refl _⟩
 | q + 1, hq => by
  obtain ⟨i1, i2, i3⟩ := Rb.rw hg hn h hv (q := q) (by omega);obtain ⟨i, hi, hil, hnm⟩ := nl_mem (ls := ls) (v := v) (k := ls.length) (q := q) (by omega);obtain ⟨j1, j2, j3⟩ := i1.rl hg hn hv hil ((nam_ab hg hil).1 hnm);show Rb ls t M x0 (rlB ls t (rwB ls t s v q) v ((nl ls ls.length v).getD q 0).toNat) /\ (∀ j, j < q + 1 -> ∀ i : Nat, i < ls.length -> (nl ls ls.length v).getD j 0 = (i : Int) -> Cv ls t x0 (rlB ls t (rwB ls t s v q) v ((nl ls ls.length v).getD q 0).toNat).x v i) /\ ∀ u, (rlB ls t (rwB ls t s v q) v ((nl ls ls.length v).getD q 0).toNat).x u <= s.x u;rw [hi, Int.toNat_natCast];refine ⟨j1, fun j hj i' hi' e' => ?_, fun u => by have := i3 u; have := j3 u; omega⟩;by_cases e : j = q
  ·subst e
   have : i' = i := by rw [hi] at e'; omega
   subst this;exact j2
  ·exact (i2 j (by omega) i' hi' e').mono j3
theorem Rb.lw {ls : List (List Int)} {t : Nat -> Int} {M : Nat} {x0 : Nat -> Int} {s : Fb} (hg : Lg M ls) (hn : ∀ i, i < ls.length -> 0 <= t i) (h : Rb ls t M x0 s) : ∀ {v : Nat}, v <= M + 1 -> Rb ls t M x0 (lwB ls t s v) /\ ∀ u, u < v -> ∀ i, i < ls.length -> Cv ls t x0 (lwB ls t s v).x u i
 | 0, _ => ⟨h, fun u hu => absurd hu (Nat.not_lt_zero u)⟩
 | v + 1, hv => by
  obtain ⟨i1, i2⟩ := Rb.lw hg hn h (v := v) (by omega);obtain ⟨j1, j2, j3⟩ := i1.rw hg hn (show v < M + 1 by omega) (Nat.le_refl _);refine ⟨j1, fun u hu i hi => ?_⟩;by_cases e : u = v
  ·subst e
   by_cases hnm : la ls i = u ∨ lb ls i = u
   ·obtain ⟨j, k1, k2⟩ := nl_has (ls := ls) (v := u) (i := i) ((nam_ab hg hi).2 hnm) (k := ls.length) hi
    exact j2 j k1 i hi k2
   ·exact ⟨fun q => absurd (.inl q) hnm, fun q => absurd (.inr q) hnm⟩
  ·exact (i2 u (by omega) i hi).mono j3
theorem Rb.st {ls : List (List Int)} {t : Nat -> Int} {M : Nat} (hg : Lg M ls) (hn : ∀ i, i < ls.length -> 0 <= t i) : ∀ {r : Nat}, (∀ v, v < M + 1 -> (stB ls t (M + 1) r).x v = 0 ∨ ∃ a L, Pth (RL ls t) a L v ((stB ls t (M + 1) r).x v)) /\ Rb ls t M (stB ls t (M + 1) r).x ⟨(stB ls t (M + 1) r).x, (stB ls t (M + 1) r).c, -1⟩
 | 0 => ⟨fun v _ => .inl rfl, fun v _ => Int.le_refl _, fun v _ => .inl rfl, .inl ⟨rfl, fun v _ => rfl⟩⟩
 | r + 1 => by
  obtain ⟨_, i2⟩ := Rb.st hg hn (r := r);obtain ⟨j1, _⟩ := i2.lw hg hn (Nat.le_refl (M + 1));exact ⟨j1.att, fun v _ => Int.le_refl _, j1.att, .inl ⟨rfl, fun v _ => rfl⟩⟩
theorem st_rnd {ls : List (List Int)} {t : Nat -> Int} {M r : Nat} (hg : Lg M ls) (hn : ∀ i, i < ls.length -> 0 <= t i) : Rb ls t M (stB ls t (M + 1) r).x (stB ls t (M + 1) (r + 1)) /\ ∀ u, u < M + 1 -> ∀ i, i < ls.length -> Cv ls t (stB ls t (M + 1) r).x (stB ls t (M + 1) (r + 1)).x u i :=
 (Rb.st hg hn (r := r)).2.lw hg hn (Nat.le_refl (M + 1))
theorem pth_lt {ls : List (List Int)} {t : Nat -> Int} {M : Nat} (hg : Lg M ls) {a b : Nat} {L : List Nat} {w : Int} (h : Pth (RL ls t) a L b w) : a < M + 1 /\ b < M + 1 /\ ∀ v ∈ L, v < M + 1 := by
 have key : ∀ e, e < (RL ls t).length -> la (RL ls t) e < M + 1 /\ lb (RL ls t) e < M + 1 := fun e he => by
  obtain ⟨i, hi, q⟩ := rl_all he;obtain ⟨g1, g2, _⟩ := hg i hi;rcases q with ⟨q1, q2, _⟩ | ⟨_, q1, q2, _⟩
  ·rw [q1, q2]; exact ⟨g1, g2⟩
  ·rw [q1, q2]; exact ⟨g2, g1⟩
 induction h with
 | one hi => exact ⟨(key _ hi).1, (key _ hi).2, fun v hv => absurd hv (List.not_mem_nil)⟩
 | cons hi _ ih =>
  refine ⟨(key _ hi).1, ih.2.1, fun v hv => ?_⟩;rcases List.mem_cons.1 hv with rfl | hv
  ·exact (key _ hi).2
  ·exact ih.2.2 v hv
theorem rl_pot {ls : List (List Int)} {t y : Nat -> Int} (hs : ∀ i, i < ls.length -> y (lb ls i) <= y (la ls i) + lw ls i) (ht : ∀ i, i < ls.length -> 0 < t i -> y (lb ls i) = y (la ls i) + lw ls i) : ∀ i, i < (RL ls t).length -> y (lb (RL ls t) i) <= y (la (RL ls t) i) + lw (RL ls t) i := fun e he => by
 obtain ⟨i, hi, q⟩ := rl_all he;rcases q with ⟨q1, q2, q3⟩ | ⟨q0, q1, q2, q3⟩
 ·rw [q1, q2, q3]; exact hs i hi
 ·rw [q1, q2, q3]; have := ht i hi q0; omega
theorem stb_end {ls : List (List Int)} {t y : Nat -> Int} {M : Nat} (hg : Lg M ls) (hn : ∀ i, i < ls.length -> 0 <= t i) (hs : ∀ i, i < ls.length -> y (lb ls i) <= y (la ls i) + lw ls i) (ht : ∀ i, i < ls.length -> 0 < t i -> y (lb ls i) = y (la ls i) + lw ls i) : (stB ls t (M + 1) (M + 1)).l = -1 := by
 have hx := settled (R := RL ls t) (y := y) (M := M) (x := fun r => (stB ls t (M + 1) r).x) (rl_pot hs ht) (fun h => pth_lt hg h) (fun v => rfl) (fun r v hv => (st_rnd hg hn (r := r)).1.le v hv) (fun r e he => by
  obtain ⟨i, hi, q⟩ := rl_all he;obtain ⟨g1, g2, _⟩ := hg i hi;rcases q with ⟨q1, q2, q3⟩ | ⟨q0, q1, q2, q3⟩
  ·rw [q1, q2, q3]; exact ((st_rnd hg hn (r := r)).2 _ g1 i hi).1 rfl
  ·rw [q1, q2, q3]; exact ((st_rnd hg hn (r := r)).2 _ g2 i hi).2 rfl q0) (fun r v hv => (Rb.st hg hn (r := r)).1 v hv)
 rcases (st_rnd hg hn (r := M)).1.ch with q | ⟨b, b1, b2, b3⟩
 ·exact q.1
 ·have := hx b b1
  have h2 : (stB ls t (M + 1) (M + 1)).x b = (stB ls t (M + 1) M).x b := this;omega
theorem stb_tell {ls : List (List Int)} {t y : Nat -> Int} {M r : Nat} (hg : Lg M ls) (hn : ∀ i, i < ls.length -> 0 <= t i) (hl : (stB ls t (M + 1) (r + 1)).l = -1) : ∀ i, i < ls.length -> (stB ls t (M + 1) (r + 1)).x (lb ls i) <= (stB ls t (M + 1) (r + 1)).x (la ls i) + lw ls i /\ (0 < t i -> (stB ls t (M + 1) (r + 1)).x (lb ls i) = (stB ls t (M + 1) (r + 1)).x (la ls i) + lw ls i) := fun i hi => by
 obtain ⟨h1, h2⟩ := st_rnd hg hn (r := r);obtain ⟨g1, g2, _⟩ := hg i hi;have e : ∀ v, v < M + 1 -> (stB ls t (M + 1) (r + 1)).x v = (stB ls t (M + 1) r).x v := by
  rcases h1.ch with q | ⟨b, b1, b2, b3⟩
  ·exact q.2
  ·rw [hl] at b2; omega
 have a1 := (h2 _ g1 i hi).1 rfl;have a2 := (h2 _ g2 i hi).2 rfl;have e1 := e _ g1;have e2 := e _ g2;refine ⟨by omega, fun h0 => ?_⟩;have := a2 h0;omega
section
variable {X : FuncId -> List Value -> St -> (Value -> St -> Bool) -> Bool}
end
theorem cvs_cml {c : Nat -> Nat × Nat × Nat × Int} : ∀ {N : Nat}, cvs c N = cml (fun j => ⟨(c j).1, false, ((c j).2.1 : Int), (c j).2.2.1, (c j).2.2.2⟩) N
 | 0 => rfl
 | n + 1 => by
  show cvs c n ++ cell (c n) = _;rw [cvs_cml, <- cml_app]; rfl
theorem rep_cml {N : Nat} : repeatN [.int .i64 0, .bool false, .int .i64 0, .int .i64 0, .int .i64 0] N = cml (fun _ => ⟨0, false, 0, 0, 0⟩) N := by
 rw [cvs_zero, cvs_cml]; rfl
theorem rwb_skip {ls : List (List Int)} {t : Nat -> Int} {s : Fb} {v q i : Nat} (hi : (nl ls ls.length v).getD q 0 = (i : Int)) (hb : lb ls i = v) (ht : t i = 0) : rwB ls t s v (q + 1) = rwB ls t s v q := by
 show rlB ls t _ v ((nl ls ls.length v).getD q 0).toNat = _;rw [hi, Int.toNat_natCast];unfold rlB;rw [if_pos hb, if_pos ht]
theorem rwb_back {ls : List (List Int)} {t : Nat -> Int} {s : Fb} {v q i : Nat} (hi : (nl ls ls.length v).getD q 0 = (i : Int)) (hb : lb ls i = v) (ht : ¬ t i = 0) : rwB ls t s v (q + 1) = upB (rwB ls t s v q) v i true (la ls i) (-(lw ls i)) := by
 show rlB ls t _ v ((nl ls ls.length v).getD q 0).toNat = _;rw [hi, Int.toNat_natCast];unfold rlB;rw [if_pos hb, if_neg ht]
theorem rwb_fwd {ls : List (List Int)} {t : Nat -> Int} {s : Fb} {v q i : Nat} (hi : (nl ls ls.length v).getD q 0 = (i : Int)) (hb : ¬ lb ls i = v) : rwB ls t s v (q + 1) = upB (rwB ls t s v q) v i false (lb ls i) (lw ls i) := by
 show rlB ls t _ v ((nl ls ls.length v).getD q 0).toNat = _;rw [hi, Int.toNat_natCast];unfold rlB;rw [if_neg hb]
theorem ub_yes {s : Fb} {v i to : Nat} {bk : Bool} {ms : Int} (h : s.x v + ms < s.x to) : (⟨Z2 s.x to (s.x v + ms), Z2 s.c to ⟨i, bk, (v : Int), to, ms⟩, (to : Int)⟩ : Fb) = upB s v i bk to ms := (if_pos h).symm
theorem ub_no {s : Fb} {v i to : Nat} {bk : Bool} {ms : Int} (h : ¬ s.x v + ms < s.x to) : s = upB s v i bk to ms := (if_neg h).symm
theorem pth_low {ls : List (List Int)} {t : Nat -> Int} (hw : ∀ i, i < ls.length -> -20000 <= lw ls i /\ lw ls i <= 20000) {a b : Nat} {L : List Nat} {w : Int} (h : Pth (RL ls t) a L b w) : -20000 * ((L.length : Int) + 1) <= w := by
 have key : ∀ e, e < (RL ls t).length -> -20000 <= lw (RL ls t) e := fun e he => by
  obtain ⟨i, hi, q⟩ := rl_all he;have := hw i hi;rcases q with ⟨_, _, q3⟩ | ⟨_, _, _, q3⟩ <;> omega
 induction h with
 | one hi => have := key _ hi; show -20000 * (((0 : Nat) : Int) + 1) <= _; omega
 | cons hi _ ih => have := key _ hi; rw [List.length_cons]; omega
theorem rb_bd {ls : List (List Int)} {t y x0 : Nat -> Int} {M : Nat} {s : Fb} (h : Rb ls t M x0 s) (hg : Lg M ls) (h0 : ∀ v, v < M + 1 -> x0 v <= 0) (hy : ∀ i, i < (RL ls t).length -> y (lb (RL ls t) i) <= y (la (RL ls t) i) + lw (RL ls t) i) (hw : ∀ i, i < ls.length -> -20000 <= lw ls i /\ lw ls i <= 20000) (hM : M <= 64) : ∀ v, v < M + 1 -> -1280000 <= s.x v /\ s.x v <= 0 := fun v hv => by
 have h1 := h.le v hv;have h2 := h0 v hv;refine ⟨?_, by omega⟩;rcases h.att v hv with q | ⟨a, L, q⟩
 ·omega
 ·rcases walk_short (N := M + 1) hy (fun h => pth_lt hg h) q with z | ⟨a', L', w', l1, l2, l3⟩
  ·omega
  ·have := pth_low hw l2
   omega
theorem stb_neg {ls : List (List Int)} {t : Nat -> Int} {M : Nat} (hg : Lg M ls) (hn : ∀ i, i < ls.length -> 0 <= t i) : ∀ {r : Nat}, ∀ v, v < M + 1 -> (stB ls t (M + 1) r).x v <= 0
 | 0, v, _ => Int.le_refl _
 | r + 1, v, hv => by
  have h1 := stb_neg hg hn (r := r) v hv;have h2 := (st_rnd hg hn (r := r)).1.le v hv;omega
theorem best_fin {ls : List (List Int)} {M r : Nat} {w t p : Nat -> Int} {x : List Int} {k : Nat} (hg : Lg M ls) (h : Opt ls (M + 1) w t p) (hb : ∀ v, v < M + 1 -> -1280000 <= (stB ls t (M + 1) (r + 1)).x v /\ (stB ls t (M + 1) (r + 1)).x v <= 0) (hl : (stB ls t (M + 1) (r + 1)).l = -1) (hm : Mvd (xs (stB ls t (M + 1) (r + 1)).x (M + 1)) x (-((stB ls t (M + 1) (r + 1)).x 0)) (xs (stB ls t (M + 1) (r + 1)).x (M + 1)).length) : x.length = M + 1 /\ x.getD 0 0 = 0 /\ Opt ls (M + 1) w t (fun v => x.getD v 0) /\ ∀ v, v < M + 1 -> -1280000 <= x.getD v 0 /\ x.getD v 0 <= 1280000 := by
 obtain ⟨m1, m2⟩ := hm;rw [W4] at m1 m2;have at' : ∀ v, v < M + 1 -> x.getD v 0 = (stB ls t (M + 1) (r + 1)).x v + -((stB ls t (M + 1) (r + 1)).x 0) := fun v hv => by
  have := m2 v hv
  rwa [V4 hv] at this
 have ht := stb_tell hg h.nn hl (y := p);refine ⟨m1, by rw [at' 0 (by omega)]; omega, ⟨h.nn, h.nt, fun i hi => ?_, fun i hi h0 => ?_⟩, fun v hv => by have := at' v hv; have := hb v hv; have := hb 0 (by omega); omega⟩
 ·obtain ⟨g1, g2, _⟩ := hg i hi
  have e1 := at' _ g1;have e2 := at' _ g2;have := (ht i hi).1;show x.getD _ 0 <= x.getD _ 0 + _;omega
 ·obtain ⟨g1, g2, _⟩ := hg i hi
  have e1 := at' _ g1;have e2 := at' _ g2;have := (ht i hi).2 h0;show x.getD _ 0 = x.getD _ 0 + _;omega
section
variable {X : FuncId -> List Value -> St -> (Value -> St -> Bool) -> Bool}
set_option maxHeartbeats 1000000 in
set_option maxRecDepth 100000 in
theorem Best_s (n : Nat) (m : Int) (al : Option Addr) (cl : Nat) (ls : List (List Int)) (aw : Option Addr) (cw : Nat) (w : List Int) (s : St) (hs : Wf s) (hn : 7318349394477056 <= n) (hL : RowsE s 4 al ls) (hcl : al = none -> cl = 0) (hW : IntsE s aw w) (hCap : CapOk s aw w.length cw) : Spec Tryz.prog (tabK tabw) X (n + 10500) 11 [.agg ⟨[.int .i64 m, .slice al ls.length cl]⟩, .slice aw w.length cw] s (fun v A => (¬ sysE m ls = 0 /\ v = .tuple #[.slice none 0 0, .int .i64 (sysE m ls)] /\ A = []) ∨ (sysE m ls = 0 /\ ¬ ((w.length : Int) = m + 1 /\ WOk w w.length) /\ v = .tuple #[.slice none 0 0, .int .i64 27] /\ A = []) ∨ (sysE m ls = 0 /\ ((w.length : Int) = m + 1 /\ WOk w w.length) /\ Uns ls (m.toNat + 1) /\ v = .tuple #[.slice none 0 0, .int .i64 23] /\ A = []) ∨ (sysE m ls = 0 /\ ((w.length : Int) = m + 1 /\ WOk w w.length) /\ ¬ Uns ls (m.toNat + 1) /\ Opn ls (m.toNat + 1) (du0 w m.toNat) /\ v = .tuple #[.slice none 0 0, .int .i64 22] /\ A = []) ∨ (sysE m ls = 0 /\ ((w.length : Int) = m + 1 /\ WOk w w.length) /\ ¬ Uns ls (m.toNat + 1) /\ ∃ t b x, Opt ls (m.toNat + 1) (du0 w m.toNat) t (fun v => x.getD v 0) /\ tot t ls.length <= 230400000000000 /\ x.length = m.toNat + 1 /\ x.getD 0 0 = 0 /\ (∀ v, v < m.toNat + 1 -> -1280000 <= x.getD v 0 /\ x.getD v 0 <= 1280000) /\ v = .tuple #[.slice (some ⟨b, 0, none⟩) (m.toNat + 1) (m.toNat + 1), .int .i64 0] /\ A = [.row b 3 false (ints x)])) := by
 refine enter bw11_at rfl hs ?_;unfold bw11;have hlen := hL.len;have hlenW := hW.len;refine rS (kO J (a_box J J J (fun b1 => (kM J J (kM J J (Q0 (rS (kO J (U5 J (by decide) .here rfl (kM J J (kO J (Y5 J J (fun s1 h1 => solve_s _ m al cl ls aw cw w s1 h1.wf (by omega) (hL.ext hs h1.2.1) hcl (hW.ext hs h1.2.1) (hCap.ext hs h1.2.1)) (fun v1 A1 q1 => ?_)))))))))))));rcases q1 with ⟨hsx, rfl, rfl⟩ | ⟨hsys, hww, rfl, rfl⟩ | ⟨hsys, hww, hun, rfl, rfl⟩ | ⟨hsys, hww, hnu, hop, rfl, rfl⟩ | ⟨hsys, hww, hnu, q1⟩
 ·have hsx9 := hsx
  refine kM J J (kO J (W2 J J (kO J (W2 J J (kM J J (kM J J (Q0 (rQ (rS (kM J J (kO J (Z4 J J (fun h5 => ?_) (fun h5 => ?_)))))))))))))
  ·refine Q0 (Y0 J (rS (kM J J (kM J J (kM J J (Q0 (Z3 (V3 ?_))))))))
   exact end2 J J (.inl ⟨hsx, rfl, rfl⟩)
  ·exfalso; omega
 ·have hww9 := hww
  refine kM J J (kO J (W2 J J (kO J (W2 J J (kM J J (kM J J (Q0 (rQ (rS (kM J J (kO J (Z4 J J (fun _ => (Q0 (Y0 J (rS (kM J J (kM J J (kM J J (Q0 (Z3 (V3 ?_)))))))))) (fun h => absurd h (by decide))))))))))))));exact end2 J J (.inr (.inl ⟨hsys, hww, rfl, rfl⟩))
 ·have hun9 := hun
  refine kM J J (kO J (W2 J J (kO J (W2 J J (kM J J (kM J J (Q0 (rQ (rS (kM J J (kO J (Z4 J J (fun _ => (Q0 (Y0 J (rS (kM J J (kM J J (kM J J (Q0 (Z3 (V3 ?_)))))))))) (fun h => absurd h (by decide))))))))))))));exact end2 J J (.inr (.inr (.inl ⟨hsys, hww, hun, rfl, rfl⟩)))
 ·have hop9 := hop
  refine kM J J (kO J (W2 J J (kO J (W2 J J (kM J J (kM J J (Q0 (rQ (rS (kM J J (kO J (Z4 J J (fun _ => (Q0 (Y0 J (rS (kM J J (kM J J (kM J J (Q0 (Z3 (V3 ?_)))))))))) (fun h => absurd h (by decide))))))))))))));exact end2 J J (.inr (.inr (.inr (.inl ⟨hsys, hww, hnu, hop, rfl, rfl⟩))))
 ·obtain ⟨hm0, hM, h400, hlm⟩ := sysE_ok hsys
  obtain ⟨M, rfl⟩ : ∃ q : Nat, m = (q : Int) := ⟨m.toNat, by omega⟩;obtain ⟨t, p, hOp, htb, hts, hpb, bf2, bt3, bn4, O, B, rfl, rfl, hO⟩ := q1;rw [Int.toNat_natCast, List.append_assoc, List.cons_append, List.cons_append, List.cons_append, List.nil_append];have hMM := hM;change Opt ls (M + 1) (du0 w M) t p at hOp;change ∀ v, v < M + 1 -> _ at hpb;have hwl : w.length = M + 1 := by omega
  have hLgs := lg_of hlm;have hpot := rl_pot (t := t) hOp.st hOp.ti;have hlw : ∀ i, i < ls.length -> -20000 <= lw ls i /\ lw ls i <= 20000 := fun i hi => lw_bd' hlm hi
  refine kM J J (kO J (W2 J J (kO J (W2 J J (kM J J (kM J J (Q0 (rQ (rS (kM J J (kO J (Z4 J J (fun h => absurd h (by decide)) (fun _ => (Q0 (U0 J (W1 (W0 (rS (kM J J (kG J J (a_inl J J bw43_at rfl ?_)))))))))))))))))))));unfold bw43;refine rS (kM J J (Q0 (rS (kM J J (kG J J (a_inl J J bw80_at rfl ?_))))));unfold bw80;refine rS (kM J J (kM J J (Q0 (rS (kM J J (kO J (Q5 J (kO J (U2 J (kO J (U2 J (kO J (U1 J (.app .here) J (kO J (Q4 J J (by omega) (kO J (a_mksI (m := M + 1) (c := M + 1) J J (by omega) (by omega) (by omega) (fun b10 => (kM J J (kO J (Q5 J (kO J (U2 J (kO J (U2 J (kO J (U1 J (.next (.app .here)) J (kO J (Q4 J J (by omega) (kO J (a_mks5 (m := M + 1) (c := M + 1) J J (by omega) (by omega) (by omega) rep5 (fun b11 => (kM J J (kM J J (Q0 (rS (kM J J ?_)))))))))))))))))))))))))))))))))))));refine Q0 (rQ (rS (kM J J (kO J (Q5 J (kO J (U2 J (kO J (U2 J (kO J (U1 J (.next (.next (.app .here))) J (kO J (Q4 J J (by omega) (kM J J (Q0 (Z1 ?_))))))))))))))));rw [rep_xs0 (n := M + 1), rep_cml];refine Z5 (fun j e A => ∃ (r : Nat), e = [(0, .pointer (some ⟨bf2, 0, none⟩)), (4, .slice (some ⟨b10, 0, none⟩) (M + 1) (M + 1)), (5, .slice (some ⟨b11, 0, none⟩) (M + 1) (M + 1)), (6, .int .i64 (stB ls t (M + 1) r).l), (26, .int .i64 ((M : Int) + 1)), (27, .int .i64 (r : Int))] /\ A = (.row b11 134 false (cml (stB ls t (M + 1) r).c (M + 1)) :: (.row b10 3 false (ints (xs (stB ls t (M + 1) r).x (M + 1))) :: (nobj B (nl ls ls.length) O ++ (.row bf2 104 false ([.int .i64 (M : Int), .slice al ls.length cl, .slice (some ⟨bt3, 0, none⟩) ls.length ls.length, .slice (some ⟨bn4, 0, none⟩) (M + 1) (M + 1)]) :: (.row bn4 25 false (nsl B (nl ls ls.length) (M + 1)) :: (.row bt3 3 false (ints (xs t ls.length)) :: [])))))) /\ j = M + 1 - r /\ r <= M + 1 /\ ∀ k, k < r -> ¬ (stB ls t (M + 1) (k + 1)).l = -1) 2000 1125899906842624 281474976710656 ?_ (j := _) (env2 := _) (A2 := _) ?_ ?_ ?_ ?_ ⟨0, rfl, rfl, rfl, Nat.zero_le _, (fun k hk => absurd hk (Nat.not_lt_zero k))⟩
  rotate_left
  ·omega
  ·omega
  ·exact (lc 0 J (lc 4 J (lc 5 J (lc 6 J (lc 26 J (lc 27 J Less.nil))))))
  ·exact (.q (.q (.r (.q (.q (.q (.cons _ .slnil)))))))
  rintro n hn j _ _ ⟨r, rfl, rfl, rfl, hr, hne⟩;have hRs := (Rb.st hLgs hOp.nn (r := r)).2;have hx0 := stb_neg hLgs hOp.nn (r := r);refine rS (kO J (Q6 J J (fun h12 => ?_) (fun h12 => ?_)))
  ·refine Q0 (rQ (Y0 J (W1 (W0 (rQ (Z1 (rS (kM J J (kM J J (kM J J (kG J J (a_inl J J bw103_at rfl ?_))))))))))))
   unfold bw103;refine rS (kO J (a_box J J J (fun b13 => (kO J (a_box J J J (fun b14 => (kM J J (Q0 (rS (kO J (a_new J J (fun b15 => (kZ J (a_st J J .here rfl rfl (Q0 (rQ (rS (kM J J (kO J (Q5 J (kO J (U2 J (kO J (U2 J (kO J (U1 J (.next (.next (.next (.next (.next (.app .here)))))) J (kO J (Q4 J J (by omega) (kM J J (Q0 (Z1 ?_)))))))))))))))))))))))))))))));refine r_loopD (fun j e D A => ∃ (v : Nat) (qs : List Nat), qs = D /\ e = [(0, .pointer (some ⟨bf2, 0, none⟩)), (4, .pointer (some ⟨b13, 0, none⟩)), (5, .pointer (some ⟨b14, 0, none⟩)), (7, .pointer (some ⟨b15, 0, none⟩)), (16, .int .i64 ((M : Int) + 1)), (17, .int .i64 (v : Int))] /\ A = (qs.map Ob.dfr ++ (.row b15 3 false ([.int .i64 (lwB ls t ⟨(stB ls t (M + 1) r).x, (stB ls t (M + 1) r).c, -1⟩ v).l]) :: (.row b14 113 false ([.slice (some ⟨b11, 0, none⟩) (M + 1) (M + 1)]) :: (.row b13 25 false ([.slice (some ⟨b10, 0, none⟩) (M + 1) (M + 1)]) :: (.row b11 134 false (cml (lwB ls t ⟨(stB ls t (M + 1) r).x, (stB ls t (M + 1) r).c, -1⟩ v).c (M + 1)) :: (.row b10 3 false (ints (xs (lwB ls t ⟨(stB ls t (M + 1) r).x, (stB ls t (M + 1) r).c, -1⟩ v).x (M + 1))) :: (nobj B (nl ls ls.length) O ++ (.row bf2 104 false ([.int .i64 (M : Int), .slice al ls.length cl, .slice (some ⟨bt3, 0, none⟩) ls.length ls.length, .slice (some ⟨bn4, 0, none⟩) (M + 1) (M + 1)]) :: (.row bn4 25 false (nsl B (nl ls ls.length) (M + 1)) :: (.row bt3 3 false (ints (xs t ls.length)) :: [])))))))))) /\ j = M + 1 - v /\ v <= M + 1) 1200 562949953421312 281474976710656 ?_ (j := _) (env2 := _) (A2 := _) ?_ ?_ ?_ ?_ ⟨0, [], rfl, rfl, rfl, rfl, Nat.zero_le _⟩
   rotate_left
   ·omega
   ·omega
   ·exact (lc 0 J (lc 4 J (lc 5 J (lc 7 J (lc 16 J (lc 17 J Less.nil))))))
   ·exact (.q (.q (.q (.q (.q (.r (.q (.q (.q .slnil)))))))))
   rintro n hn j _ _ _ ⟨v, qs, rfl, rfl, rfl, rfl, hv⟩;have hnl9 := nl_le (ls := ls) ls.length v;have hRv := (hRs.lw hLgs hOp.nn hv).1;have hbv := rb_bd hRv hLgs hx0 hpot hlw (by omega);refine rS (kO J (Q6 J J (fun h16 => ?_) (fun h16 => ?_)))
   ·refine Q0 (rQ (Y0 J (W1 (W0 (rQ (Z1 (rS (kM J J (kO J (a_new J J (fun b17 => (kZ J (a_st J J .here rfl rfl (Q0 (rQ (rS (kO J (U1 J (.next (.app (.next (.next .here)))) J (kO J (U1 J .here rfl (kO J (Y4 (j := v) J J (by omega) (by omega) (kO J (V5 (x := ((lwB ls t ⟨(stB ls t (M + 1) r).x, (stB ls t (M + 1) r).c, -1⟩ v).x) (v)) J (.next (.app (.next (.next (.next (.next .here)))))) (by rw [W4]; omega) (V4 (by omega)) (kO J (a_eql J J (fun h18 => ?_) (fun h18 => ?_)))))))))))))))))))))))))))
    ·exfalso; have := hbv v (by omega); omega
    ·refine Q0 (U0 J (W1 (W0 (rS (kM J J (kO J (U1 J .here rfl (kG J J (a_inl J J bw117_at rfl ?_)))))))))
     unfold bw117;refine rS (kO J (a_box J J J (fun b19 => (kO J (a_box J J J (fun b20 => (kM J J (Q0 (rS (kO J (a_fn J J (kM J J (Q0 (Z3 (endD1 J .nil (Q0 (Z1 (r_rangeV J bw134_at rfl (fun q21 l22 LO23 BO24 hLO23 hBO24 => ?_)))))))))))))))))));unfold bw134;refine rS (kO J (U1 J (.next (.next (.next .here))) J (kO J (Q5 J (kO J (U2 J (kO J (U1 J (.next (.next (.next (.next (.next (.app (.next (.next (.next (.next (.next (.app .here)))))))))))) J (kO J (U1 J (.next (.next .here)) J (kO J (Y4 (j := v) J J (by omega) (by omega) (kO J (U1 J (.next (.next (.next (.next (.next (.app (.next (.next (.next (.next (.next (.app (.next .here))))))))))))) (nsl_get (by omega)) (kO J (a_lenN J (kM J J (Q0 (Z1 ?_)))))))))))))))))));refine Z5 (fun j e A => ∃ (q : Nat), e = [(0, .func (.yield l22) ⟨[]⟩ ⟨[]⟩), (1, .pointer (some ⟨b19, 0, none⟩)), (2, .pointer (some ⟨b20, 0, none⟩)), (14, nsv B (nl ls ls.length) v), (15, .int .i64 ((nl ls ls.length v).length : Int)), (16, .int .i64 (q : Int))] /\ A = (LO23 :: (.dfr q21 :: (.row b20 3 false ([.int .i64 (v : Int)]) :: (.row b19 59 false ([.pointer (some ⟨bf2, 0, none⟩)]) :: (.row b17 3 false ([.int .i64 (v : Int)]) :: (qs.map Ob.dfr ++ (.row b15 3 false ([.int .i64 (rwB ls t (lwB ls t ⟨(stB ls t (M + 1) r).x, (stB ls t (M + 1) r).c, -1⟩ v) v q).l]) :: (.row b14 113 false ([.slice (some ⟨b11, 0, none⟩) (M + 1) (M + 1)]) :: (.row b13 25 false ([.slice (some ⟨b10, 0, none⟩) (M + 1) (M + 1)]) :: (.row b11 134 false (cml (rwB ls t (lwB ls t ⟨(stB ls t (M + 1) r).x, (stB ls t (M + 1) r).c, -1⟩ v) v q).c (M + 1)) :: (.row b10 3 false (ints (xs (rwB ls t (lwB ls t ⟨(stB ls t (M + 1) r).x, (stB ls t (M + 1) r).c, -1⟩ v) v q).x (M + 1))) :: (nobj B (nl ls ls.length) O ++ (.row bf2 104 false ([.int .i64 (M : Int), .slice al ls.length cl, .slice (some ⟨bt3, 0, none⟩) ls.length ls.length, .slice (some ⟨bn4, 0, none⟩) (M + 1) (M + 1)]) :: (.row bn4 25 false (nsl B (nl ls ls.length) (M + 1)) :: (.row bt3 3 false (ints (xs t ls.length)) :: []))))))))))))))) /\ j = (nl ls ls.length v).length - q /\ q <= (nl ls ls.length v).length) 800 281474976710656 281474976710656 ?_ (j := _) (env2 := _) (A2 := _) ?_ ?_ ?_ ?_ ⟨0, rfl, rfl, rfl, Nat.zero_le _⟩
     rotate_left
     ·omega
     ·omega
     ·exact (lc 0 J (lc 1 J (lc 2 J (lc 14 J (lc 15 J (lc 16 J Less.nil))))))
     ·exact (.q (.q (.q (.q (.q (.r (.q (.q (.q (.q (.q (.r (.q (.q (.q .slnil)))))))))))))))
     rintro n hn j _ _ ⟨q, rfl, rfl, rfl, hq⟩;have hRq := (hRv.rw hLgs hOp.nn (show v < M + 1 by omega) hq).1;have hbq := rb_bd hRq hLgs hx0 hpot hlw (by omega);refine rS (kO J (Q6 J J (fun h25 => ?_) (fun h25 => ?_)))
     ·have hq9 : q < (nl ls ls.length v).length := by omega
      obtain ⟨li, hi0, hil, hnam⟩ := nl_mem hq9;obtain ⟨q4, o4, y0, y1, y2, y3, ahL, hx, hat, i0, i1, i2, i3⟩ := hL.row4 (k := li) (by omega);have hat2 := hat;obtain ⟨d0, d1, d2, d3, _⟩ := hat2;have := i0.lo; have := i0.hi;have := i1.lo; have := i1.hi;have := i2.lo; have := i2.hi;have := i3.lo; have := i3.hi;have hc4 := lmB_at hlm hx;have hnm := nam_of hnam hx;obtain ⟨u0, rfl⟩ : ∃ q : Nat, y0 = (q : Int) := ⟨y0.toNat, by omega⟩;obtain ⟨u1, rfl⟩ : ∃ q : Nat, y1 = (q : Int) := ⟨y1.toNat, by omega⟩;obtain ⟨fl1, fl2, fl3⟩ := fld hx;subst fl1 fl2 fl3;obtain ⟨hg1, hg2, hg3, hg4, hg5, y9, hx9⟩ := hLgs li hil;have := hbq _ hg1;have := hbq _ hg2;have := hbq v (by omega);refine Q0 (rQ (Y0 J (W1 (W0 (rQ (Z1 (rS (kO J (a_iaN (j := q) J J (by omega) (by omega) (kO J (V5 (x := (li : Int)) J (.next (.next (.next (.next (.next (.app (.next (.next (.next (.next (.next (own_nobj ((hO.2 _ (by omega)).2 (fun e => by rw [e] at hq9; exact absurd hq9 (Nat.not_lt_zero _))))))))))))))) (by omega) hi0 (kM J J (Q0 (rS (kO J (U1 J (.next (.next (.next .here))) J (kO J (Q5 J (kO J (U2 J (kO J (U2 J (kO J (U1 J (.next (.next (.next (.next (.next (.app (.next (.next (.next (.next (.next (.app .here)))))))))))) J (kM J J (kO J (a_iaA (j := li) ahL rfl rfl (by first | rfl | omega) (by first | decide | omega) (kO J (a_ldar J (by decide) (by assumption) J (kO J (a_new J J (fun b26 => (kZ J (Q7 J J .here rfl rfl rfl rfl (Q0 ?_)))))))))))))))))))))))))))))))))));refine rS (kM J J (kO J (U1 J (.next (.next (.next .here))) J (kO J (U2 J (kO J (U1 J .here rfl (kO J (U2 J (kO J (U1 J .here rfl (kO J (Z7 J J (kO J (a_new J J (fun b27 => (kZ J (Q7 J J .here rfl rfl rfl rfl (Q0 (rQ (rS (kO J (U2 J (kO J (U1 J (.next .here) J (kO J (U1 J (.next (.next (.next (.next .here)))) J (kO J (a_eql J J (fun h28 => ?_) (fun h28 => ?_))))))))))))))))))))))))))))))
      ·have hb9 : lb ls li = v := by omega
       refine Q0 (Y0 J (rI (kM J J (kO J (U1 J (.next (.next (.next (.next .here)))) J (kO J (U2 J (kO J (U1 J (.next .here) J (kO J (U2 J (kO J (U1 J (.next .here) J (kO J (a_neg J (by omega) (kO J (Z7 J J (kZ J (Q7 J J .here rfl rfl rfl rfl (Q0 (W0 (rQ (rS (kO J (U2 J (kO J (U1 J .here rfl (kM J J (kG J J (U1 J (.next (.next (.next (.next (.next .here))))) J (kG J J (Q5 J (kG J J (U2 J (kG J J (U1 J (.next (.next (.next (.next (.next (.next (.next (.app (.next (.next (.next (.next (.next (.app .here)))))))))))))) J (kG J J (Y3 J ?_))))))))))))))))))))))))))))))))))))));refine kG J J (Y4 (j := li) J J (by omega) (by omega) (kG J J (V5 (x := (t) (li)) J (.next (.next (.next (.next (.next (.next (.next (.app (.next (.next (.next (.next (.next (.app (.next (.next .here)))))))))))))))) (by rw [W4]; omega) (V4 (by omega)) (kG J J (a_eql J J (fun h29 => ?_) (fun h29 => ?_))))))
       ·have hz9 : t li = 0 := h29
        refine kO J (Q3 J J J (Q0 (Y0 J (W5 (W3 (U3 (W0 (rI (kO J (Q4 J J (by omega) (kM J J (Q0 (W0 ?_)))))))))))));exact ⟨rfl, _, _, _, (show (nl ls ls.length v).length - (q + 1) < (nl ls ls.length v).length - q by omega), (lc 0 J (lc 1 J (lc 2 J (lc 14 J (lc 15 J (lc 16 J Less.nil)))))), (.cons _ (.cons _ (.q (.q (.q (.q (.q (.r (.q (.q (.q (.q (.q (.r (.q (.q (.q .slnil))))))))))))))))), ⟨q + 1, rfl, (by first | (rw [rwb_skip hi0 hb9 hz9]; first | done | rfl) | (rw [rwb_back hi0 hb9 hz9, <- ub_yes hls9]; first | done | rfl) | (rw [rwb_back hi0 hb9 hz9, <- ub_no hls9]; first | done | rfl) | (rw [rwb_fwd hi0 hb9, <- ub_yes hls9]; first | done | rfl) | (rw [rwb_fwd hi0 hb9, <- ub_no hls9]; first | done | rfl)), rfl, by omega⟩⟩
       ·have hz9 : ¬ t li = 0 := h29
        refine kO J (Q3 J J J (Q0 (U0 J (W1 (W0 (rS (kM J J (kO J (U5 J (by decide) .here rfl (kG J J (a_yieldV J J hLO23 hBO24 (by simp) J J (rI (kO J (a_new J J (fun b30 => (kZ J (Q7 J J .here rfl rfl rfl rfl (Q0 (⟨_, (.next (.next (.next .here))), (Z1 (rS (kO J (U1 J (.next (.next (.next (.next (.next (.next (.next (.next (.app (.next (.next .here))))))))))) J (kO J (U1 J (.next (.next (.next (.next (.next (.next (.next .here))))))) J (kO J (Y4 (j := v) J J (by omega) (by omega) (kO J (V5 (x := ((rwB ls t (lwB ls t ⟨(stB ls t (M + 1) r).x, (stB ls t (M + 1) r).c, -1⟩ v) v q).x) (v)) J (.next (.next (.next (.next (.next (.next (.next (.next (.app (.next (.next (.next (.next .here))))))))))))) (by rw [W4]; omega) (V4 (by omega)) (kO J (U2 J (kO J (U1 J .here rfl ?_))))))))))))))⟩)))))))))))))))))));have := hbq v (by omega);refine kO J (Q4 J J (by omega) (kM J J (Q0 (rS (kM J J (kO J (U1 J (.next (.next (.next (.next (.next (.next (.next (.next (.app (.next (.next .here))))))))))) J (kO J (U2 J (kO J (U1 J .here rfl (kO J (Y4 (j := (la ls li)) J J (by omega) (by omega) (kO J (V5 (x := ((rwB ls t (lwB ls t ⟨(stB ls t (M + 1) r).x, (stB ls t (M + 1) r).c, -1⟩ v) v q).x) ((la ls li))) J (.next (.next (.next (.next (.next (.next (.next (.next (.app (.next (.next (.next (.next .here))))))))))))) (by rw [W4]; omega) (V4 (by omega)) (kO J (Q6 J J (fun h31 => ?_) (fun h31 => ?_))))))))))))))))))
        ·have hls9 := h31
         refine Q0 (Y0 J (rI (kO J (U1 J (.next (.next (.next (.next (.next (.next (.next (.next (.app (.next (.next .here))))))))))) J (kO J (U2 J (kO J (U1 J .here rfl (kO J (U1 J (.next (.next (.next (.next (.next (.next (.next (.next (.app (.next .here)))))))))) J (kO J (U2 J (kO J (U1 J .here rfl (kM J J (kO J (U5 J (by decide) .here rfl (kO J (U2 J (kO J (U1 J .here rfl (kO J (Y4 (j := (la ls li)) J J (by omega) (by omega) (kZ J (W8 J J (by rw [xs_set]; exact (.next (.next (.next (.next (.next (.next (.next (.next (.app (.next (.next (.next (.next .here)))))))))))))) (by rw [W4]; omega) (kZ J (a_again J J .here rfl (by simp [eqV, eqA, eqL, kindEq, intEq_eq, V6 hL.spot, V6 hW.spot]) (kZ J (a_againa J J (by decide) .here rfl (by simp [eqL, eqV, eqA, kindEq, intEq_eq, V6 hL.spot, V6 hW.spot]) (kZ J (a_again J J .here rfl (by simp [eqV, eqA, eqL, kindEq, intEq_eq, V6 hL.spot, V6 hW.spot]) (kZ J (a_again J J (.next (.next (.next (.next (.next (.next (.next (.next (.app (.next .here)))))))))) J (by simp [eqV, eqA, eqL, kindEq, intEq_eq, V6 hL.spot, V6 hW.spot]) (kO J (Y4 (j := (la ls li)) J J (by first | decide | omega) (by omega) (kZ J (Q7 J J (.next (.next (.next (.next (.next (.next (.next (.next (.app (.next (.next (.next .here)))))))))))) (cml_over (c := ⟨_, _, _, _, _⟩) (by omega)) (by rw [Nat.ble_eq, cml_len]; omega) J J (kZ J (a_again J J .here rfl (by simp [eqV, eqA, eqL, kindEq, intEq_eq, V6 hL.spot, V6 hW.spot]) (kZ J (a_st J J (.next (.next (.next (.next (.next (.next (.next (.next (.app .here))))))))) J J (Q0 ?_))))))))))))))))))))))))))))))))))))))))));refine V1 (⟨_, (.next (.next (.next .here))), (kO J (U7 J (Q0 (U0 J (W1 (V1 (W0 (rI (kO J (Q4 J J (by omega) (kM J J (Q0 (W0 ?_)))))))))))))⟩);exact ⟨rfl, _, _, _, (show (nl ls ls.length v).length - (q + 1) < (nl ls ls.length v).length - q by omega), (lc 0 J (lc 1 J (lc 2 J (lc 14 J (lc 15 J (lc 16 J Less.nil)))))), (.cons _ (.cons _ (.cons _ (.q (.q (.q (.q (.q (.r (.q (.q (.q (.q (.q (.r (.q (.q (.q .slnil)))))))))))))))))), ⟨q + 1, rfl, (by first | (rw [rwb_skip hi0 hb9 hz9]; first | done | rfl) | (rw [rwb_back hi0 hb9 hz9, <- ub_yes hls9]; first | done | rfl) | (rw [rwb_back hi0 hb9 hz9, <- ub_no hls9]; first | done | rfl) | (rw [rwb_fwd hi0 hb9, <- ub_yes hls9]; first | done | rfl) | (rw [rwb_fwd hi0 hb9, <- ub_no hls9]; first | done | rfl)), rfl, by omega⟩⟩
        ·have hls9 := h31
         refine Q0 (U0 J (W1 (V1 (⟨_, (.next (.next (.next .here))), (kO J (U7 J (Q0 (U0 J (W1 (V1 (W0 (rI (kO J (Q4 J J (by omega) (kM J J (Q0 (W0 ?_)))))))))))))⟩))));exact ⟨rfl, _, _, _, (show (nl ls ls.length v).length - (q + 1) < (nl ls ls.length v).length - q by omega), (lc 0 J (lc 1 J (lc 2 J (lc 14 J (lc 15 J (lc 16 J Less.nil)))))), (.cons _ (.cons _ (.cons _ (.q (.q (.q (.q (.q (.r (.q (.q (.q (.q (.q (.r (.q (.q (.q .slnil)))))))))))))))))), ⟨q + 1, rfl, (by first | (rw [rwb_skip hi0 hb9 hz9]; first | done | rfl) | (rw [rwb_back hi0 hb9 hz9, <- ub_yes hls9]; first | done | rfl) | (rw [rwb_back hi0 hb9 hz9, <- ub_no hls9]; first | done | rfl) | (rw [rwb_fwd hi0 hb9, <- ub_yes hls9]; first | done | rfl) | (rw [rwb_fwd hi0 hb9, <- ub_no hls9]; first | done | rfl)), rfl, by omega⟩⟩
      ·have hb9 : ¬ lb ls li = v := by omega
       refine Q0 (U0 J (W1 (W0 (rQ (rS (kO J (U2 J (kO J (U1 J .here rfl (kM J J (V0 J J (V0 J J (V0 J J (V0 J J (V0 J J (V0 J J (V0 J J (V0 J J (kO J (Q2 J J J (Q0 (U0 J (W1 (W0 (rS (kM J J ?_))))))))))))))))))))))))));refine kO J (U5 J (by decide) .here rfl (kG J J (a_yieldV J J hLO23 hBO24 (by simp) J J (rI (kO J (a_new J J (fun b32 => (kZ J (Q7 J J .here rfl rfl rfl rfl (Q0 (⟨_, (.next (.next (.next .here))), (Z1 (rS (kO J (U1 J (.next (.next (.next (.next (.next (.next (.next (.next (.app (.next (.next .here))))))))))) J (kO J (U1 J (.next (.next (.next (.next (.next (.next (.next .here))))))) J (kO J (Y4 (j := v) J J (by omega) (by omega) (kO J (V5 (x := ((rwB ls t (lwB ls t ⟨(stB ls t (M + 1) r).x, (stB ls t (M + 1) r).c, -1⟩ v) v q).x) (v)) J (.next (.next (.next (.next (.next (.next (.next (.next (.app (.next (.next (.next (.next .here))))))))))))) (by rw [W4]; omega) (V4 (by omega)) (kO J (U2 J (kO J (U1 J .here rfl ?_))))))))))))))⟩)))))))))));have := hbq v (by omega);refine kO J (Q4 J J (by omega) (kM J J (Q0 (rS (kM J J (kO J (U1 J (.next (.next (.next (.next (.next (.next (.next (.next (.app (.next (.next .here))))))))))) J (kO J (U2 J (kO J (U1 J .here rfl (kO J (Y4 (j := (lb ls li)) J J (by omega) (by omega) (kO J (V5 (x := ((rwB ls t (lwB ls t ⟨(stB ls t (M + 1) r).x, (stB ls t (M + 1) r).c, -1⟩ v) v q).x) ((lb ls li))) J (.next (.next (.next (.next (.next (.next (.next (.next (.app (.next (.next (.next (.next .here))))))))))))) (by rw [W4]; omega) (V4 (by omega)) (kO J (Q6 J J (fun h33 => ?_) (fun h33 => ?_))))))))))))))))))
       ·have hls9 := h33
        refine Q0 (Y0 J (rI (kO J (U1 J (.next (.next (.next (.next (.next (.next (.next (.next (.app (.next (.next .here))))))))))) J (kO J (U2 J (kO J (U1 J .here rfl (kO J (U1 J (.next (.next (.next (.next (.next (.next (.next (.next (.app (.next .here)))))))))) J (kO J (U2 J (kO J (U1 J .here rfl (kM J J (kO J (U5 J (by decide) .here rfl (kO J (U2 J (kO J (U1 J .here rfl (kO J (Y4 (j := (lb ls li)) J J (by omega) (by omega) (kZ J (W8 J J (by rw [xs_set]; exact (.next (.next (.next (.next (.next (.next (.next (.next (.app (.next (.next (.next (.next .here)))))))))))))) (by rw [W4]; omega) (kZ J (a_again J J .here rfl (by simp [eqV, eqA, eqL, kindEq, intEq_eq, V6 hL.spot, V6 hW.spot]) (kZ J (a_againa J J (by decide) .here rfl (by simp [eqL, eqV, eqA, kindEq, intEq_eq, V6 hL.spot, V6 hW.spot]) (kZ J (a_again J J .here rfl (by simp [eqV, eqA, eqL, kindEq, intEq_eq, V6 hL.spot, V6 hW.spot]) (kZ J (a_again J J (.next (.next (.next (.next (.next (.next (.next (.next (.app (.next .here)))))))))) J (by simp [eqV, eqA, eqL, kindEq, intEq_eq, V6 hL.spot, V6 hW.spot]) (kO J (Y4 (j := (lb ls li)) J J (by first | decide | omega) (by omega) (kZ J (Q7 J J (.next (.next (.next (.next (.next (.next (.next (.next (.app (.next (.next (.next .here)))))))))))) (cml_over (c := ⟨_, _, _, _, _⟩) (by omega)) (by rw [Nat.ble_eq, cml_len]; omega) J J (kZ J (a_again J J .here rfl (by simp [eqV, eqA, eqL, kindEq, intEq_eq, V6 hL.spot, V6 hW.spot]) (kZ J (a_st J J (.next (.next (.next (.next (.next (.next (.next (.next (.app .here))))))))) J J (Q0 ?_))))))))))))))))))))))))))))))))))))))))));refine V1 (⟨_, (.next (.next (.next .here))), (kO J (U7 J (Q0 (U0 J (W1 (V1 (W0 (rI (kO J (Q4 J J (by omega) (kM J J (Q0 (W0 ?_)))))))))))))⟩);exact ⟨rfl, _, _, _, (show (nl ls ls.length v).length - (q + 1) < (nl ls ls.length v).length - q by omega), (lc 0 J (lc 1 J (lc 2 J (lc 14 J (lc 15 J (lc 16 J Less.nil)))))), (.cons _ (.cons _ (.cons _ (.q (.q (.q (.q (.q (.r (.q (.q (.q (.q (.q (.r (.q (.q (.q .slnil)))))))))))))))))), ⟨q + 1, rfl, (by first | (rw [rwb_skip hi0 hb9 hz9]; first | done | rfl) | (rw [rwb_back hi0 hb9 hz9, <- ub_yes hls9]; first | done | rfl) | (rw [rwb_back hi0 hb9 hz9, <- ub_no hls9]; first | done | rfl) | (rw [rwb_fwd hi0 hb9, <- ub_yes hls9]; first | done | rfl) | (rw [rwb_fwd hi0 hb9, <- ub_no hls9]; first | done | rfl)), rfl, by omega⟩⟩
       ·have hls9 := h33
        refine Q0 (U0 J (W1 (V1 (⟨_, (.next (.next (.next .here))), (kO J (U7 J (Q0 (U0 J (W1 (V1 (W0 (rI (kO J (Q4 J J (by omega) (kM J J (Q0 (W0 ?_)))))))))))))⟩))));exact ⟨rfl, _, _, _, (show (nl ls ls.length v).length - (q + 1) < (nl ls ls.length v).length - q by omega), (lc 0 J (lc 1 J (lc 2 J (lc 14 J (lc 15 J (lc 16 J Less.nil)))))), (.cons _ (.cons _ (.cons _ (.q (.q (.q (.q (.q (.r (.q (.q (.q (.q (.q (.r (.q (.q (.q .slnil)))))))))))))))))), ⟨q + 1, rfl, (by first | (rw [rwb_skip hi0 hb9 hz9]; first | done | rfl) | (rw [rwb_back hi0 hb9 hz9, <- ub_yes hls9]; first | done | rfl) | (rw [rwb_back hi0 hb9 hz9, <- ub_no hls9]; first | done | rfl) | (rw [rwb_fwd hi0 hb9, <- ub_yes hls9]; first | done | rfl) | (rw [rwb_fwd hi0 hb9, <- ub_no hls9]; first | done | rfl)), rfl, by omega⟩⟩
     ·have hql : q = (nl ls ls.length v).length := by omega
      subst hql;refine Q0 (rQ (U0 J (W5 (W3 (W3 (U3 (endD0n .nil (.inl ⟨_, .here, (V1 (V1 (W0 (rI (kO J (Q4 J J (by omega) (kM J J (Q0 (W0 ?_)))))))))⟩))))))));exact ⟨_, _, _, (show M + 1 - (v + 1) < M + 1 - v by omega), (lc 0 J (lc 4 J (lc 5 J (lc 7 J (lc 16 J (lc 17 J Less.nil)))))), (.q (.cons _ (.cons _ (.cons _ (.r (.q (.q (.q (.q (.q (.r (.q (.q (.q .slnil)))))))))))))), ⟨v + 1, q21 :: qs, rfl, rfl, rfl, rfl, by omega⟩⟩
   ·have hvN : v = M + 1 := by omega
    subst hvN;refine Q0 (rQ (U0 J (W5 (W3 (W3 (U3 (W0 (rS (kO J (U1 J (.app .here) J (kM J J (Q0 (Z3 (endD1 J deld_map (kM J J (Q0 (rS (kM J J (kO J (a_eql J J (fun h34 => ?_) (fun h34 => ?_)))))))))))))))))))))
    ·refine Q0 (Y0 J (rS (kM J J (kM J J (kO J (Y4 (j := 0) J J (by omega) (by omega) (kO J (V5 (x := ((stB ls t (M + 1) (r + 1)).x) (0)) J (.next (.next (.next (.next .here)))) (by rw [W4]; omega) (V4 (by omega)) ?_))))))))
     have hbr := rb_bd (st_rnd hLgs hOp.nn (r := r)).1 hLgs hx0 hpot hlw (by omega);have hb0 := hbr 0 (by omega);refine kO J (a_neg J (by omega) (kO J (Y5 J J (fun s1 h1 => moved_n _ _ _ _ (xs (stB ls t (M + 1) (r + 1)).x (M + 1)) _ s1 h1.wf (by omega) W4.symm (IntsE.own (h1.own (.next (.next (.next (.next .here))))) (fun z hz => by obtain ⟨k, hk, rfl⟩ := List.mem_map.1 hz; have := hbr k (List.mem_range.1 hk); omega) (by rw [W4]; omega)) (by omega) (fun i hi => by rw [W4] at hi; rw [V4 hi]; have := hbr i hi; omega) (by rw [W4]; omega)) (fun v1 A1 q1 => ?_))));obtain ⟨bm35, wm, rfl, rfl, hmv⟩ := q1;rw [List.singleton_append];have hbf := best_fin (k := 0) hLgs hOp hbr (by assumption) hmv;refine kM J J (kM J J (Q0 (Z3 (Y7 (V3 (V3 (Y7 (V3 (endD2 J J .nil (kM J J (kO J (W2 J J (kO J (W2 J J (kM J J (kM J J (Q0 (rS (kM J J (kM J J (Q0 (Z3 (endD1 J .nil (kM J J (kM J J ?_)))))))))))))))))))))))));refine Q0 (Z3 ?_);exact end2A J J (.q (.cons _ (.cons _ (.cons _ (.cons _ (.cons _ (List.sublist_append_of_sublist_right (.cons _ (.cons _ (.cons _ .slnil)))))))))) (.inr (.inr (.inr (.inr ⟨hsys, hww, hnu, t, _, wm, hbf.2.2.1, hts, hbf.1, hbf.2.1, hbf.2.2.2, rfl, rfl⟩))))
    ·refine Q0 (U0 J (W1 (V1 (W0 (rI (kO J (Q4 J J (by omega) (kM J J (Q0 (W0 ?_))))))))))
     exact ⟨rfl, _, _, _, (show M + 1 - (r + 1) < M + 1 - r by omega), (lc 0 J (lc 4 J (lc 5 J (lc 6 J (lc 26 J (lc 27 J Less.nil)))))), (.cons _ (.cons _ (.cons _ (.q (.q (.r (.q (.q (.q .slnil))))))))), ⟨r + 1, rfl, rfl, rfl, by omega, (fun k hk => by by_cases e : k = r; exact e ▸ (by assumption); exact hne k (by omega))⟩⟩
  ·exact absurd (stb_end hLgs hOp.nn hOp.st hOp.ti) (hne M (by omega))
end
end Ev
end Go.Proofs.YtoeklhdklcpllaaGreat
