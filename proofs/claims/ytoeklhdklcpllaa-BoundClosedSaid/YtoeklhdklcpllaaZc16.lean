import Derived.Test.YtoeklhdklcpllaaZc15
import Derived.Test.YtoeklhdklcpllaaZc12
import Derived.Test.YtoeklhdklcpllaaZc13
import Derived.Test.YtoeklhdklcpllaaZc09
import Derived.Test.YtoeklhdklcpllaaProg
import Derived.KernelRfl
set_option linter.unusedVariables false
set_option linter.unusedSimpArgs false
namespace Go.Proofs.Ytoeklhdklcpllaa
open Go Go.RowKit
namespace Ev
theorem sum_pr {t z : Int} (ht : 0 <= t) (hz : -20000 <= z /\ z <= 20000) : -(20000 * t) <= t * z /\ t * z <= 20000 * t := by
 have h1 := Int.mul_le_mul_of_nonneg_left hz.2 ht
 have h2 := Int.mul_le_mul_of_nonneg_left hz.1 ht
 rw [Int.mul_comm t 20000] at h1
 rw [Int.mul_comm t (-20000)] at h2
 omega
theorem sum_bd {t z : Nat -> Int} {K : Nat} : ∀ {k : Nat}, k <= K -> (∀ i, i < K -> 0 <= t i) -> (∀ i, i < K -> -20000 <= z i /\ z i <= 20000) -> -(20000 * tot t k) <= tot (fun i => t i * z i) k /\ tot (fun i => t i * z i) k <= 20000 * tot t k
 | 0, _, _, _ => by show -(20000 * (0 : Int)) <= 0 /\ (0 : Int) <= 20000 * 0; omega
 | k + 1, hk, ht, hz => by
  have ih := sum_bd (k := k) (by omega) ht hz
  have h1 := sum_pr (ht k (by omega)) (hz k (by omega))
  show -(20000 * (tot t k + t k)) <= tot (fun i => t i * z i) k + t k * z k /\ tot (fun i => t i * z i) k + t k * z k <= 20000 * (tot t k + t k)
  omega
theorem lw_row {ls : List (List Int)} {k : Nat} {y0 y1 y2 y3 : Int} (h : ls[k]? = some [y0, y1, y2, y3]) : lw ls k = y2 := by
 unfold lw
 rw [show ls.getD k [] = [y0, y1, y2, y3] from by rw [List.getD_eq_getElem?_getD, h]; rfl]; rfl
theorem sum_rng {ls : List (List Int)} {M : Nat} {w t p : Nat -> Int} {k : Nat} (hl : lmB (M : Int) ls = true) (h : Opt ls (M + 1) w t p) (hs : tot t ls.length <= 230400000000000) (hk : k < ls.length) : (-4608000000000000000 <= tot (fun i => t i * lw ls i) k /\ tot (fun i => t i * lw ls i) k <= 4608000000000000000) /\ (-4608000000000000000 <= t k * lw ls k /\ t k * lw ls k <= 4608000000000000000) /\ (-4608000000000000000 <= tot (fun i => t i * lw ls i) k + t k * lw ls k /\ tot (fun i => t i * lw ls i) k + t k * lw ls k <= 4608000000000000000) := by
 have hz : ∀ i, i < ls.length -> -20000 <= lw ls i /\ lw ls i <= 20000 := fun i hi => lw_bd' hl hi
 have h1 := sum_bd (t := t) (z := lw ls) (K := ls.length) (k := k) (by omega) h.nn hz
 have h2 := sum_bd (t := t) (z := lw ls) (K := ls.length) (k := k + 1) (by omega) h.nn hz
 have h3 := tot_part (f := t) (K0 := k) (K := ls.length) (by omega) h.nn
 have h4 := tot_part (f := t) (K0 := k + 1) (K := ls.length) (by omega) h.nn
 have h5 := sum_pr (h.nn k hk) (hz k hk)
 have h6 := tot_mem (f := t) h.nn k hk
 have h7 : tot (fun i => t i * lw ls i) (k + 1) = tot (fun i => t i * lw ls i) k + t k * lw ls k := rfl
 rw [h7] at h2
 omega
section
variable {X : FuncId -> List Value -> St -> (Value -> St -> Bool) -> Bool}
set_option maxRecDepth 100000 in
theorem Most_s (n : Nat) (m : Int) (al : Option Addr) (cl : Nat) (ls : List (List Int)) (aw : Option Addr) (cw : Nat) (w : List Int) (s : St) (hs : Wf s) (hn : 7318349394477056 <= n) (hL : RowsE s 4 al ls) (hcl : al = none -> cl = 0) (hW : IntsE s aw w) (hCap : CapOk s aw w.length cw) : Spec Try.prog (tabK tabw) X (n + 10000) 10 [.agg ⟨[.int .i64 m, .slice al ls.length cl]⟩, .slice aw w.length cw] s (fun v A => (¬ sysE m ls = 0 /\ v = .tuple #[.int .i64 0, .int .i64 (sysE m ls)] /\ A = []) ∨ (sysE m ls = 0 /\ ¬ ((w.length : Int) = m + 1 /\ WOk w w.length) /\ v = .tuple #[.int .i64 0, .int .i64 27] /\ A = []) ∨ (sysE m ls = 0 /\ ((w.length : Int) = m + 1 /\ WOk w w.length) /\ Uns ls (m.toNat + 1) /\ v = .tuple #[.int .i64 0, .int .i64 23] /\ A = []) ∨ (sysE m ls = 0 /\ ((w.length : Int) = m + 1 /\ WOk w w.length) /\ ¬ Uns ls (m.toNat + 1) /\ Opn ls (m.toNat + 1) (du0 w m.toNat) /\ v = .tuple #[.int .i64 0, .int .i64 22] /\ A = []) ∨ (sysE m ls = 0 /\ ((w.length : Int) = m + 1 /\ WOk w w.length) /\ ¬ Uns ls (m.toNat + 1) /\ ∃ t p, Opt ls (m.toNat + 1) (du0 w m.toNat) t p /\ tot t ls.length <= 230400000000000 /\ (∀ v, v < m.toNat + 1 -> -1300000 <= p v /\ p v <= 30000000) /\ v = .tuple #[.int .i64 (tot (fun i => t i * lw ls i) ls.length), .int .i64 0] /\ A = [])) := by
 refine enter bw10_at rfl hs ?_
 unfold bw10
 have hlen := hL.len
 have hlenW := hW.len
 refine rS (kO rfl (a_box rfl rfl rfl (fun b1 => (kM rfl rfl (kM rfl rfl (i_nil (rS (kO rfl (a_lda rfl (by decide) .here rfl (kM rfl rfl (kO rfl (a_call rfl rfl (fun s1 h1 => solve_s _ m al cl ls aw cw w s1 h1.wf (by omega) (hL.ext hs h1.2.1) hcl (hW.ext hs h1.2.1) (hCap.ext hs h1.2.1)) (fun v1 A1 q1 => ?_)))))))))))))
 rcases q1 with ⟨hsx, rfl, rfl⟩ | ⟨hsys, hww, rfl, rfl⟩ | ⟨hsys, hww, hun, rfl, rfl⟩ | ⟨hsys, hww, hnu, hop, rfl, rfl⟩ | ⟨hsys, hww, hnu, q1⟩
 ·have hsx9 := hsx
  refine kM rfl rfl (kO rfl (a_ext rfl rfl (kO rfl (a_ext rfl rfl (kM rfl rfl (kM rfl rfl (i_nil (rQ (rS (kM rfl rfl (kO rfl (a_neq rfl rfl (fun h5 => ?_) (fun h5 => ?_)))))))))))))
  ·refine i_nil (r_cond_t rfl (rS (kM rfl rfl (kM rfl rfl (kM rfl rfl (i_nil (r_ret (then_r ?_))))))))
   exact end2 rfl rfl (.inl ⟨hsx, rfl, rfl⟩)
  ·exfalso; omega
 ·have hww9 := hww
  refine kM rfl rfl (kO rfl (a_ext rfl rfl (kO rfl (a_ext rfl rfl (kM rfl rfl (kM rfl rfl (i_nil (rQ (rS (kM rfl rfl (kO rfl (a_neq rfl rfl (fun _ => (i_nil (r_cond_t rfl (rS (kM rfl rfl (kM rfl rfl (kM rfl rfl (i_nil (r_ret (then_r ?_)))))))))) (fun h => absurd h (by decide))))))))))))))
  exact end2 rfl rfl (.inr (.inl ⟨hsys, hww, rfl, rfl⟩))
 ·have hun9 := hun
  refine kM rfl rfl (kO rfl (a_ext rfl rfl (kO rfl (a_ext rfl rfl (kM rfl rfl (kM rfl rfl (i_nil (rQ (rS (kM rfl rfl (kO rfl (a_neq rfl rfl (fun _ => (i_nil (r_cond_t rfl (rS (kM rfl rfl (kM rfl rfl (kM rfl rfl (i_nil (r_ret (then_r ?_)))))))))) (fun h => absurd h (by decide))))))))))))))
  exact end2 rfl rfl (.inr (.inr (.inl ⟨hsys, hww, hun, rfl, rfl⟩)))
 ·have hop9 := hop
  refine kM rfl rfl (kO rfl (a_ext rfl rfl (kO rfl (a_ext rfl rfl (kM rfl rfl (kM rfl rfl (i_nil (rQ (rS (kM rfl rfl (kO rfl (a_neq rfl rfl (fun _ => (i_nil (r_cond_t rfl (rS (kM rfl rfl (kM rfl rfl (kM rfl rfl (i_nil (r_ret (then_r ?_)))))))))) (fun h => absurd h (by decide))))))))))))))
  exact end2 rfl rfl (.inr (.inr (.inr (.inl ⟨hsys, hww, hnu, hop, rfl, rfl⟩))))
 ·obtain ⟨hm0, hM, h400, hlm⟩ := sysE_ok hsys
  obtain ⟨M, rfl⟩ : ∃ q : Nat, m = (q : Int) := ⟨m.toNat, by omega⟩
  obtain ⟨t, p, hOp, htb, hts, hpb, bf2, bt3, bn4, O, B, rfl, rfl, hO⟩ := q1
  rw [Int.toNat_natCast, List.append_assoc, List.cons_append, List.cons_append, List.cons_append, List.nil_append]
  have hMM := hM
  change Opt ls (M + 1) (du0 w M) t p at hOp
  change ∀ v, v < M + 1 -> _ at hpb
  have hwl : w.length = M + 1 := by omega
  refine kM rfl rfl (kO rfl (a_ext rfl rfl (kO rfl (a_ext rfl rfl (kM rfl rfl (kM rfl rfl (i_nil (rQ (rS (kM rfl rfl (kO rfl (a_neq rfl rfl (fun h => absurd h (by decide)) (fun _ => (i_nil (r_cond_f rfl (r_skip (then_n (rS (kM rfl rfl (kG rfl rfl (a_inl rfl rfl bw26_at rfl ?_)))))))))))))))))))))
  unfold bw26
  refine rS (kM rfl rfl (i_nil (rS (kM rfl rfl (i_nil (rQ (rS (kM rfl rfl (kO rfl (a_nilc rfl (kO rfl (a_fa rfl (kO rfl (a_fa rfl (kO rfl (a_ld rfl (.app .here) rfl (kO rfl (a_lenx rfl hL.spot (kM rfl rfl (i_nil (r_block ?_)))))))))))))))))))))
  refine r_loop (fun j e A => ∃ (k : Nat), e = [(0, .pointer (some ⟨bf2, 0, none⟩)), (3, .int .i64 (tot (fun i => t i * lw ls i) k)), (10, .slice al ls.length cl), (11, .int .i64 (ls.length : Int)), (12, .int .i64 (k : Int))] /\ A = (nobj B (nl ls ls.length) O ++ (.row bf2 93 false ([.int .i64 (M : Int), .slice al ls.length cl, .slice (some ⟨bt3, 0, none⟩) ls.length ls.length, .slice (some ⟨bn4, 0, none⟩) (M + 1) (M + 1)]) :: (.row bn4 25 false (nsl B (nl ls ls.length) (M + 1)) :: (.row bt3 3 false (ints (xs t ls.length)) :: [])))) /\ j = ls.length - k /\ k <= ls.length) 200 0 281474976710656 ?_ (j := _) (env2 := _) (A2 := _) ?_ ?_ ?_ ?_ ⟨0, rfl, rfl, rfl, Nat.zero_le _⟩
  rotate_left
  ·omega
  ·omega
  ·exact (lc 0 rfl (lc 3 rfl (lc 10 rfl (lc 11 rfl (lc 12 rfl Less.nil)))))
  ·exact (.r (.q (.q (.q (.cons _ .slnil)))))
  rintro n hn j _ _ ⟨k, rfl, rfl, rfl, hk⟩
  refine rS (kO rfl (a_lss rfl rfl (fun h10 => ?_) (fun h10 => ?_)))
  ·obtain ⟨q4, o4, y0, y1, y2, y3, ahL, hx, hat, i0, i1, i2, i3⟩ := hL.row4 (k := k) (by omega)
   have hat2 := hat
   obtain ⟨d0, d1, d2, d3, _⟩ := hat2
   have := i0.lo; have := i0.hi
   have := i1.lo; have := i1.hi
   have := i2.lo; have := i2.hi
   have := i3.lo; have := i3.hi
   have hlw9 := lw_row hx
   have hsr9 := sum_rng hlm hOp hts (show k < ls.length by omega)
   rw [hlw9] at hsr9
   refine i_nil (rQ (r_cond_t rfl (r_skip (then_n (rQ (r_block (rS (kM rfl rfl (kO rfl (a_iaA (j := k) ahL rfl rfl (by first | rfl | omega) (by first | decide | omega) (kO rfl (a_ldar rfl (by decide) (by assumption) rfl (kO rfl (a_new rfl rfl (fun b11 => (kM rfl rfl (kZ rfl (a_sta rfl rfl .here rfl rfl rfl rfl (i_nil (rI (kM rfl rfl (kM rfl rfl (kO rfl (a_nilc rfl (kO rfl (a_fa rfl (kO rfl (a_ld rfl (.next (.app .here)) rfl (kM rfl rfl (kO rfl (a_ia (j := k) rfl rfl (by omega) (by omega) (kO rfl (a_ldX (x := (t) (k)) rfl (.next (.app (.next (.next .here)))) (by rw [xs_len]; omega) (xs_get (by omega)) ?_)))))))))))))))))))))))))))))))))
   refine kO rfl (a_fa rfl (kO rfl (a_ld rfl .here rfl (kO rfl (a_mul rfl rfl (by omega) (kO rfl (a_add rfl rfl (by omega) (kM rfl rfl (i_nil (block_n (then_n (rI (kO rfl (a_add rfl rfl (by omega) (kM rfl rfl (i_nil (then_n ?_)))))))))))))))))
   exact ⟨rfl, _, _, _, (show ls.length - (k + 1) < ls.length - k by omega), (lc 0 rfl (lc 3 (by show some (Value.int .i64 (_ + t k * y2)) = some (Value.int .i64 (tot (fun i => t i * lw ls i) k + t k * lw ls k)); rw [hlw9]) (lc 10 rfl (lc 11 rfl (lc 12 rfl Less.nil))))), (.cons _ (.r (.q (.q (.q .slnil))))), ⟨k + 1, rfl, rfl, rfl, by omega⟩⟩
  ·have hkl : k = ls.length := by omega
   subst hkl
   refine i_nil (rQ (r_cond_f rfl (r_exit (then_e (then_e (block_hit (then_n (rS (kM rfl rfl (kM rfl rfl (i_nil (r_ret (endD1 rfl .nil (kM rfl rfl (kM rfl rfl (i_nil (r_ret ?_)))))))))))))))))
   exact end2 rfl rfl (.inr (.inr (.inr (.inr ⟨hsys, hww, hnu, t, p, hOp, hts, hpb, rfl, rfl⟩))))
end
end Ev
end Go.Proofs.Ytoeklhdklcpllaa
namespace Go.Proofs.Ytoeklhdklcpllaa
open Go Go.RowKit
namespace Ev
def T0 : Nat -> Nat -> Int := fun i k => if i = k then 0 else 1000000000
def limT (ls : List (List Int)) : Nat -> Nat -> Nat -> Int
 | 0 => T0
 | k + 1 => updT (limT ls k) ((ls.getD k []).getD 0 0).toNat ((ls.getD k []).getD 1 0).toNat (min (limT ls k ((ls.getD k []).getD 0 0).toNat ((ls.getD k []).getD 1 0).toNat) ((ls.getD k []).getD 2 0))
def stp (T : Nat -> Nat -> Int) (m i k : Nat) : Nat -> Nat -> Int :=
 if ¬ T i m = 1000000000 /\ ¬ T m k = 1000000000 then updT T i k (max (min (T i k) (T i m + T m k)) (-2560000)) else T
def kT (T : Nat -> Nat -> Int) (m i : Nat) : Nat -> Nat -> Nat -> Int
 | 0 => T
 | k + 1 => stp (kT T m i k) m i k
def iT (T : Nat -> Nat -> Int) (N m : Nat) : Nat -> Nat -> Nat -> Int
 | 0 => T
 | i + 1 => kT (iT T N m i) m i N
def mT (T : Nat -> Nat -> Int) (N : Nat) : Nat -> Nat -> Nat -> Int
 | 0 => T
 | m + 1 => iT (mT T N m) N m N
def wm (ls : List (List Int)) (N m : Nat) : Nat -> Nat -> Int := mT (limT ls ls.length) N m
def wi (ls : List (List Int)) (N m i : Nat) : Nat -> Nat -> Int := iT (wm ls N m) N m i
def wk (ls : List (List Int)) (N m i k : Nat) : Nat -> Nat -> Int := kT (wi ls N m i) m i k
inductive Pth (ls : List (List Int)) : Nat -> List Nat -> Nat -> Int -> Prop where
 | one {i : Nat} (hi : i < ls.length) : Pth ls (la ls i) [] (lb ls i) (lw ls i)
 | cons {i : Nat} {L : List Nat} {k : Nat} {w : Int} (hi : i < ls.length) (h : Pth ls (lb ls i) L k w) : Pth ls (la ls i) (lb ls i :: L) k (lw ls i + w)
theorem Pth.app {ls : List (List Int)} {a v b : Nat} {L L' : List Nat} {w w' : Int} (h : Pth ls a L v w) (h' : Pth ls v L' b w') : Pth ls a (L ++ v :: L') b (w + w') := by
 induction h with
 | one hi => exact .cons hi h'
 | cons hi _ ih => rw [Int.add_assoc]; exact .cons hi (ih h')
theorem Pth.split {ls : List (List Int)} {v b : Nat} {L' : List Nat} : ∀ {L : List Nat} {a : Nat} {w : Int}, Pth ls a (L ++ v :: L') b w -> ∃ w1 w2, Pth ls a L v w1 /\ Pth ls v L' b w2 /\ w = w1 + w2
 | [], a, w, h => by
  have h' : Pth ls a (v :: L') b w := h
  cases h' with
  | cons hi hq => exact ⟨_, _, .one hi, hq, rfl⟩
 | u :: L, a, w, h => by
  have h' : Pth ls a (u :: (L ++ v :: L')) b w := h
  cases h' with
  | cons hi hq =>
   obtain ⟨w1, w2, h1, h2, h3⟩ := Pth.split hq
   exact ⟨_, w2, .cons hi h1, h2, by omega⟩
theorem Pth.lt {ls : List (List Int)} {M a b : Nat} {L : List Nat} {w : Int} (hl : lmB (M : Int) ls = true) (h : Pth ls a L b w) : a < M + 1 /\ b < M + 1 /\ ∀ v ∈ L, v < M + 1 := by
 induction h with
 | one hi => have hL := lim_of hl hi; exact ⟨hL.ha, hL.hb, fun v hv => absurd hv (List.not_mem_nil)⟩
 | cons hi _ ih =>
  have hL := lim_of hl hi
  refine ⟨hL.ha, ih.2.1, fun v hv => ?_⟩
  rcases List.mem_cons.1 hv with rfl | hv
  ·exact hL.hb
  ·exact ih.2.2 v hv
theorem Pth.wk {ls : List (List Int)} {f : Nat} {a b : Nat} {L : List Nat} {w w0 : Int} (h0 : Wk ls f a w0) (h : Pth ls a L b w) : Wk ls f b (w0 + w) := by
 induction h generalizing w0 with
 | one hi => exact .step hi h0
 | cons hi _ ih => rw [<- Int.add_assoc]; exact ih (.step hi h0)
theorem Pth.pot {ls : List (List Int)} {y : Nat -> Int} (hy : ∀ i, i < ls.length -> y (lb ls i) <= y (la ls i) + lw ls i) {a b : Nat} {L : List Nat} {w : Int} (h : Pth ls a L b w) : y b <= y a + w := by
 have := (h.wk (.nil (f := a))).pot hy
 omega
theorem Wk.pth {ls : List (List Int)} {f a : Nat} {w : Int} (h : Wk ls f a w) : (f = a /\ w = 0) ∨ ∃ L, Pth ls f L a w := by
 induction h with
 | nil => exact .inl ⟨rfl, rfl⟩
 | step hi _ ih =>
  rcases ih with ⟨rfl, rfl⟩ | ⟨L, h⟩
  ·exact .inr ⟨[], by rw [Int.zero_add]; exact .one hi⟩
  ·exact .inr ⟨_, h.app (.one hi)⟩
theorem twice : ∀ {L : List Nat}, ¬ L.Nodup -> ∃ v A B C, L = A ++ v :: (B ++ v :: C)
 | [], h => absurd List.nodup_nil h
 | u :: L, h => by
  by_cases hu : u ∈ L
  ·obtain ⟨B, C, e⟩ := List.append_of_mem hu
   exact ⟨u, [], B, C, by rw [e]; rfl⟩
  ·have : ¬ L.Nodup := fun q => h (List.nodup_cons.2 ⟨hu, q⟩)
   obtain ⟨v, A, B, C, e⟩ := twice this
   exact ⟨v, u :: A, B, C, by rw [e]; rfl⟩
theorem Pth.short {ls : List (List Int)} {y : Nat -> Int} (hy : ∀ i, i < ls.length -> y (lb ls i) <= y (la ls i) + lw ls i) {a b : Nat} : ∀ {L : List Nat} {w : Int}, Pth ls a L b w -> ∃ L' w', L'.Nodup /\ Pth ls a L' b w' /\ w' <= w := by
 intro L
 induction hn : L.length using Nat.strongRecOn generalizing L with
 | ind n ih =>
  intro w h
  by_cases q : L.Nodup
  ·exact ⟨L, w, q, h, Int.le_refl _⟩
  ·obtain ⟨v, A, B, C, rfl⟩ := twice q
   obtain ⟨w1, w2, h1, h2, e⟩ := h.split
   obtain ⟨w3, w4, h3, h4, e2⟩ := h2.split
   have h5 := h3.pot hy
   obtain ⟨L', w', k1, k2, k3⟩ := ih (A ++ v :: C).length (by subst hn; simp; omega) rfl (h1.app h4)
   exact ⟨L', w', k1, k2, by omega⟩
theorem nodup_len {L : List Nat} {N : Nat} (h : L.Nodup) (hL : ∀ v ∈ L, v < N) : L.length <= N := by
 refine Classical.byContradiction (fun q => ?_)
 obtain ⟨i, j, h1, h2, h3⟩ := pigeon N (fun i => L.getD i 0) (fun i hi => by
  show L.getD i 0 < N
  rw [List.getD_eq_getElem?_getD, List.getElem?_eq_getElem (show i < L.length by omega)]
  exact hL _ (List.getElem_mem _))
 have h3' : L.getD i 0 = L.getD j 0 := h3
 rw [List.getD_eq_getElem?_getD, List.getD_eq_getElem?_getD, List.getElem?_eq_getElem (show i < L.length by omega), List.getElem?_eq_getElem (show j < L.length by omega)] at h3'
 have h4 : L[i]'(by omega) = L[j]'(by omega) := h3'
 have := (List.getElem_inj h).1 h4
 omega
section
variable {X : FuncId -> List Value -> St -> (Value -> St -> Bool) -> Bool}
end
end Ev
end Go.Proofs.Ytoeklhdklcpllaa
namespace Go.Proofs.Ytoeklhdklcpllaa
open Go Go.RowKit
namespace Ev
theorem walk_short {R : List (List Int)} {y : Nat -> Int} {N : Nat} (hy : ∀ i, i < R.length -> y (lb R i) <= y (la R i) + lw R i) (hN : ∀ {a L b w}, Pth R a L b w -> a < N /\ b < N /\ ∀ v ∈ L, v < N) {a b : Nat} {L : List Nat} {w : Int} (h : Pth R a L b w) : 0 <= w ∨ ∃ a' L' w', L'.length + 2 <= N /\ Pth R a' L' b w' /\ w' <= w := by
 obtain ⟨L1, w1, n1, h1, e1⟩ := h.short hy
 obtain ⟨L2, w2, n2, h2, e2, a2⟩ : ∃ L2 w2, L2.Nodup /\ Pth R a L2 b w2 /\ w2 <= w1 /\ ¬ a ∈ L2 := by
  by_cases q : a ∈ L1
  ·obtain ⟨A, B, e⟩ := List.append_of_mem q
   subst e
   obtain ⟨u1, u2, k1, k2, k3⟩ := h1.split
   have k4 := k1.pot hy
   have nd := List.nodup_cons.1 (List.nodup_append.1 n1).2.1
   exact ⟨B, u2, nd.2, k2, by omega, nd.1⟩
  ·exact ⟨L1, w1, n1, h1, Int.le_refl _, q⟩
 obtain ⟨L3, w3, n3, h3, e3, a3, b3⟩ : ∃ L3 w3, L3.Nodup /\ Pth R a L3 b w3 /\ w3 <= w2 /\ (¬ a ∈ L3) /\ ¬ b ∈ L3 := by
  by_cases q : b ∈ L2
  ·obtain ⟨A, B, e⟩ := List.append_of_mem q
   subst e
   obtain ⟨u1, u2, k1, k2, k3⟩ := h2.split
   have k4 := k2.pot hy
   have nd := List.nodup_append.1 n2
   exact ⟨A, u1, nd.1, k1, by omega, fun z => a2 (List.mem_append_left _ z), fun z => nd.2.2 b z b (List.mem_cons_self ..) rfl⟩
  ·exact ⟨L2, w2, n2, h2, Int.le_refl _, a2, q⟩
 by_cases q : a = b
 ·subst q
  have := h3.pot hy
  exact .inl (by omega)
 ·obtain ⟨t1, t2, t3⟩ := hN h3
  have nd : (a :: b :: L3).Nodup := List.nodup_cons.2 ⟨fun z => by
   rcases List.mem_cons.1 z with z | z
   ·exact q z
   ·exact a3 z, List.nodup_cons.2 ⟨b3, n3⟩⟩
  have := nodup_len (N := N) nd (fun v hv => by
   rcases List.mem_cons.1 hv with rfl | hv
   ·exact t1
   ·rcases List.mem_cons.1 hv with rfl | hv
    ·exact t2
    ·exact t3 v hv)
  exact .inr ⟨a, L3, w3, this, h3, by omega⟩
theorem le_walk {R : List (List Int)} {x : Nat -> Nat -> Int} (cov : ∀ r e, e < R.length -> x (r + 1) (lb R e) <= x r (la R e) + lw R e) {a b : Nat} {L : List Nat} {w : Int} (h : Pth R a L b w) : ∀ r, x (r + (L.length + 1)) b <= x r a + w := by
 induction h with
 | one hi => intro r; exact cov r _ hi
 | cons hi _ ih =>
  intro r
  have h1 := ih (r + 1)
  have h2 := cov r _ hi
  rw [List.length_cons, show ∀ k, r + (k + 1 + 1) = r + 1 + (k + 1) from fun k => by omega]
  omega
theorem settled {R : List (List Int)} {y : Nat -> Int} {M : Nat} {x : Nat -> Nat -> Int} (hy : ∀ i, i < R.length -> y (lb R i) <= y (la R i) + lw R i) (hN : ∀ {a L b w}, Pth R a L b w -> a < M + 1 /\ b < M + 1 /\ ∀ v ∈ L, v < M + 1)
 (h0 : ∀ v, x 0 v = 0) (mono : ∀ r v, v < M + 1 -> x (r + 1) v <= x r v) (cov : ∀ r e, e < R.length -> x (r + 1) (lb R e) <= x r (la R e) + lw R e) (att : ∀ r v, v < M + 1 -> x r v = 0 ∨ ∃ a L, Pth R a L v (x r v)) : ∀ v, v < M + 1 -> x (M + 1) v = x M v := fun v hv => by
 have down : ∀ d r, x (r + d) v <= x r v := by
  intro d
  induction d with
  | zero => intro r; exact Int.le_refl _
  | succ d ih => intro r; have := ih r; have := mono (r + d) v hv; rw [show r + (d + 1) = r + d + 1 by omega]; omega
 have hm := mono M v hv
 have hz : x M v <= 0 := by have := down M 0; rw [h0, Nat.zero_add] at this; exact this
 rcases att (M + 1) v hv with q | ⟨a, L, h⟩
 ·omega
 ·rcases walk_short hy hN h with q | ⟨a', L', w', l1, l2, l3⟩
  ·omega
  ·have h1 := le_walk cov l2 0
   rw [h0, Nat.zero_add] at h1
   have h2 := down (M - (L'.length + 1)) (L'.length + 1)
   rw [show L'.length + 1 + (M - (L'.length + 1)) = M by omega] at h2
   omega
section
variable {X : FuncId -> List Value -> St -> (Value -> St -> Bool) -> Bool}
end
end Ev
end Go.Proofs.Ytoeklhdklcpllaa
namespace Go.Proofs.Ytoeklhdklcpllaa
open Go Go.RowKit
namespace Ev
section
variable {X : FuncId -> List Value -> St -> (Value -> St -> Bool) -> Bool}
end
end Ev
end Go.Proofs.Ytoeklhdklcpllaa
namespace Go.Proofs.Ytoeklhdklcpllaa
open Go Go.RowKit
namespace Ev
section
variable {X : FuncId -> List Value -> St -> (Value -> St -> Bool) -> Bool}
end
end Ev
end Go.Proofs.Ytoeklhdklcpllaa
namespace Go.Proofs.Ytoeklhdklcpllaa
open Go Go.RowKit
namespace Ev
section
variable {X : FuncId -> List Value -> St -> (Value -> St -> Bool) -> Bool}
end
end Ev
end Go.Proofs.Ytoeklhdklcpllaa
namespace Go.Proofs.Ytoeklhdklcpllaa
open Go Go.RowKit
namespace Ev
section
variable {X : FuncId -> List Value -> St -> (Value -> St -> Bool) -> Bool}
end
end Ev
end Go.Proofs.Ytoeklhdklcpllaa
namespace Go.Proofs.Ytoeklhdklcpllaa
open Go Go.RowKit
namespace Ev
section
variable {X : FuncId -> List Value -> St -> (Value -> St -> Bool) -> Bool}
end
end Ev
end Go.Proofs.Ytoeklhdklcpllaa
namespace Go.Proofs.Ytoeklhdklcpllaa
open Go Go.RowKit
namespace Ev
theorem in_upto {lo hi : Int} {l : List Int} {k : Nat} (h : ∀ u, u < k -> lo <= l.getD u 0 /\ l.getD u 0 <= hi) (hk : l.length <= k) : inB lo hi l = true := by
 refine List.all_eq_true.2 (fun z hz => ?_)
 obtain ⟨i, hi', rfl⟩ := List.getElem_of_mem hz
 have h4 := h i (by omega)
 rw [List.getD_eq_getElem?_getD, List.getElem?_eq_getElem hi'] at h4
 exact decide_eq_true h4
section
variable {X : FuncId -> List Value -> St -> (Value -> St -> Bool) -> Bool}
end
end Ev
end Go.Proofs.Ytoeklhdklcpllaa
namespace Go.Proofs.Ytoeklhdklcpllaa
open Go Go.RowKit
namespace Ev
section
variable {X : FuncId -> List Value -> St -> (Value -> St -> Bool) -> Bool}
end
end Ev
end Go.Proofs.Ytoeklhdklcpllaa
namespace Go.Proofs.Ytoeklhdklcpllaa
open Go Go.RowKit
namespace Ev
def SmC (D : Nat -> Nat -> Int) (N : Nat) (c : Int) : Prop := ∀ a b, a < N -> b < N -> D a b = 1000000000 ∨ (-c <= D a b /\ D a b <= c)
theorem Pth.bdC {ls : List (List Int)} {c : Int} (hl : ∀ i, i < ls.length -> -c <= lw ls i /\ lw ls i <= c) {a b : Nat} {L : List Nat} {w : Int} (h : Pth ls a L b w) : -(c * ((L.length : Int) + 1)) <= w /\ w <= c * ((L.length : Int) + 1) := by
 induction h with
 | one hi => have := hl _ hi; show -(c * (((0 : Nat) : Int) + 1)) <= _ /\ _ <= c * (((0 : Nat) : Int) + 1); rw [show c * (((0 : Nat) : Int) + 1) = c by omega]; exact this
 | cons hi _ ih =>
  have := hl _ hi
  rw [List.length_cons, Int.natCast_add, show ∀ n : Int, c * (n + ((1 : Nat) : Int) + 1) = c * (n + 1) + c from fun n => by rw [Int.mul_add c (n + ((1 : Nat) : Int)), Int.mul_one]; rfl]
  omega
theorem DT.smC {ls : List (List Int)} {M : Nat} {D : Nat -> Nat -> Int} {y : Nat -> Int} {c : Int} (hl : lmB (M : Int) ls = true) (h : DT ls (M + 1) D) (hy : ∀ i, i < ls.length -> y (lb ls i) <= y (la ls i) + lw ls i) (hc : ∀ i, i < ls.length -> -c <= lw ls i /\ lw ls i <= c) (h0 : 0 <= c) (hM : M <= 6) : SmC D (M + 1) (8 * c) := fun a b ha hb => by
 by_cases q : D a b = 1000000000
 ·exact .inl q
 ·right
  have hd := h a ha
  have hw := hd.way b hb q
  rcases hw.pth with ⟨e1, e2⟩ | ⟨L, hp⟩
  ·omega
  ·obtain ⟨L', w', k1, k2, k3⟩ := hp.short hy
   have k4 := k2.bdC hc
   have k5 := nodup_len k1 (k2.lt hl).2.2
   have hown := hd.own
   have k6 := (hd.walk (k2.wk (.nil (f := a))) (by omega)).2
   have h8 : c * ((L'.length : Int) + 1) <= c * 8 := Int.mul_le_mul_of_nonneg_left (by omega) h0
   omega
theorem lo_bdC {D : Nat -> Nat -> Int} {N n : Nat} {x : List Int} {c d : Int} (hD : SmC D N d) (hn : n < N) (hx : Nb x c) : ∀ {k : Nat}, k <= x.length -> k <= n -> loV D x n k = -1000000000 ∨ (-c - d <= loV D x n k /\ loV D x n k <= c + d)
 | 0, _, _ => .inl rfl
 | k + 1, hk, hkn => by
  have ih := lo_bdC hD hn hx (k := k) (by omega) (by omega)
  have h1 := hD n k hn (by omega)
  have h3 := hx k (by omega)
  show (if D n k = 1000000000 then loV D x n k else max (loV D x n k) (x.getD k 0 - D n k)) = -1000000000 ∨ (-c - d <= (if D n k = 1000000000 then loV D x n k else max (loV D x n k) (x.getD k 0 - D n k)) /\ (if D n k = 1000000000 then loV D x n k else max (loV D x n k) (x.getD k 0 - D n k)) <= c + d)
  split
  ·exact ih
  ·rcases ih with e | e
   ·by_cases e2 : x.getD k 0 - D n k <= -1000000000
    ·left; omega
    ·right; omega
   ·exact .inr (by omega)
theorem hi_bdC {D : Nat -> Nat -> Int} {N n : Nat} {x : List Int} {c d : Int} (hD : SmC D N d) (hn : n < N) (hx : Nb x c) : ∀ {k : Nat}, k <= x.length -> k <= n -> hiV D x n k = 1000000000 ∨ (-c - d <= hiV D x n k /\ hiV D x n k <= c + d)
 | 0, _, _ => .inl rfl
 | k + 1, hk, hkn => by
  have ih := hi_bdC hD hn hx (k := k) (by omega) (by omega)
  have h1 := hD k n (by omega) hn
  have h3 := hx k (by omega)
  show (if D k n = 1000000000 then hiV D x n k else min (hiV D x n k) (x.getD k 0 + D k n)) = 1000000000 ∨ (-c - d <= (if D k n = 1000000000 then hiV D x n k else min (hiV D x n k) (x.getD k 0 + D k n)) /\ (if D k n = 1000000000 then hiV D x n k else min (hiV D x n k) (x.getD k 0 + D k n)) <= c + d)
  split
  ·exact ih
  ·rcases ih with e | e
   ·by_cases e2 : 1000000000 <= x.getD k 0 + D k n
    ·left; omega
    ·right; omega
   ·exact .inr (by omega)
theorem ptL_sm {ls : List (List Int)} {M : Nat} {D : Nat -> Nat -> Int} {ps : List Int} {d : Int} (hD : DT ls (M + 1) D) (hS : Sm D (M + 1)) (hC : SmC D (M + 1) d) (hd : 0 <= d) (hM : M <= 64) : ∀ {w : Nat}, w <= M -> Nb (ptL D ps w) (d * (w : Int))
 | 0, _ => fun i hi => by
  have hi' : i < 1 := hi
  obtain rfl : i = 0 := by omega
  show -(d * ((0 : Nat) : Int)) <= (0 : Int) /\ (0 : Int) <= d * ((0 : Nat) : Int)
  omega
 | w + 1, hw => by
  have h9 := ptL_sm hD hS hC hd hM (ps := ps) (w := w) (by omega)
  obtain ⟨h1, h2, h3⟩ := ptL_ok hD hS hM (ps := ps) (w := w) (by omega)
  have hl : (ptL D ps w).length = w + 1 := ptL_len
  have hlo := lo_Lo hS (show (ptL D ps w).length < M + 1 by omega) h2 (by omega) (Nat.le_refl _)
  have hhi := hi_Hi hS (show (ptL D ps w).length < M + 1 by omega) h2 (by omega) (Nat.le_refl _)
  have blo := lo_bdC hC (n := w + 1) (by omega) h9 (k := w + 1) (by omega) (Nat.le_refl _)
  have bhi := hi_bdC hC (n := w + 1) (by omega) h9 (k := w + 1) (by omega) (Nat.le_refl _)
  have hroom := lo_hi hD (show (ptL D ps w).length < M + 1 by omega) h1 hlo hhi
  rw [hl] at hroom
  have hc := ch_in (p := pkV ps w) hroom
  have hdw : 0 <= d * (w : Int) := Int.mul_nonneg hd (by omega)
  have e1 : d * ((w + 1 : Nat) : Int) = d * (w : Int) + d := by rw [Int.natCast_add, Int.mul_add, Int.natCast_one, Int.mul_one]
  intro i hi
  rw [e1]
  show -(d * (w : Int) + d) <= (ptL D ps w ++ [_]).getD i 0 /\ (ptL D ps w ++ [_]).getD i 0 <= d * (w : Int) + d
  have hi' : i < w + 2 := by rw [ptL_len] at hi; exact hi
  rw [List.getD_eq_getElem?_getD]
  by_cases q : i < w + 1
  ·rw [List.getElem?_append_left (by omega), <- List.getD_eq_getElem?_getD]
   have := h9 i (by omega)
   omega
  ·rw [List.getElem?_append_right (by omega), show i - (ptL D ps w).length = 0 by omega]
   show -(d * (w : Int) + d) <= chZ _ _ _ /\ chZ _ _ _ <= _
   have := hc.2.2
   omega
theorem hN_of {ls : List (List Int)} {M : Nat} (hl : lmB (M : Int) ls = true) : ∀ i, i < ls.length -> la ls i < M + 1 /\ lb ls i < M + 1 := fun i hi => by
 obtain ⟨h1, h2, _⟩ := lg_of hl i hi
 exact ⟨h1, h2⟩
section
variable {X : FuncId -> List Value -> St -> (Value -> St -> Bool) -> Bool}
end
end Ev
end Go.Proofs.Ytoeklhdklcpllaa
namespace Go.Proofs.Ytoeklhdklcpllaa
open Go Go.RowKit
namespace Ev
def modN (x m : Int) : Int := (x.tmod m + m).tmod m
theorem modN_bd {x m : Int} (h : 0 < m) : 0 <= modN x m /\ modN x m < m := by
 have h1 := tmodP_bd (x := x) h
 unfold modN
 exact ⟨Int.tmod_nonneg m (by omega), Int.tmod_lt_of_pos _ h⟩
theorem modN_sm {x m : Int} (h : 0 <= x) (h2 : x < m) : modN x m = x := by
 unfold modN
 rw [Int.tmod_eq_emod_of_nonneg h, Int.emod_eq_of_lt h h2, Int.tmod_eq_emod_of_nonneg (by omega), Int.add_emod_right, Int.emod_eq_of_lt h h2]
theorem modN_up {x m : Int} (h : m <= x) (h0 : 0 < m) (h2 : x < m + m) : modN x m = x - m := by
 have e1 : x.tmod m = x - m := by
  have e : x = (x - m) + m := by omega
  have e2 : x % m = x - m := by
   rw [e, Int.add_emod_right, Int.emod_eq_of_lt (by omega) (by omega)]; omega
  rw [Int.tmod_eq_emod_of_nonneg (by omega), e2]
 unfold modN
 rw [e1, Int.tmod_eq_emod_of_nonneg (by omega), Int.add_emod_right, Int.emod_eq_of_lt (by omega) (by omega)]
def mdM (r0 : Int) : Nat := (1 + modN r0 6).toNat
theorem mdM_bd {r0 : Int} : 1 <= mdM r0 /\ mdM r0 <= 6 /\ 1 + modN r0 6 = (mdM r0 : Int) := by
 have := modN_bd (x := r0) (m := 6) (by decide)
 unfold mdM; omega
def mdRow (M : Nat) (y0 y1 y2 y3 : Int) : List Int := [modN y0 ((M : Int) + 1), modN (modN y0 ((M : Int) + 1) + 1 + modN y1 (M : Int)) ((M : Int) + 1), modN y2 141 - 40, 1 + modN y3 6]
def mdR (M : Nat) (r : List Int) : List Int := mdRow M (r.getD 0 0) (r.getD 1 0) (r.getD 2 0) (r.getD 3 0)
def mdL (M : Nat) (rs : List (List Int)) : List (List Int) := (rs.take 20).map (mdR M)
def mdK (M : Nat) (rs : List (List Int)) (k : Nat) : List (List Int) := (rs.take k).map (mdR M)
theorem mdK_len {M : Nat} {rs : List (List Int)} {k : Nat} (h : k <= rs.length) : (mdK M rs k).length = k := by unfold mdK; rw [List.length_map, List.length_take]; omega
theorem mdL_len {M : Nat} {rs : List (List Int)} : (mdL M rs).length <= 20 := by unfold mdL; rw [List.length_map, List.length_take]; omega
theorem mdK_step {M : Nat} {rs : List (List Int)} {k : Nat} {y0 y1 y2 y3 : Int} (h : rs[k]? = some [y0, y1, y2, y3]) : mdK M rs (k + 1) = mdK M rs k ++ [mdRow M y0 y1 y2 y3] := by
 unfold mdK
 rw [List.take_add_one, h, List.map_append]; rfl
theorem limC_row {y0 y1 y2 y3 : Int} : limC [[y0, y1, y2, y3]] = [.int .i64 y0, .int .i64 y1, .int .i64 y2, .int .i64 y3] := by kernel_rfl
theorem mdK_app {M : Nat} {rs : List (List Int)} {k : Nat} {y0 y1 y2 y3 : Int} (h : rs[k]? = some [y0, y1, y2, y3]) : limC (mdK M rs k) ++ [.int .i64 (modN y0 ((M : Int) + 1)), .int .i64 (modN (modN y0 ((M : Int) + 1) + 1 + modN y1 (M : Int)) ((M : Int) + 1)), .int .i64 (modN y2 141 - 40), .int .i64 (1 + modN y3 6)] = limC (mdK M rs (k + 1)) := by
 rw [mdK_step h, limC_app]
 congr 1
 exact limC_row.symm
theorem mdK_20 {M : Nat} {rs : List (List Int)} : mdK M rs 20 = mdL M rs := rfl
theorem mdK_all {M : Nat} {rs : List (List Int)} (h : rs.length <= 20) : mdK M rs rs.length = mdL M rs := by
 unfold mdK mdL
 rw [List.take_of_length_le (Nat.le_refl _), List.take_of_length_le h]
theorem md_ok {M : Nat} {r : List Int} (h1 : 1 <= M) (h2 : M <= 6) : ∃ y0 y1 y2 y3 : Int, mdR M r = [y0, y1, y2, y3] /\ ((0 <= (M : Int) /\ (M : Int) <= 64) /\ (0 <= y0 /\ y0 <= M) /\ (0 <= y1 /\ y1 <= M) /\ ¬ y0 = y1 /\ (-20000 <= y2 /\ y2 <= 20000) /\ (1 <= y3 /\ y3 <= 99999)) /\ (-100 <= y2 /\ y2 <= 100) /\ (1 <= y3 /\ y3 <= 6) := by
 have a0 := modN_bd (x := r.getD 0 0) (m := (M : Int) + 1) (by omega)
 have a1 := modN_bd (x := r.getD 1 0) (m := (M : Int)) (by omega)
 have a2 := modN_bd (x := r.getD 2 0) (m := 141) (by decide)
 have a3 := modN_bd (x := r.getD 3 0) (m := 6) (by decide)
 have a4 := modN_bd (x := modN (r.getD 0 0) ((M : Int) + 1) + 1 + modN (r.getD 1 0) (M : Int)) (m := (M : Int) + 1) (by omega)
 have ne : ¬ modN (r.getD 0 0) ((M : Int) + 1) = modN (modN (r.getD 0 0) ((M : Int) + 1) + 1 + modN (r.getD 1 0) (M : Int)) ((M : Int) + 1) := by
  by_cases c : modN (r.getD 0 0) ((M : Int) + 1) + 1 + modN (r.getD 1 0) (M : Int) < (M : Int) + 1
  ·rw [modN_sm (x := modN (r.getD 0 0) ((M : Int) + 1) + 1 + modN (r.getD 1 0) (M : Int)) (by omega) c]; omega
  ·rw [modN_up (x := modN (r.getD 0 0) ((M : Int) + 1) + 1 + modN (r.getD 1 0) (M : Int)) (by omega) (by omega) (by omega)]; omega
 exact ⟨_, _, _, _, rfl, ⟨by omega, by omega, by omega, ne, by omega, by omega⟩, by omega, by omega⟩
theorem mdL_row {M : Nat} {rs : List (List Int)} {k : Nat} {y : List Int} (h : (mdL M rs)[k]? = some y) : ∃ r, y = mdR M r := by
 unfold mdL at h
 rw [List.getElem?_map] at h
 cases q : (rs.take 20)[k]? with
 | none => rw [q] at h; cases h
 | some r => rw [q] at h; cases h; exact ⟨r, rfl⟩
theorem mdL_lm {M : Nat} {rs : List (List Int)} (h1 : 1 <= M) (h2 : M <= 6) : lmB (M : Int) (mdL M rs) = true := by
 have key : ∀ k, k <= (mdL M rs).length -> lmB (M : Int) (mdL M rs) = lmB (M : Int) ((mdL M rs).drop k) := by
  intro k
  induction k with
  | zero => intro _; rfl
  | succ k ih =>
   intro hk
   have hx := List.getElem?_eq_getElem (l := mdL M rs) (i := k) (by omega)
   obtain ⟨r, hr⟩ := mdL_row hx
   obtain ⟨y0, y1, y2, y3, e, hc, _⟩ := md_ok (r := r) h1 h2
   rw [hr, e] at hx
   exact lmB_good hx (ih (by omega)) hc
 exact lmB_end (key _ (Nat.le_refl _)) (Nat.le_refl _)
theorem mdL_w {M : Nat} {rs : List (List Int)} (h1 : 1 <= M) (h2 : M <= 6) : ∀ i, i < (mdL M rs).length -> -100 <= lw (mdL M rs) i /\ lw (mdL M rs) i <= 100 := fun i hi => by
 have hx := List.getElem?_eq_getElem (l := mdL M rs) (i := i) hi
 obtain ⟨r, hr⟩ := mdL_row hx
 obtain ⟨y0, y1, y2, y3, e, hc, hd, _⟩ := md_ok (r := r) h1 h2
 rw [hr, e] at hx
 rw [lw_row hx]; exact hd
theorem mdL_fit {M : Nat} {rs : List (List Int)} (h1 : 1 <= M) (h2 : M <= 6) : ∀ r ∈ mdL M rs, r.length = 4 /\ ∀ x ∈ r, -9223372036854775808 <= x /\ x < 9223372036854775808 := fun r hr => by
 obtain ⟨k, hk, e⟩ := List.mem_iff_getElem.1 hr
 obtain ⟨q, hq⟩ := mdL_row (List.getElem?_eq_getElem hk)
 obtain ⟨y0, y1, y2, y3, e2, hc, _⟩ := md_ok (r := q) h1 h2
 rw [<- e, hq, e2]
 refine ⟨rfl, fun x hx => ?_⟩
 simp only [List.mem_cons, List.not_mem_nil, or_false] at hx
 omega
theorem mdL_sys {M : Nat} {rs : List (List Int)} (h1 : 1 <= M) (h2 : M <= 6) : sysE (M : Int) (mdL M rs) = 0 := by
 have := mdL_len (M := M) (rs := rs)
 unfold sysE
 rw [if_pos (by omega), if_neg (by omega), if_pos (mdL_lm h1 h2)]
def TlR (TT : Nat) (a : Option Addr) (n c : Nat) (ts : List (List Int)) (TL : List Ob) : Prop := (a = none /\ n = 0 /\ c = 0 /\ ts = [] /\ TL = []) ∨ ∃ b op, a = some ⟨b, 0, none⟩ /\ 0 < n /\ ts.length = n /\ Tight op n c /\ TL = [.row b TT op (limC ts)]
theorem TlR.ok {TT : Nat} {a : Option Addr} {n c : Nat} {ts : List (List Int)} {TL : List Ob} (h : TlR TT a n c ts TL) : TlOk TT a ts TL /\ n = ts.length /\ (a = none -> c = 0) := by
 rcases h with ⟨rfl, rfl, rfl, rfl, rfl⟩ | ⟨b, op, rfl, h0, h1, h2, rfl⟩
 ·exact ⟨.inl ⟨rfl, rfl, fun b hb => by cases hb⟩, rfl, fun _ => rfl⟩
 ·exact ⟨.inr ⟨b, op, rfl, rfl⟩, h1.symm, fun q => by cases q⟩
theorem TlR.spot {TT : Nat} {a : Option Addr} {n c : Nat} {ts : List (List Int)} {TL : List Ob} (h : TlR TT a n c ts TL) : ∀ b, a = some b -> b.spot = none := fun b hb => by
 rcases h with ⟨rfl, _⟩ | ⟨b', op, rfl, _⟩
 ·cases hb
 ·cases hb; rfl
theorem a_appT {P : Program} {C : Nat -> (CF -> Bool) -> Bool} {X : FuncId -> List Value -> St -> (Value -> St -> Bool) -> Bool} {s0 : St} {n nt : Nat} {env : List (Nat × Value)} {A A1 A2 UL : List Ob} {R : Value -> List Ob -> Prop} {TU k c : Nat} {a : Option Addr} {ts : List (List Int)} {more z : List Value} {x y : Ev.X} {yv : Value} (hU : TlR TU a k c ts UL) (hA : A = A1 ++ (UL ++ A2)) (hx : xv env x = some (.slice a k c)) (hy : xv env y = some yv) (hsrc : Src s0 A 4 1 more yv) (hm : (1 : Nat) ≠ 0) (hb1 : k + 1 <= 1048576) (hb2 : 32 * (k + 1) <= 1073741824)
 (h : ∀ b, R (.slice (some ⟨b, 0, none⟩) (k + 1) OPEN) (.row b TU true (limC ts ++ more) :: (A1 ++ A2))) : OpA P C X s0 n nt (.app TU 4 32 z false x y) env A R := by
 rcases hU with ⟨rfl, rfl, rfl, rfl, rfl⟩ | ⟨b, op, rfl, h0, hl, ht, rfl⟩
 ·subst hA
  exact a_appn hx hy hsrc hm (by omega) (by omega) (fun b => by have := h b; exact this)
 ·subst hA
  have hd : Del (A1 ++ ([.row b TU op (limC ts)] ++ A2)) b TU op (limC ts) (A1 ++ A2) := by
   clear hsrc h
   induction A1 with
   | nil => exact .here
   | cons q A1 ih => exact .next ih
  exact a_app hx hy hsrc hd (by rw [limC_len, hl]) ht hm (by omega) (by omega) h
section
variable {X : FuncId -> List Value -> St -> (Value -> St -> Bool) -> Bool}
theorem mod_s (n : Nat) (x m : Int) (s : St) (hs : Wf s) (hm : 0 < m /\ m <= 4000000000) : Spec Try.prog (tabK tabw) X (n + 60) 14 [.int .i64 x, .int .i64 m] s (fun v A => v = .int .i64 (modN x m) /\ A = []) := by
 refine enter bw14_at rfl hs ?_
 unfold bw14
 have hq := tmodP_bd (x := x) hm.1
 refine rS (kM rfl rfl (i_nil (rS (kM rfl rfl (kM rfl rfl (kO rfl (a_rem rfl rfl (by omega) (kM rfl rfl (kO rfl (a_add rfl rfl (by omega) (kM rfl rfl (kO rfl (a_rem rfl rfl (by omega) (kM rfl rfl (i_nil (r_ret ?_))))))))))))))))
 exact end1 rfl ⟨rfl, rfl⟩
theorem made_s (n : Nat) (r0 : Int) (ar : Option Addr) (cr : Nat) (rs : List (List Int)) (s : St) (hs : Wf s) (hn : 562949953421312 <= n) (hR : RowsE s 4 ar rs) : Spec Try.prog (tabK tabw) X (n + 800) 8 [.agg ⟨[.int .i64 r0, .slice ar rs.length cr]⟩] s (fun v A => ∃ al cl TL, v = .agg ⟨[.int .i64 (mdM r0 : Int), .slice al (mdL (mdM r0) rs).length cl]⟩ /\ A = TL /\ TlR 38 al (mdL (mdM r0) rs).length cl (mdL (mdM r0) rs) TL) := by
 refine enter bw8_at rfl hs ?_
 unfold bw8
 have hlen := hR.len
 obtain ⟨hM1, hM6, hMe⟩ := mdM_bd (r0 := r0)
 have hmr := modN_bd (x := r0) (m := 6) (by decide)
 generalize hMg : mdM r0 = M at *
 refine rS (kO rfl (a_box rfl rfl rfl (fun b1 => (kO rfl (a_new rfl rfl (fun b2 => (i_nil (rS (kO rfl (a_fa rfl (kO rfl (a_ld rfl (.next .here) rfl (kO rfl (a_callV rfl rfl (fun s1 h1 => mod_s _ _ _ s1 h1.wf (by omega)) (kO rfl (a_add rfl rfl (by omega) ?_))))))))))))))))
 rw [hMe]
 refine kO rfl (a_build rfl rfl (kO rfl (a_new rfl rfl (fun b3 => (kZ rfl (a_sta rfl rfl .here rfl rfl rfl rfl (i_nil (rQ (rS (kO rfl (a_fa rfl (kO rfl (a_ld rfl (.next (.next .here)) rfl (kO rfl (a_lenx rfl hR.spot (kM rfl rfl (i_nil (r_block ?_))))))))))))))))))
 refine r_loop (fun j e A => ∃ (k : Nat) (aT : Option Addr) (n9 cp : Nat) (TL : List Ob), e = [(2, .pointer (some ⟨b2, 0, none⟩)), (3, .pointer (some ⟨b3, 0, none⟩)), (14, .slice ar rs.length cr), (15, .int .i64 (rs.length : Int)), (16, .int .i64 (k : Int))] /\ A = (TL ++ (.row b3 29 false ([.int .i64 (M : Int), .slice aT n9 cp]) :: (.row b2 29 false ([.int .i64 0, .slice none 0 0]) :: []))) /\ j = rs.length - k /\ k <= rs.length /\ k <= 20 /\ n9 = k /\ TlR 38 aT n9 cp (mdK M rs k) TL) 300 0 281474976710656 ?_ (j := _) (env2 := _) (A2 := _) ?_ ?_ ?_ ?_ ⟨0, none, 0, 0, [], rfl, rfl, rfl, Nat.zero_le _, Nat.zero_le _, rfl, (.inl ⟨rfl, rfl, rfl, rfl, rfl⟩)⟩
 rotate_left
 ·omega
 ·omega
 ·exact (lc 2 rfl (lc 3 rfl (lc 14 rfl (lc 15 rfl (lc 16 rfl Less.nil)))))
 ·exact (.q (.q (.cons _ .slnil)))
 rintro n hn j _ _ ⟨k, aT, n9, cp, TL, rfl, rfl, rfl, hk, hk20, hn9, hU⟩
 have hsp9 := hU.spot
 refine rS (kO rfl (a_lss rfl rfl (fun h4 => ?_) (fun h4 => ?_)))
 ·obtain ⟨q4, o4, y0, y1, y2, y3, ahR, hx, hat, i0, i1, i2, i3⟩ := hR.row4 (k := k) (by omega)
  have hat2 := hat
  obtain ⟨d0, d1, d2, d3, _⟩ := hat2
  have m0 := modN_bd (x := y0) (m := (M : Int) + 1) (by omega)
  have m1 := modN_bd (x := y1) (m := (M : Int)) (by omega)
  have m2 := modN_bd (x := y2) (m := 141) (by decide)
  have m3 := modN_bd (x := y3) (m := 6) (by decide)
  refine i_nil (rQ (r_cond_t rfl (r_skip (then_n (rQ (r_block (rS (kM rfl rfl (kO rfl (a_iaA (j := k) ahR rfl rfl (by first | rfl | omega) (by first | decide | omega) (kO rfl (a_ldar rfl (by decide) (by assumption) rfl (kO rfl (a_new rfl rfl (fun b5 => (kM rfl rfl (kZ rfl (a_sta rfl rfl .here rfl rfl rfl rfl (i_nil (rQ (rS (kM rfl rfl (kO rfl (a_eql rfl rfl (fun h6 => ?_) (fun h6 => ?_)))))))))))))))))))))))))
  ·refine i_nil (r_cond_t rfl (r_exit (then_e (block_miss rfl (then_e (then_e (block_hit (then_n (rS (kO rfl (a_lda rfl (by decide) (.next (.app .here)) rfl (kZ rfl (a_sta rfl rfl (.next (.app (.next .here))) rfl rfl rfl rfl (i_nil (r_ret ?_)))))))))))))))
   have hz9 : mdK M rs k = mdL M rs := by
    first
     | (rw [show k = 20 by omega]; exact mdK_20)
     | (rw [show k = rs.length by omega]; exact mdK_all (by omega))
   rw [hz9] at hU
   obtain ⟨hz1, hz2, hz3⟩ := hU.ok
   exact endcA rfl (by decide) (.cons _ (List.sublist_append_left _ _)) (.next (.app (.next .here))) rfl ⟨aT, cp, TL, by rw [<- hz2], rfl, hz2 ▸ hU⟩
  ·refine i_nil (r_cond_f rfl (r_skip (then_n (rS (kO rfl (a_iaa (j := 0) rfl rfl (by decide) (by decide) (kO rfl (a_ld rfl .here rfl (kO rfl (a_fa rfl (kO rfl (a_ld rfl (.next (.app .here)) rfl (kO rfl (a_add rfl rfl (by omega) (kO rfl (a_callV rfl rfl (fun s1 h1 => mod_s _ _ _ s1 h1.wf (by omega)) (kM rfl rfl (i_nil (rS (kM rfl rfl (kO rfl (a_add rfl rfl (by omega) (kO rfl (a_iaa (j := 1) rfl rfl (by decide) (by decide) (kO rfl (a_ld rfl .here rfl (kO rfl (a_fa rfl (kO rfl (a_ld rfl (.next (.app .here)) rfl (kO rfl (a_fa rfl (kO rfl (a_ld rfl (.next (.app .here)) rfl (kO rfl (a_add rfl rfl (by omega) (kO rfl (a_callV rfl rfl (fun s1 h1 => mod_s _ _ _ s1 h1.wf (by omega)) ?_))))))))))))))))))))))))))))))))))))))
   refine kZ rfl (a_again rfl rfl (.next (.app .here)) rfl (by simp [eqV, eqA, eqL, kindEq, intEq_eq, eqV_sl hR.spot, eqV_sl hsp9]) (kO rfl (a_add rfl rfl (by omega) (kO rfl (a_callV rfl rfl (fun s1 h1 => mod_s _ _ _ s1 h1.wf (by omega)) (kM rfl rfl (i_nil (rI (kO rfl (a_fa rfl (kO rfl (a_ld rfl (.next (.app .here)) rfl (kM rfl rfl (kM rfl rfl (kO rfl (a_iaa (j := 2) rfl rfl (by decide) (by decide) (kO rfl (a_ld rfl .here rfl (kO rfl (a_iaa (j := 3) rfl rfl (by decide) (by decide) (kO rfl (a_ld rfl .here rfl (kO rfl (a_callV rfl rfl (fun s1 h1 => mod_s _ _ _ s1 h1.wf (by omega)) (kZ rfl (a_again rfl rfl .here rfl (by simp [eqV, eqA, eqL, kindEq, intEq_eq, eqV_sl hR.spot, eqV_sl hsp9]) (kZ rfl (a_again rfl rfl (.next (.app .here)) rfl (by simp [eqV, eqA, eqL, kindEq, intEq_eq, eqV_sl hR.spot, eqV_sl hsp9]) (kO rfl (a_sub rfl rfl (by omega) (kO rfl (a_callV rfl rfl (fun s1 h1 => mod_s _ _ _ s1 h1.wf (by omega)) (kZ rfl (a_again rfl rfl (.next (.app .here)) rfl (by simp [eqV, eqA, eqL, kindEq, intEq_eq, eqV_sl hR.spot, eqV_sl hsp9]) (kO rfl (a_add rfl rfl (by omega) (kO rfl (a_build rfl rfl (kO rfl (a_lit rfl rfl rfl (fun b7 => (kO rfl (a_appT (A1 := [_, _]) hU rfl rfl rfl (Src.own .here rfl (by simp)) (by decide) (by omega) (by omega) (fun b8 => ?_))))))))))))))))))))))))))))))))))))))))))))
   refine kO rfl (a_fa rfl (kZ rfl (a_st rfl rfl (.next (.next (.next .here))) rfl rfl (i_nil (block_n (then_n (rI (kO rfl (a_add rfl rfl (by omega) (kM rfl rfl (i_nil (then_n ?_))))))))))))
   exact ⟨rfl, _, _, _, (show rs.length - (k + 1) < rs.length - k by omega), (lc 2 rfl (lc 3 rfl (lc 14 rfl (lc 15 rfl (lc 16 rfl Less.nil))))), (.q (.cons _ (.cons _ (.q (.q .slnil))))), ⟨k + 1, some ⟨b8, 0, none⟩, n9 + 1, OPEN, [.row b8 38 true (limC (mdK M rs (k + 1)))], rfl, (by rw [<- mdK_app hx]; rfl), rfl, by omega, by omega, by omega, (.inr ⟨_, _, rfl, by omega, by rw [mdK_len (by omega)]; omega, .inl ⟨rfl, rfl⟩, rfl⟩)⟩⟩
 ·refine i_nil (rQ (r_cond_f rfl (r_exit (then_e (then_e (block_hit (then_n (rS (kO rfl (a_lda rfl (by decide) (.app .here) rfl (kZ rfl (a_sta rfl rfl (.app (.next .here)) rfl rfl rfl rfl (i_nil (r_ret ?_))))))))))))))
  have hz9 : mdK M rs k = mdL M rs := by
   first
    | (rw [show k = 20 by omega]; exact mdK_20)
    | (rw [show k = rs.length by omega]; exact mdK_all (by omega))
  rw [hz9] at hU
  obtain ⟨hz1, hz2, hz3⟩ := hU.ok
  exact endcA rfl (by decide) (List.sublist_append_left _ _) (.app (.next .here)) rfl ⟨aT, cp, TL, by rw [<- hz2], rfl, hz2 ▸ hU⟩
end
end Ev
end Go.Proofs.Ytoeklhdklcpllaa
namespace Go.Proofs.Ytoeklhdklcpllaa
open Go Go.RowKit
namespace Ev
theorem Spec.imp {P : Program} {C : Nat -> (CF -> Bool) -> Bool} {X : FuncId -> List Value -> St -> (Value -> St -> Bool) -> Bool} {n : Nat} {f : FuncId} {vs : List Value} {s : St} {Q Q' : Value -> List Ob -> Prop} (h : Spec P C X n f vs s Q) (hq : ∀ v A, Q v A -> Q' v A) : Spec P C X n f vs s Q' := h.mono (fun v s' q => by obtain ⟨A, h1, h2⟩ := q; exact ⟨A, h1, hq v A h2⟩)
section
variable {X : FuncId -> List Value -> St -> (Value -> St -> Bool) -> Bool}
theorem Most_v (n : Nat) (M : Nat) (al : Option Addr) (cl : Nat) (ls : List (List Int)) (aw : Option Addr) (cw : Nat) (w : List Int) (s : St) (hs : Wf s) (hn : 7318349394477056 <= n) (hL : RowsE s 4 al ls) (hcl : al = none -> cl = 0) (hW : IntsE s aw w) (hCap : CapOk s aw (M + 1) cw) (hsys : sysE (M : Int) ls = 0) (hwl : w.length = M + 1) (hwo : WOk w w.length) : Spec Try.prog (tabK tabw) X (n + 10000) 10 [.agg ⟨[.int .i64 (M : Int), .slice al ls.length cl]⟩, .slice aw (M + 1) cw] s (fun v A => (Uns ls (M + 1) /\ v = .tuple #[.int .i64 0, .int .i64 23] /\ A = []) ∨ (¬ Uns ls (M + 1) /\ Opn ls (M + 1) (du0 w M) /\ v = .tuple #[.int .i64 0, .int .i64 22] /\ A = []) ∨ (¬ Uns ls (M + 1) /\ ∃ t p, Opt ls (M + 1) (du0 w M) t p /\ tot t ls.length <= 230400000000000 /\ (∀ v, v < M + 1 -> -1300000 <= p v /\ p v <= 30000000) /\ v = .tuple #[.int .i64 (tot (fun i => t i * lw ls i) ls.length), .int .i64 0] /\ A = [])) := by
 have h := Most_s n (M : Int) al cl ls aw cw w s hs hn hL hcl hW (by rw [hwl]; exact hCap) (X := X)
 rw [hwl] at h
 refine h.imp (fun v A q => ?_)
 rcases q with ⟨q, _⟩ | ⟨_, q, _⟩ | ⟨_, _, q1, q2⟩ | ⟨_, _, q1, q2, q3⟩ | ⟨_, _, q1, q2⟩
 ·exact absurd hsys q
 ·exact absurd ⟨by omega, by rw [<- hwl]; exact hwo⟩ q
 ·exact .inl ⟨q1, q2⟩
 ·exact .inr (.inl ⟨q1, q2, q3⟩)
 ·exact .inr (.inr ⟨q1, q2⟩)
end
end Ev
end Go.Proofs.Ytoeklhdklcpllaa
namespace Go.Proofs.Ytoeklhdklcpllaa
open Go Go.RowKit
namespace Ev
theorem DT.uniq {ls : List (List Int)} {N : Nat} {D D' : Nat -> Nat -> Int} (h : DT ls N D) (h' : DT ls N D') : ∀ a b, a < N -> b < N -> D a b = D' a b := fun a b ha hb => by
 have key : ∀ {D D' : Nat -> Nat -> Int}, DT ls N D -> DT ls N D' -> ¬ D a b = 1000000000 -> ¬ D' a b = 1000000000 /\ D' a b <= D a b := fun {D D'} h h' q => by
  have hw := (h a ha).way b hb q
  have ho := (h' a ha).own
  have := (h' a ha).walk hw (by omega)
  exact ⟨this.1, by omega⟩
 by_cases q : D a b = 1000000000
 ·by_cases q' : D' a b = 1000000000
  ·rw [q, q']
  ·exact absurd q (key h' h q').1
 ·obtain ⟨k1, k2⟩ := key h h' q
  have := (key h' h k1).2
  omega
def wU (a b v : Nat) : Int := (if b = v then 1 else 0) - (if a = v then 1 else 0)
theorem wU_tot {x : Nat -> Int} {a b N : Nat} (ha : a < N) (hb : b < N) : tot (fun v => x v * wU a b v) N = x b - x a := by
 have e : ∀ v, v < N -> x v * wU a b v = (if b = v then x v else 0) - (if a = v then x v else 0) := fun v _ => by
  unfold wU
  rw [Int.mul_sub]
  congr 1
  ·split <;> simp
  ·split <;> simp
 rw [tot_congr e, tot_sub, tot_one (c := x) hb, tot_one (c := x) ha]
theorem wU_du {w : List Int} {a b M : Nat} (ha : a < M + 1) (hb : b < M + 1) (hw : ∀ v, v < M + 1 -> w.getD v 0 = wU a b v) : ∀ v, v < M + 1 -> du0 w M v = wU a b v := by
 have h1 : ∀ v, 1 <= v -> v < M + 1 -> du0 w M v = wU a b v := fun v h1 h2 => by
  rw [show du0 w M v = w.getD v 0 from updX_ne (x := fun v => w.getD v 0) (by omega)]; exact hw v h2
 have h0 : tot (wU a b) (M + 1) = 0 := by
  have := wU_tot (x := fun _ => 1) ha hb
  rw [tot_congr (f := fun v => 1 * wU a b v) (g := wU a b) (fun v _ => Int.one_mul _)] at this
  omega
 have h2 := du_tot (w := w) (M := M)
 have key : ∀ k, k <= M -> tot (du0 w M) (k + 1) - tot (wU a b) (k + 1) = du0 w M 0 - wU a b 0 := by
  intro k
  induction k with
  | zero => intro _; show 0 + du0 w M 0 - (0 + wU a b 0) = _; omega
  | succ k ih =>
   intro hk
   have a1 := ih (by omega)
   have a2 := h1 (k + 1) (by omega) (by omega)
   show tot (du0 w M) (k + 1) + du0 w M (k + 1) - (tot (wU a b) (k + 1) + wU a b (k + 1)) = _
   omega
 have h3 := key M (Nat.le_refl _)
 intro v hv
 by_cases e : v = 0
 ·subst e; omega
 ·exact h1 v (by omega) hv
theorem cl_opn {ls : List (List Int)} {M : Nat} {D : Nat -> Nat -> Int} {a b : Nat} {w : List Int} (hl : lmB (M : Int) ls = true) (hD : DT ls (M + 1) D) (ha : a < M + 1) (hb : b < M + 1) (hw : ∀ v, v < M + 1 -> w.getD v 0 = wU a b v) (h : Opn ls (M + 1) (du0 w M)) : D a b = 1000000000 := by
 refine Classical.byContradiction (fun q => ?_)
 obtain ⟨U, h1, h2⟩ := h
 rw [tot_congr (fun v hv => by rw [wU_du ha hb hw v hv]), wU_tot ha hb] at h2
 have hwk := (hD a ha).way b hb q
 have key : ∀ {c d : Nat} {z : Int}, Wk ls c d z -> U d = true -> U c = true := fun h => by
  induction h with
  | nil => exact fun q => q
  | step hi _ ih => exact fun q => ih (h1 _ hi q)
 have := key hwk
 unfold ind at h2
 split at h2 <;> split at h2 <;> simp_all
theorem cl_opt {ls : List (List Int)} {M : Nat} {D : Nat -> Nat -> Int} {a b : Nat} {w : List Int} {t p y : Nat -> Int} (hl : lmB (M : Int) ls = true) (hD : DT ls (M + 1) D) (hS : Sm D (M + 1)) (hy : ∀ i, i < ls.length -> y (lb ls i) <= y (la ls i) + lw ls i) (hyb : ∀ a, a < M + 1 -> -1300000 <= y a /\ y a <= 0) (ha : a < M + 1) (hb : b < M + 1) (hw : ∀ v, v < M + 1 -> w.getD v 0 = wU a b v) (h : Opt ls (M + 1) (du0 w M) t p) : ¬ D a b = 1000000000 /\ tot (fun i => t i * lw ls i) ls.length = D a b := by
 have hN := hN_of hl
 have hd := hD a ha
 have h1 : ¬ D a b = 1000000000 := fun q => by
  refine Opn.not (ls := ls) (N := M + 1) (w := du0 w M) ⟨fun v => decide (D a v = 1000000000), fun i hi q2 => ?_, ?_⟩ hN h.nn h.nt
  ·have q2 : D a (lb ls i) = 1000000000 := of_decide_eq_true q2
   refine decide_eq_true (Classical.byContradiction (fun q3 => (hd.fix i hi q3).1 q2))
  ·rw [tot_congr (fun v hv => by rw [wU_du ha hb hw v hv]), wU_tot ha hb]
   unfold ind
   rw [if_pos (decide_eq_true q), if_neg (by rw [decide_eq_true_eq, hd.own]; decide)]; decide
 refine ⟨h1, ?_⟩
 have e1 : tot (fun v => p v * du0 w M v) (M + 1) = p b - p a := by rw [tot_congr (fun v hv => by rw [wU_du ha hb hw v hv]), wU_tot ha hb]
 have h2 := h.eq hN
 have h3 := (hd.way b hb h1).pot h.st
 have h4 := h.le hN (x := fun v => if D a v = 1000000000 then y v + 10000000 else D a v) (fun i hi => by
  obtain ⟨ka, kb⟩ := hN i hi
  have b1 := hyb _ ka
  have b2 := hyb _ kb
  have b3 := hy i hi
  have b4 := lw_bd' hl hi
  by_cases c1 : D a (la ls i) = 1000000000
  ·rw [if_pos c1]
   by_cases c2 : D a (lb ls i) = 1000000000
   ·rw [if_pos c2]; omega
   ·rw [if_neg c2]
    have := (hS.hi a (lb ls i) ha kb).resolve_left c2
    omega
  ·obtain ⟨c2, c3⟩ := hd.fix i hi c1
   rw [if_neg c1, if_neg c2]; exact c3)
 rw [tot_congr (fun v hv => by rw [wU_du ha hb hw v hv]), wU_tot ha hb] at h4
 rw [if_neg h1, if_neg (by rw [hd.own]; decide), hd.own] at h4
 omega
theorem mod_nat {z : Int} {n : Nat} (h : 0 < n) : ∃ q : Nat, modN z (n : Int) = (q : Int) /\ q < n := by
 have := modN_bd (x := z) (m := (n : Int)) (by omega)
 exact ⟨(modN z (n : Int)).toNat, by omega, by omega⟩
theorem uw_get {n a b : Nat} (ha : a < n) (hb : b < n) : ∀ v, v < n -> (((List.replicate n 0).set b ((List.replicate n 0).getD b 0 + 1)).set a (((List.replicate n 0).set b ((List.replicate n 0).getD b 0 + 1)).getD a 0 - 1)).getD v 0 = wU a b v := fun v hv => by
 have r : ∀ k, k < n -> (List.replicate n (0 : Int)).getD k 0 = 0 := fun k hk => by rw [List.getD_eq_getElem?_getD, List.getElem?_replicate, if_pos hk]; rfl
 have g : ∀ {l : List Int} {i j : Nat} {z : Int}, i < l.length -> (l.set i z).getD j 0 = if i = j then z else l.getD j 0 := fun {l i j z} hi => by
  rw [List.getD_eq_getElem?_getD, List.getElem?_set]
  by_cases e : i = j
  ·rw [if_pos e, if_pos e, if_pos hi]; rfl
  ·rw [if_neg e, if_neg e, <- List.getD_eq_getElem?_getD]
 rw [g (by simpa using ha), g (by simpa using hb), g (by simpa using hb), r _ hb, r _ hv]
 unfold wU
 by_cases e1 : a = v
 ·subst e1
  rw [if_pos rfl, if_pos rfl]
  by_cases e2 : b = a
  ·rw [if_pos e2, if_pos e2]; rfl
  ·rw [if_neg e2, if_neg e2, r _ ha]
 ·rw [if_neg e1, if_neg e1]
  by_cases e2 : b = v
  ·rw [if_pos e2, if_pos e2]; rfl
  ·rw [if_neg e2, if_neg e2]; rfl
theorem uw_ok {w : List Int} {a b M : Nat} (ha : a < M + 1) (hb : b < M + 1) (hl : w.length = M + 1) (hw : ∀ v, v < M + 1 -> w.getD v 0 = wU a b v) (hM : M <= 64) : WOk w w.length /\ ∀ z ∈ w, -9223372036854775808 <= z /\ z < 9223372036854775808 := by
 have hb1 : ∀ v, v < M + 1 -> -1 <= w.getD v 0 /\ w.getD v 0 <= 1 := fun v hv => by
  rw [hw v hv]; unfold wU
  split <;> split <;> omega
 have key : ∀ k, k <= M + 1 -> szs w k <= (k : Int) := by
  intro k
  induction k with
  | zero => intro _; exact Int.le_refl _
  | succ k ih =>
   intro hk
   have a1 := ih (by omega)
   have a2 := hb1 k (by omega)
   show szs w k + max (w.getD k 0) (-(w.getD k 0)) <= _
   omega
 refine ⟨fun k hk => by have := key (k + 1) (by omega); omega, fun z hz => ?_⟩
 obtain ⟨j, hj, e⟩ := List.mem_iff_getElem.1 hz
 have := hb1 j (by omega)
 rw [List.getD_eq_getElem?_getD, List.getElem?_eq_getElem hj, e] at this
 have this : -1 <= z /\ z <= 1 := this
 omega
section
variable {X : FuncId -> List Value -> St -> (Value -> St -> Bool) -> Bool}
end
end Ev
end Go.Proofs.Ytoeklhdklcpllaa
namespace Go.Proofs.Ytoeklhdklcpllaa
open Go Go.RowKit
namespace Ev
section
variable {X : FuncId -> List Value -> St -> (Value -> St -> Bool) -> Bool}
set_option maxHeartbeats 2000000 in
set_option maxRecDepth 100000 in
theorem BoundClosed_s (n : Nat) (r0 : Int) (ar : Option Addr) (cr : Nat) (rs : List (List Int)) (a1 : Option Addr) (c1 : Nat) (l1 : List Int) (z0 z1 : Int) (s : St) (hs : Wf s) (hn : 11258999068426240 <= n) (hR : RowsE s 4 ar rs) (hI1 : IntsE s a1 l1) : Spec Try.prog (tabK tabw) (knownX 12) (n + 12000) 5 [.agg ⟨[.int .i64 r0, .slice ar rs.length cr]⟩, .slice a1 l1.length c1, .agg ⟨[.int .i64 z0, .int .i64 z1]⟩] s (fun v A => v = .bool true /\ A = []) := by
 refine enter bw5_at rfl hs ?_
 unfold bw5
 have hlen := hR.len
 have hlen1 := hI1.len
 refine rS (kO rfl (a_box rfl rfl rfl (fun b1 => (kO rfl (a_box rfl rfl rfl (fun b2 => (kM rfl rfl (i_nil (rS (kO rfl (a_lda rfl (by decide) (.next .here) rfl (kO rfl (a_call rfl rfl (fun s1 h1 => made_s _ r0 ar cr rs s1 h1.wf (by omega) (hR.ext hs h1.2.1)) (fun v1 A1 q1 => ?_))))))))))))))
 obtain ⟨aT, cT, TL, rfl, hA9, hTR⟩ := q1
 rw [hA9]
 obtain ⟨hM1, hM6, hMe⟩ := mdM_bd (r0 := r0)
 generalize mdM r0 = M at *
 have hlm := mdL_lm (rs := rs) hM1 hM6
 have hlw := mdL_w (rs := rs) hM1 hM6
 have hft := mdL_fit (rs := rs) hM1 hM6
 have hsys := mdL_sys (rs := rs) hM1 hM6
 have hl20 := mdL_len (M := M) (rs := rs)
 generalize mdL M rs = ls at *
 obtain ⟨hTL, _, hcl⟩ := hTR.ok
 have hLg := lg_of hlm
 have h400 : ls.length <= 400 := by omega
 have hM : M <= 64 := by omega
 refine kO rfl (a_new rfl rfl (fun b3 => (kZ rfl (a_sta rfl rfl .here rfl rfl rfl rfl (i_nil (rS (kO rfl (a_lda rfl (by decide) .here rfl (kO rfl (a_call rfl rfl (fun s1 h1 => Close_s _ (M : Int) aT cT ls s1 h1.wf (by omega) (hTL.rows (.cons _ (List.sublist_append_left _ _)) h1 hLg (by omega) (by omega) hft)) (fun v1 A1 q1 => ?_)))))))))))
 rcases q1 with ⟨hc, rfl, rfl⟩ | ⟨hc, hc2, rfl, rfl⟩ | ⟨hc, hc2, q1⟩
 ·exact absurd hsys hc
 ·change Uns ls (M + 1) at hc2
  refine kM rfl rfl (kO rfl (a_ext rfl rfl (kO rfl (a_ext rfl rfl (kM rfl rfl (kM rfl rfl (i_nil (rS (kO rfl (a_lda rfl (by decide) .here rfl (kM rfl rfl (kO rfl (a_call rfl rfl (fun s1 h1 => Point_s _ (M : Int) aT cT ls a1 c1 l1 s1 h1.wf (by omega) (hTL.rows (.cons _ (List.sublist_append_left _ _)) h1 hLg (by omega) (by omega) hft) (hI1.ext hs h1.2.1)) (fun v1 A1 q1 => ?_))))))))))))))
  rcases q1 with ⟨hp, rfl, rfl⟩ | ⟨hp, hpu, rfl, rfl⟩ | ⟨hp, hpu, q1⟩
  ·exact absurd hsys hp
  ·change Uns ls (M + 1) at hpu
   refine kM rfl rfl (kO rfl (a_ext rfl rfl (kO rfl (a_ext rfl rfl (kM rfl rfl (kM rfl rfl (i_nil (rQ (rS (kM rfl rfl (kO rfl (a_neq rfl rfl (fun _ => (i_nil (r_cond_t rfl (rS (kM rfl rfl (kO rfl (a_eql rfl rfl (fun _ => (kM rfl rfl (kG rfl rfl (a_mov rfl (kG rfl rfl (a_mov rfl (kG rfl rfl (a_eql rfl rfl (fun _ => (kO rfl (a_pick_t rfl rfl rfl (kM rfl rfl (kG rfl rfl (a_callV rfl rfl (fun s1 h1 => known_s _ s1 h1.wf) (kO rfl (a_pick_t rfl rfl rfl (kM rfl rfl ?_))))))))) (fun h => absurd h (by decide)))))))))) (fun h => absurd h (by decide))))))))) (fun h => absurd h (by decide))))))))))))))
   refine i_nil (r_ret (then_r ?_))
   exact end1 rfl ⟨rfl, rfl⟩
  ·exact absurd hc2 hpu
 ·obtain ⟨bt4, B5, D, rfl, rfl, hDT⟩ := q1
  change ¬ Uns ls (M + 1) at hc2
  change DT ls (M + 1) D at hDT
  rw [List.append_assoc, List.singleton_append]
  rw [show ((M : Int).toNat) = M from rfl]
  obtain ⟨y, hy, hyb⟩ := set_pt hlm h400 hM hc2
  have hS := hDT.sm hy hyb
  have hun := hc2
  refine kM rfl rfl (kO rfl (a_ext rfl rfl (kO rfl (a_ext rfl rfl (kM rfl rfl (kM rfl rfl (i_nil (rS (kO rfl (a_lda rfl (by decide) (.app (.next .here)) rfl (kM rfl rfl (kO rfl (a_call rfl rfl (fun s1 h1 => Point_s _ (M : Int) aT cT ls a1 c1 l1 s1 h1.wf (by omega) (hTL.rows (List.sublist_append_of_sublist_right (.cons _ (.cons _ (List.sublist_append_left _ _)))) h1 hLg (by omega) (by omega) hft) (hI1.ext hs h1.2.1)) (fun v1 A1 q1 => ?_))))))))))))))
  rcases q1 with ⟨hp, rfl, rfl⟩ | ⟨hp, hpu, rfl, rfl⟩ | ⟨hp, hpu, q1⟩
  ·exact absurd hsys hp
  ·exact absurd hpu hc2
  ·obtain ⟨bp10, opp, cpp, Dp, rfl, rfl, hDTp⟩ := q1
   change ¬ Uns ls (M + 1) at hpu
   change DT ls (M + 1) Dp at hDTp
   rw [show ((M : Int).toNat) = M from rfl, List.singleton_append]
   have hSp := hDTp.sm hy hyb
   have hpt := ptL_pt (ps := l1) hlm hDTp hSp hM
   have hfit := nb_fit (ptL_ok (ps := l1) hDTp hSp hM (Nat.le_refl M)).2.1 (by omega)
   have hx0 := (ptL_ok (ps := l1) hDTp hSp hM (Nat.le_refl M)).2.2
   have hsm := ptL_sm (ps := l1) hDTp hSp (hDTp.smC hlm hy hlw (by decide) hM6) (by decide) hM (Nat.le_refl M)
   have hln : (ptL Dp l1 M).length = M + 1 := ptL_len
   have hPk := (ptL_ok (ps := l1) hDTp hSp hM (Nat.le_refl M)).1
   generalize ptL Dp l1 M = x at *
   have hxb : inB (-1280000) 1280000 x = true := in_upto (k := M + 1) (fun u hu => by have := hsm u (by omega); omega) (by omega)
   have hkx := kp_all hlm (pt_kp hpt)
   have hPD : ∀ a b, a < M + 1 -> b < M + 1 -> ¬ D a b = 1000000000 -> x.getD b 0 - x.getD a 0 <= D a b := fun a b h1 h2 h3 => by have e := DT.uniq hDT hDTp a b h1 h2; rw [e] at h3 ⊢; exact hPk a b (by omega) (by omega) h3
   refine kM rfl rfl (kO rfl (a_ext rfl rfl (kO rfl (a_ext rfl rfl (kM rfl rfl (kM rfl rfl (i_nil (rQ (rS (kM rfl rfl (kO rfl (a_neq rfl rfl (fun h => absurd h (by decide)) (fun _ => (i_nil (r_cond_f rfl (r_skip (then_n (rQ (rS (kM rfl rfl (kO rfl (a_neq rfl rfl (fun h => absurd h (by decide)) (fun _ => (kM rfl rfl (kG rfl rfl (a_mov rfl (kG rfl rfl (a_len rfl (kG rfl rfl (a_fa rfl (kG rfl rfl (a_ld rfl (.next (.app (.next .here))) rfl (kG rfl rfl (a_add rfl rfl (by omega) ?_))))))))))))))))))))))))))))))))))
   refine kG rfl rfl (a_neq rfl rfl (fun h13 => ?_) (fun h13 => ?_))
   ·exfalso; omega
   ·refine kO rfl (a_pick_f rfl rfl rfl (kM rfl rfl (kG rfl rfl (a_mov rfl (kG rfl rfl (a_len rfl (kG rfl rfl (a_mov rfl (kG rfl rfl (a_len rfl (kG rfl rfl (a_neq rfl rfl (fun h14 => ?_) (fun h14 => ?_)))))))))))))
    ·exfalso; omega
    ·refine kO rfl (a_pick_f rfl rfl rfl (i_nil (r_cond_f rfl (r_skip (then_n (rQ (rS (kM rfl rfl (kO rfl (a_len rfl (kM rfl rfl (i_nil (r_block ?_)))))))))))))
     refine r_loop (fun j e A => ∃ (k : Nat), e = [(5, .pointer (some ⟨b2, 0, none⟩)), (7, .pointer (some ⟨b3, 0, none⟩)), (8, .slice (some ⟨bt4, 0, none⟩) (M + 1) (M + 1)), (10, .slice (some ⟨bp10, 0, none⟩) (M + 1) cpp), (64, .int .i64 ((M + 1 : Nat) : Int)), (65, .int .i64 (k : Int))] /\ A = (.row bp10 3 opp (ints x) :: (seg B5 (M + 1) D (M + 1) ++ (.row bt4 25 false (slsT B5 (M + 1) (M + 1) (M + 1)) :: (.row b3 29 false ([.int .i64 (M : Int), .slice aT ls.length cT]) :: (TL ++ (.row b2 47 false ([.int .i64 z0, .int .i64 z1]) :: [])))))) /\ j = M + 1 - k /\ k <= M + 1) 200 0 281474976710656 ?_ (j := _) (env2 := _) (A2 := _) ?_ ?_ ?_ ?_ ⟨0, rfl, rfl, rfl, Nat.zero_le _⟩
     rotate_left
     ·omega
     ·omega
     ·exact (lc 5 rfl (lc 7 rfl (lc 8 rfl (lc 10 rfl (lc 64 rfl (lc 65 rfl Less.nil))))))
     ·exact (.q (.r (.q (.q (.r (.q (.cons _ .slnil)))))))
     rintro n hn j _ _ ⟨k, rfl, rfl, rfl, hk⟩
     refine rS (kO rfl (a_lss rfl rfl (fun h15 => ?_) (fun h15 => ?_)))
     ·refine i_nil (rQ (r_cond_t rfl (r_skip (then_n (rQ (r_block (rS (kM rfl rfl (kM rfl rfl (i_nil (rS (kM rfl rfl (kM rfl rfl (kO rfl (a_ia (j := k) rfl rfl (by omega) (by omega) (kO rfl (a_ld rfl (.next (.app .here)) (sls_get (by omega) (by omega)) (kO rfl (a_len rfl (kM rfl rfl (kO rfl (a_len rfl (kO rfl (a_neq rfl rfl (fun h16 => ?_) (fun h16 => ?_)))))))))))))))))))))))))
      ·exfalso; omega
      ·refine kM rfl rfl (kG rfl rfl (a_mov rfl (kG rfl rfl (a_mov rfl (kG rfl rfl (a_ia (j := k) rfl rfl (by omega) (by omega) (kG rfl rfl (a_ld rfl (.next (.app .here)) (sls_get (by omega) (by omega)) (kG rfl rfl (a_mov rfl (kG rfl rfl (a_ia (j := k) rfl rfl (by omega) (by omega) (kG rfl rfl (a_ldX (x := (D) (k) (k)) rfl (.next (own_seg (by omega))) (by rw [rowT_len]; omega) (rowT_get (by omega)) (kG rfl rfl (a_neq rfl rfl (fun h17 => ?_) (fun h17 => ?_)))))))))))))))))
       ·exfalso; have := (hDT k (by omega)).own; omega
       ·refine kO rfl (a_pick_f rfl rfl rfl (i_nil (r_cond_f rfl (r_skip (block_n (then_n (rI (kO rfl (a_add rfl rfl (by omega) (kM rfl rfl (i_nil (then_n ?_))))))))))))
        exact ⟨rfl, _, _, _, (show M + 1 - (k + 1) < M + 1 - k by omega), (lc 5 rfl (lc 7 rfl (lc 8 rfl (lc 10 rfl (lc 64 rfl (lc 65 rfl Less.nil)))))), (.q (.r (.q (.q (.r (.q .slnil)))))), ⟨k + 1, rfl, rfl, rfl, by omega⟩⟩
     ·have hke : k = M + 1 := by omega
      refine i_nil (rQ (r_cond_f rfl (r_exit (then_e (then_e (block_hit (then_n (rQ (rS (kM rfl rfl (kO rfl (a_len rfl (kM rfl rfl (i_nil (r_block ?_)))))))))))))))
      refine r_loop (fun j e A => ∃ (ka : Nat), e = [(5, .pointer (some ⟨b2, 0, none⟩)), (7, .pointer (some ⟨b3, 0, none⟩)), (8, .slice (some ⟨bt4, 0, none⟩) (M + 1) (M + 1)), (10, .slice (some ⟨bp10, 0, none⟩) (M + 1) cpp), (88, .int .i64 ((M + 1 : Nat) : Int)), (89, .int .i64 (ka : Int))] /\ A = (.row bp10 3 opp (ints x) :: (seg B5 (M + 1) D (M + 1) ++ (.row bt4 25 false (slsT B5 (M + 1) (M + 1) (M + 1)) :: (.row b3 29 false ([.int .i64 (M : Int), .slice aT ls.length cT]) :: (TL ++ (.row b2 47 false ([.int .i64 z0, .int .i64 z1]) :: [])))))) /\ j = M + 1 - ka /\ ka <= M + 1) 800 562949953421312 281474976710656 ?_ (j := _) (env2 := _) (A2 := _) ?_ ?_ ?_ ?_ ⟨0, rfl, rfl, rfl, Nat.zero_le _⟩
      rotate_left
      ·omega
      ·omega
      ·exact (lc 5 rfl (lc 7 rfl (lc 8 rfl (lc 10 rfl (lc 88 rfl (lc 89 rfl Less.nil))))))
      ·exact (.q (.r (.q (.q (.r (.q .slnil))))))
      rintro n hn j _ _ ⟨ka, rfl, rfl, rfl, hka⟩
      refine rS (kO rfl (a_lss rfl rfl (fun h18 => ?_) (fun h18 => ?_)))
      ·refine i_nil (rQ (r_cond_t rfl (r_skip (then_n (rQ (r_block (rS (kM rfl rfl (kM rfl rfl (i_nil (rS (kM rfl rfl (kO rfl (a_len rfl (kM rfl rfl (i_nil (r_block ?_)))))))))))))))))
       refine r_loop (fun j e A => ∃ (kb : Nat), e = [(5, .pointer (some ⟨b2, 0, none⟩)), (7, .pointer (some ⟨b3, 0, none⟩)), (8, .slice (some ⟨bt4, 0, none⟩) (M + 1) (M + 1)), (10, .slice (some ⟨bp10, 0, none⟩) (M + 1) cpp), (13, .int .i64 (ka : Int)), (88, .int .i64 ((M + 1 : Nat) : Int)), (89, .int .i64 (ka : Int)), (93, .int .i64 ((M + 1 : Nat) : Int)), (94, .int .i64 (kb : Int))] /\ A = (.row bp10 3 opp (ints x) :: (seg B5 (M + 1) D (M + 1) ++ (.row bt4 25 false (slsT B5 (M + 1) (M + 1) (M + 1)) :: (.row b3 29 false ([.int .i64 (M : Int), .slice aT ls.length cT]) :: (TL ++ (.row b2 47 false ([.int .i64 z0, .int .i64 z1]) :: [])))))) /\ j = M + 1 - kb /\ kb <= M + 1) 400 281474976710656 281474976710656 ?_ (j := _) (env2 := _) (A2 := _) ?_ ?_ ?_ ?_ ⟨0, rfl, rfl, rfl, Nat.zero_le _⟩
       rotate_left
       ·omega
       ·omega
       ·exact (lc 5 rfl (lc 7 rfl (lc 8 rfl (lc 10 rfl (lc 13 rfl (lc 88 rfl (lc 89 rfl (lc 93 rfl (lc 94 rfl Less.nil)))))))))
       ·exact (.q (.r (.q (.q (.r (.q .slnil))))))
       rintro n hn j _ _ ⟨kb, rfl, rfl, rfl, hkb⟩
       refine rS (kO rfl (a_lss rfl rfl (fun h19 => ?_) (fun h19 => ?_)))
       ·refine i_nil (rQ (r_cond_t rfl (r_skip (then_n (rQ (r_block (rS (kM rfl rfl (kM rfl rfl (i_nil (rQ (rS (kM rfl rfl (kO rfl (a_len rfl (kM rfl rfl (i_nil (r_block ?_))))))))))))))))))
        refine r_loop (fun j e A => ∃ (kc : Nat), e = [(5, .pointer (some ⟨b2, 0, none⟩)), (7, .pointer (some ⟨b3, 0, none⟩)), (8, .slice (some ⟨bt4, 0, none⟩) (M + 1) (M + 1)), (10, .slice (some ⟨bp10, 0, none⟩) (M + 1) cpp), (13, .int .i64 (ka : Int)), (14, .int .i64 (kb : Int)), (88, .int .i64 ((M + 1 : Nat) : Int)), (89, .int .i64 (ka : Int)), (93, .int .i64 ((M + 1 : Nat) : Int)), (94, .int .i64 (kb : Int)), (98, .int .i64 ((M + 1 : Nat) : Int)), (99, .int .i64 (kc : Int))] /\ A = (.row bp10 3 opp (ints x) :: (seg B5 (M + 1) D (M + 1) ++ (.row bt4 25 false (slsT B5 (M + 1) (M + 1) (M + 1)) :: (.row b3 29 false ([.int .i64 (M : Int), .slice aT ls.length cT]) :: (TL ++ (.row b2 47 false ([.int .i64 z0, .int .i64 z1]) :: [])))))) /\ j = M + 1 - kc /\ kc <= M + 1) 200 0 281474976710656 ?_ (j := _) (env2 := _) (A2 := _) ?_ ?_ ?_ ?_ ⟨0, rfl, rfl, rfl, Nat.zero_le _⟩
        rotate_left
        ·omega
        ·omega
        ·exact (lc 5 rfl (lc 7 rfl (lc 8 rfl (lc 10 rfl (lc 13 rfl (lc 14 rfl (lc 88 rfl (lc 89 rfl (lc 93 rfl (lc 94 rfl (lc 98 rfl (lc 99 rfl Less.nil))))))))))))
        ·exact (.q (.r (.q (.q (.r (.q .slnil))))))
        rintro n hn j _ _ ⟨kc, rfl, rfl, rfl, hkc⟩
        refine rS (kO rfl (a_lss rfl rfl (fun h20 => ?_) (fun h20 => ?_)))
        ·refine i_nil (rQ (r_cond_t rfl (r_skip (then_n (rQ (r_block (rS (kM rfl rfl (kM rfl rfl (i_nil (rS (kM rfl rfl (kM rfl rfl (kO rfl (a_ia (j := ka) rfl rfl (by omega) (by omega) (kO rfl (a_ld rfl (.next (.app .here)) (sls_get (by omega) (by omega)) (kM rfl rfl (kO rfl (a_ia (j := kb) rfl rfl (by omega) (by omega) (kO rfl (a_ldX (x := (D) (ka) (kb)) rfl (.next (own_seg (by omega))) (by rw [rowT_len]; omega) (rowT_get (by omega)) (kO rfl (a_neq rfl rfl (fun h21 => ?_) (fun h21 => ?_)))))))))))))))))))))))))
         ·refine kM rfl rfl (kG rfl rfl (a_mov rfl (kG rfl rfl (a_mov rfl (kG rfl rfl (a_ia (j := kb) rfl rfl (by omega) (by omega) (kG rfl rfl (a_ld rfl (.next (.app .here)) (sls_get (by omega) (by omega)) (kG rfl rfl (a_mov rfl (kG rfl rfl (a_ia (j := kc) rfl rfl (by omega) (by omega) (kG rfl rfl (a_ldX (x := (D) (kb) (kc)) rfl (.next (own_seg (by omega))) (by rw [rowT_len]; omega) (rowT_get (by omega)) (kG rfl rfl (a_neq rfl rfl (fun h22 => ?_) (fun h22 => ?_)))))))))))))))))
          ·refine kO rfl (a_pick_t rfl rfl rfl (kM rfl rfl (kG rfl rfl (a_mov rfl (kG rfl rfl (a_mov rfl (kG rfl rfl (a_ia (j := ka) rfl rfl (by omega) (by omega) (kG rfl rfl (a_ld rfl (.next (.app .here)) (sls_get (by omega) (by omega)) (kG rfl rfl (a_mov rfl (kG rfl rfl (a_ia (j := kc) rfl rfl (by omega) (by omega) (kG rfl rfl (a_ldX (x := (D) (ka) (kc)) rfl (.next (own_seg (by omega))) (by rw [rowT_len]; omega) (rowT_get (by omega)) (kG rfl rfl (a_mov rfl (kG rfl rfl (a_mov rfl (kG rfl rfl (a_ia (j := ka) rfl rfl (by omega) (by omega) (kG rfl rfl (a_ld rfl (.next (.app .here)) (sls_get (by omega) (by omega)) (kG rfl rfl (a_mov rfl (kG rfl rfl (a_ia (j := kb) rfl rfl (by omega) (by omega) (kG rfl rfl (a_ldX (x := (D) (ka) (kb)) rfl (.next (own_seg (by omega))) (by rw [rowT_len]; omega) (rowT_get (by omega)) (kG rfl rfl (a_mov rfl (kG rfl rfl (a_mov rfl (kG rfl rfl (a_ia (j := kb) rfl rfl (by omega) (by omega) (kG rfl rfl (a_ld rfl (.next (.app .here)) (sls_get (by omega) (by omega)) (kG rfl rfl (a_mov rfl (kG rfl rfl (a_ia (j := kc) rfl rfl (by omega) (by omega) (kG rfl rfl (a_ldX (x := (D) (kb) (kc)) rfl (.next (own_seg (by omega))) (by rw [rowT_len]; omega) (rowT_get (by omega)) ?_))))))))))))))))))))))))))))))))))))))))))))
           have hs1 := hS.lo ka kb (by omega) (by omega)
           have hs2 := hS.hi ka kb (by omega) (by omega)
           have hs3 := hS.lo kb kc (by omega) (by omega)
           have hs4 := hS.hi kb kc (by omega) (by omega)
           refine kG rfl rfl (a_add rfl rfl (by omega) (kG rfl rfl (a_gtr rfl rfl (fun h23 => ?_) (fun h23 => ?_))))
           ·exfalso; have := (hDT.tri (a := ka) (b := kb) (c := kc) (by omega) (by omega) (by omega) (by assumption) (by assumption)).2; omega
           ·refine kO rfl (a_pick_t rfl rfl rfl (i_nil (r_cond_f rfl (r_skip (block_n (then_n (rI (kO rfl (a_add rfl rfl (by omega) (kM rfl rfl (i_nil (then_n ?_))))))))))))
            exact ⟨rfl, _, _, _, (show M + 1 - (kc + 1) < M + 1 - kc by omega), (lc 5 rfl (lc 7 rfl (lc 8 rfl (lc 10 rfl (lc 13 rfl (lc 14 rfl (lc 88 rfl (lc 89 rfl (lc 93 rfl (lc 94 rfl (lc 98 rfl (lc 99 rfl Less.nil)))))))))))), (.q (.r (.q (.q (.r (.q .slnil)))))), ⟨kc + 1, rfl, rfl, rfl, by omega⟩⟩
          ·refine kO rfl (a_pick_t rfl rfl rfl (kM rfl rfl (i_no rfl rfl (i_no rfl rfl (i_no rfl rfl (i_no rfl rfl (i_no rfl rfl (i_no rfl rfl (i_no rfl rfl (i_no rfl rfl (i_no rfl rfl (i_no rfl rfl (i_no rfl rfl (i_no rfl rfl (i_no rfl rfl (i_no rfl rfl (i_no rfl rfl (i_no rfl rfl (i_no rfl rfl (i_no rfl rfl (i_no rfl rfl (i_no rfl rfl (i_no rfl rfl (i_no rfl rfl ?_))))))))))))))))))))))))
           refine i_no rfl rfl (kO rfl (a_pick_f rfl rfl rfl (i_nil (r_cond_f rfl (r_skip (block_n (then_n (rI (kO rfl (a_add rfl rfl (by omega) (kM rfl rfl (i_nil (then_n ?_)))))))))))))
           exact ⟨rfl, _, _, _, (show M + 1 - (kc + 1) < M + 1 - kc by omega), (lc 5 rfl (lc 7 rfl (lc 8 rfl (lc 10 rfl (lc 13 rfl (lc 14 rfl (lc 88 rfl (lc 89 rfl (lc 93 rfl (lc 94 rfl (lc 98 rfl (lc 99 rfl Less.nil)))))))))))), (.q (.r (.q (.q (.r (.q .slnil)))))), ⟨kc + 1, rfl, rfl, rfl, by omega⟩⟩
         ·refine kM rfl rfl (i_no rfl rfl (i_no rfl rfl (i_no rfl rfl (i_no rfl rfl (i_no rfl rfl (i_no rfl rfl (i_no rfl rfl (i_no rfl rfl (kO rfl (a_pick_f rfl rfl rfl (kM rfl rfl (i_no rfl rfl (i_no rfl rfl (i_no rfl rfl (i_no rfl rfl (i_no rfl rfl (i_no rfl rfl (i_no rfl rfl (i_no rfl rfl (i_no rfl rfl (i_no rfl rfl (i_no rfl rfl (i_no rfl rfl (i_no rfl rfl ?_))))))))))))))))))))))))
          refine i_no rfl rfl (i_no rfl rfl (i_no rfl rfl (i_no rfl rfl (i_no rfl rfl (i_no rfl rfl (i_no rfl rfl (i_no rfl rfl (i_no rfl rfl (i_no rfl rfl (kO rfl (a_pick_f rfl rfl rfl (i_nil (r_cond_f rfl (r_skip (block_n (then_n (rI (kO rfl (a_add rfl rfl (by omega) (kM rfl rfl (i_nil (then_n ?_))))))))))))))))))))))
          exact ⟨rfl, _, _, _, (show M + 1 - (kc + 1) < M + 1 - kc by omega), (lc 5 rfl (lc 7 rfl (lc 8 rfl (lc 10 rfl (lc 13 rfl (lc 14 rfl (lc 88 rfl (lc 89 rfl (lc 93 rfl (lc 94 rfl (lc 98 rfl (lc 99 rfl Less.nil)))))))))))), (.q (.r (.q (.q (.r (.q .slnil)))))), ⟨kc + 1, rfl, rfl, rfl, by omega⟩⟩
        ·refine i_nil (rQ (r_cond_f rfl (r_exit (then_e (then_e (block_hit (then_n (rS (kM rfl rfl (kM rfl rfl (kO rfl (a_ia (j := ka) rfl rfl (by omega) (by omega) (kO rfl (a_ld rfl (.next (.app .here)) (sls_get (by omega) (by omega)) (kM rfl rfl (kO rfl (a_ia (j := kb) rfl rfl (by omega) (by omega) (kO rfl (a_ldX (x := (D) (ka) (kb)) rfl (.next (own_seg (by omega))) (by rw [rowT_len]; omega) (rowT_get (by omega)) (kO rfl (a_neq rfl rfl (fun h24 => ?_) (fun h24 => ?_))))))))))))))))))))))
         ·refine kM rfl rfl (kG rfl rfl (a_mov rfl (kG rfl rfl (a_mov rfl (kG rfl rfl (a_ia (j := kb) rfl rfl (by omega) (by omega) (kG rfl rfl (a_ldI rfl .here (by first | omega | (simp; done) | (simp; omega)) (kG rfl rfl (a_mov rfl (kG rfl rfl (a_mov rfl (kG rfl rfl (a_ia (j := ka) rfl rfl (by omega) (by omega) (kG rfl rfl (a_ldI rfl .here (by first | omega | (simp; done) | (simp; omega)) ?_))))))))))))))))
          have hq1 := hsm ka (by omega)
          have hq2 := hsm kb (by omega)
          refine kG rfl rfl (a_sub rfl rfl (by omega) (kG rfl rfl (a_mov rfl (kG rfl rfl (a_mov rfl (kG rfl rfl (a_ia (j := ka) rfl rfl (by omega) (by omega) (kG rfl rfl (a_ld rfl (.next (.app .here)) (sls_get (by omega) (by omega)) (kG rfl rfl (a_mov rfl (kG rfl rfl (a_ia (j := kb) rfl rfl (by omega) (by omega) (kG rfl rfl (a_ldX (x := (D) (ka) (kb)) rfl (.next (own_seg (by omega))) (by rw [rowT_len]; omega) (rowT_get (by omega)) (kG rfl rfl (a_gtr rfl rfl (fun h25 => ?_) (fun h25 => ?_))))))))))))))))))
          ·exfalso; have := hPD ka kb (by omega) (by omega) (by assumption); omega
          ·refine kO rfl (a_pick_t rfl rfl rfl (i_nil (r_cond_f rfl (r_skip (block_n (then_n (rI (kO rfl (a_add rfl rfl (by omega) (kM rfl rfl (i_nil (then_n ?_))))))))))))
           exact ⟨rfl, _, _, _, (show M + 1 - (kb + 1) < M + 1 - kb by omega), (lc 5 rfl (lc 7 rfl (lc 8 rfl (lc 10 rfl (lc 13 rfl (lc 88 rfl (lc 89 rfl (lc 93 rfl (lc 94 rfl Less.nil))))))))), (.q (.r (.q (.q (.r (.q .slnil)))))), ⟨kb + 1, rfl, rfl, rfl, by omega⟩⟩
         ·refine kM rfl rfl (i_no rfl rfl (i_no rfl rfl (i_no rfl rfl (i_no rfl rfl (i_no rfl rfl (i_no rfl rfl (i_no rfl rfl (i_no rfl rfl (i_no rfl rfl (i_no rfl rfl (i_no rfl rfl (i_no rfl rfl (i_no rfl rfl (i_no rfl rfl (i_no rfl rfl (i_no rfl rfl (i_no rfl rfl (kO rfl (a_pick_f rfl rfl rfl (i_nil (r_cond_f rfl (r_skip (block_n (then_n ?_))))))))))))))))))))))))
          refine rI (kO rfl (a_add rfl rfl (by omega) (kM rfl rfl (i_nil (then_n ?_)))))
          exact ⟨rfl, _, _, _, (show M + 1 - (kb + 1) < M + 1 - kb by omega), (lc 5 rfl (lc 7 rfl (lc 8 rfl (lc 10 rfl (lc 13 rfl (lc 88 rfl (lc 89 rfl (lc 93 rfl (lc 94 rfl Less.nil))))))))), (.q (.r (.q (.q (.r (.q .slnil)))))), ⟨kb + 1, rfl, rfl, rfl, by omega⟩⟩
       ·refine i_nil (rQ (r_cond_f rfl (r_exit (then_e (then_e (block_hit (block_n (then_n (rI (kO rfl (a_add rfl rfl (by omega) (kM rfl rfl (i_nil (then_n ?_))))))))))))))
        exact ⟨rfl, _, _, _, (show M + 1 - (ka + 1) < M + 1 - ka by omega), (lc 5 rfl (lc 7 rfl (lc 8 rfl (lc 10 rfl (lc 88 rfl (lc 89 rfl Less.nil)))))), (.q (.r (.q (.q (.r (.q .slnil)))))), ⟨ka + 1, rfl, rfl, rfl, by omega⟩⟩
      ·refine i_nil (rQ (r_cond_f rfl (r_exit (then_e (then_e (block_hit (then_n (rS (kO rfl (a_iaa (j := 0) rfl rfl (by decide) (by decide) (kO rfl (a_ld rfl (.next (.app (.next (.next (.app .here))))) rfl (kM rfl rfl (kO rfl (a_len rfl (kO rfl (a_callV rfl rfl (fun s1 h1 => mod_s _ _ _ s1 h1.wf (by omega)) ?_)))))))))))))))))
       obtain ⟨aa, haa, hal⟩ := mod_nat (z := z0) (n := M + 1) (by omega)
       rw [haa]
       refine kM rfl rfl (i_nil (rS (kO rfl (a_iaa (j := 1) rfl rfl (by decide) (by decide) (kO rfl (a_ld rfl (.next (.app (.next (.next (.app .here))))) rfl (kM rfl rfl (kO rfl (a_len rfl (kO rfl (a_callV rfl rfl (fun s1 h1 => mod_s _ _ _ s1 h1.wf (by omega)) ?_)))))))))))
       obtain ⟨bb, hbb, hbl⟩ := mod_nat (z := z1) (n := M + 1) (by omega)
       rw [hbb]
       refine kM rfl rfl (i_nil (rS (kM rfl rfl (kO rfl (a_len rfl (kO rfl (a_mksI (m := (M + 1)) (c := (M + 1)) rfl rfl (by omega) (by omega) (by omega) (fun b26 => (kM rfl rfl (i_nil (rS (kM rfl rfl (kM rfl rfl (kO rfl (a_ia (j := bb) rfl rfl (by omega) (by omega) (kO rfl (a_ldI rfl .here (by first | omega | (simp; done) | (simp; omega)) ?_)))))))))))))))))
       have hq3 : (List.replicate (M + 1) (0 : Int)).getD bb 0 = 0 := by rw [List.getD_eq_getElem?_getD, List.getElem?_replicate, if_pos hbl]; rfl
       refine kO rfl (a_add rfl rfl (by omega) (kO rfl (a_ia (j := bb) rfl rfl (by omega) (by omega) (kZ rfl (a_stI rfl rfl .here (by first | omega | (simp; done) | (simp [wlen]; omega) | (simp; omega)) (i_nil (rS (kM rfl rfl (kM rfl rfl (kO rfl (a_ia (j := aa) rfl rfl (by omega) (by omega) (kO rfl (a_ldI rfl .here (by first | omega | (simp; done) | (simp; omega)) ?_)))))))))))))
       have hq4 : ∀ l : List Int, l.getD aa 0 = l.getD aa 0 := fun _ => rfl
       have hq5 : -1 <= ((List.replicate (M + 1) (0 : Int)).set bb ((List.replicate (M + 1) (0 : Int)).getD bb 0 + 1)).getD aa 0 /\ ((List.replicate (M + 1) (0 : Int)).set bb ((List.replicate (M + 1) (0 : Int)).getD bb 0 + 1)).getD aa 0 <= 1 := by
        rw [hq3, List.getD_eq_getElem?_getD, List.getElem?_set]
        split
        ·split <;> simp
        ·rw [<- List.getD_eq_getElem?_getD, List.getD_eq_getElem?_getD, List.getElem?_replicate]; split <;> simp
       refine kO rfl (a_sub rfl rfl (by omega) (kO rfl (a_ia (j := aa) rfl rfl (by omega) (by omega) (kZ rfl (a_stI rfl rfl .here (by first | omega | (simp; done) | (simp [wlen]; omega) | (simp; omega)) (i_nil (rS ?_)))))))
       have hug := uw_get (n := M + 1) hal hbl
       have hul : (((List.replicate (M + 1) (0 : Int)).set bb ((List.replicate (M + 1) (0 : Int)).getD bb 0 + 1)).set aa (((List.replicate (M + 1) (0 : Int)).set bb ((List.replicate (M + 1) (0 : Int)).getD bb 0 + 1)).getD aa 0 - 1)).length = M + 1 := by simp
       generalize (((List.replicate (M + 1) (0 : Int)).set bb ((List.replicate (M + 1) (0 : Int)).getD bb 0 + 1)).set aa (((List.replicate (M + 1) (0 : Int)).set bb ((List.replicate (M + 1) (0 : Int)).getD bb 0 + 1)).getD aa 0 - 1)) = wv at *
       obtain ⟨huo, huf⟩ := uw_ok hal hbl hul hug hM
       refine kO rfl (a_lda rfl (by decide) (.next (.next (.app (.next .here)))) rfl (kM rfl rfl (kO rfl (a_call rfl rfl (fun s1 h1 => Most_v _ M aT cT ls _ _ wv s1 h1.wf (by omega) (hTL.rows (.cons _ (.cons _ (List.sublist_append_of_sublist_right (.cons _ (.cons _ (List.sublist_append_left _ _)))))) h1 hLg (by omega) (by omega) hft) hcl (IntsE.own (h1.own .here) huf (by omega)) (.inl ⟨by show _ < 18446744073709551616; omega, by omega⟩) hsys hul huo) (fun v1 A1 q1 => ?_)))))
       rcases q1 with ⟨hz1, rfl, rfl⟩ | ⟨hz1, hz2, rfl, rfl⟩ | ⟨hz1, q1⟩
       ·exact absurd hz1 hc2
       ·have hfree := cl_opn hlm hDT hal hbl hug hz2
        refine kM rfl rfl (kO rfl (a_ext rfl rfl (kO rfl (a_ext rfl rfl (kM rfl rfl (kM rfl rfl (i_nil (rQ (rS (kM rfl rfl (kM rfl rfl (kO rfl (a_ia (j := aa) rfl rfl (by omega) (by omega) (kO rfl (a_ld rfl (.next (.next (.app .here))) (sls_get (by omega) (by omega)) (kM rfl rfl (kO rfl (a_ia (j := bb) rfl rfl (by omega) (by omega) (kO rfl (a_ldX (x := (D) (aa) (bb)) rfl (.next (.next (own_seg (by omega)))) (by rw [rowT_len]; omega) (rowT_get (by omega)) (kO rfl (a_eql rfl rfl (fun h27 => ?_) (fun h27 => ?_)))))))))))))))))))))))
        ·refine i_nil (r_cond_t rfl (rS (kM rfl rfl (kO rfl (a_eql rfl rfl (fun _ => (kM rfl rfl (kG rfl rfl (a_callV rfl rfl (fun s1 h1 => known_s _ s1 h1.wf) (kO rfl (a_pick_t rfl rfl rfl (kM rfl rfl (i_nil (r_ret (then_r ?_)))))))))) (fun h => absurd h (by decide)))))))
         exact end1 rfl ⟨rfl, rfl⟩
        ·exfalso; omega
       ·obtain ⟨t, p, hOp, hts, hpb, rfl, rfl⟩ := q1
        obtain ⟨hnf, hsum⟩ := cl_opt hlm hDT hS hy hyb hal hbl hug hOp
        refine kM rfl rfl (kO rfl (a_ext rfl rfl (kO rfl (a_ext rfl rfl (kM rfl rfl (kM rfl rfl (i_nil (rQ (rS (kM rfl rfl (kM rfl rfl (kO rfl (a_ia (j := aa) rfl rfl (by omega) (by omega) (kO rfl (a_ld rfl (.next (.next (.app .here))) (sls_get (by omega) (by omega)) (kM rfl rfl (kO rfl (a_ia (j := bb) rfl rfl (by omega) (by omega) (kO rfl (a_ldX (x := (D) (aa) (bb)) rfl (.next (.next (own_seg (by omega)))) (by rw [rowT_len]; omega) (rowT_get (by omega)) (kO rfl (a_eql rfl rfl (fun h29 => ?_) (fun h29 => ?_)))))))))))))))))))))))
        ·exfalso; omega
        ·refine i_nil (r_cond_f rfl (r_skip (then_n (rS (kM rfl rfl (kO rfl (a_eql rfl rfl (fun _ => (kM rfl rfl (kG rfl rfl (a_mov rfl (kG rfl rfl (a_mov rfl (kG rfl rfl (a_mov rfl (kG rfl rfl (a_ia (j := aa) rfl rfl (by omega) (by omega) (kG rfl rfl (a_ld rfl (.next (.next (.app .here))) (sls_get (by omega) (by omega)) (kG rfl rfl (a_mov rfl (kG rfl rfl (a_ia (j := bb) rfl rfl (by omega) (by omega) (kG rfl rfl (a_ldX (x := (D) (aa) (bb)) rfl (.next (.next (own_seg (by omega)))) (by rw [rowT_len]; omega) (rowT_get (by omega)) (kG rfl rfl (a_eql rfl rfl (fun h31 => ?_) (fun h31 => ?_))))))))))))))))))))) (fun h => absurd h (by decide)))))))))
         ·refine kO rfl (a_pick_t rfl rfl rfl (kM rfl rfl (kG rfl rfl (a_callV rfl rfl (fun s1 h1 => known_s _ s1 h1.wf) (kO rfl (a_pick_t rfl rfl rfl (kM rfl rfl (i_nil (r_ret ?_)))))))))
          exact end1 rfl ⟨rfl, rfl⟩
         ·exfalso; omega
end
end Ev
end Go.Proofs.Ytoeklhdklcpllaa
namespace Go.Proofs.Ytoeklhdklcpllaa.Ev
open Go Go.RowKit Go.ChangeShapes Go.WideShapes Go.ChangeAt Go.Joins
set_option linter.unusedVariables false
noncomputable section
theorem ints_of {s : St} {a : Option Addr} {rs : List (List Int)} (h : RowsE s 1 a rs) : IntsE s a (rs.map fun r => r.getD 0 0) := by
 have hr : ∀ r ∈ rs, r = [r.getD 0 0] := fun r hr => by
  have := h.width r hr
  match r, this with
  | [z], _ => rfl
 refine ⟨h.spot, fun hn => h.addr (by rintro rfl; exact hn rfl), fun b o ha => ?_, fun x hx => ?_, by rw [List.length_map]; exact h.len⟩
 ·have key : ∀ (l : List (List Int)) (k : Nat), (∀ i r, l[i]? = some r -> Ats s b (o + (k + i) * 1) (r.map (.int .i64))) -> (∀ r ∈ l, r = [r.getD 0 0]) -> Ats s b (o + k) (ints (l.map fun r => r.getD 0 0)) := by
   intro l
   induction l with
   | nil => intro k _ _; exact trivial
   | cons r l ih =>
    intro k h1 h2
    have q := h1 0 r rfl
    rw [h2 r (by simp)] at q
    refine ⟨?_, ?_⟩
    ·have := q.1; simpa using this
    ·have := ih (k + 1) (fun i r' hr' => by have := h1 (i + 1) r' (by simpa using hr'); rwa [show k + (i + 1) = k + 1 + i by omega] at this) (fun r' hr' => h2 r' (by simp [hr']))
     rwa [show o + (k + 1) = o + k + 1 by omega] at this
  have := key rs 0 (fun i r hr' => by rw [Nat.zero_add]; exact h.cells b o ha i r hr') hr
  simpa using this
 ·obtain ⟨r, h1, rfl⟩ := List.mem_map.1 hx
  have h2 := h.fit r h1
  rw [hr r h1] at h2 ⊢
  exact h2 _ (by simp)
set_option maxRecDepth 100000 in
theorem open_islice {H : Type} {enc : TypeId × Value -> H} {W : World} {r : Reach} {b0 : Nat} {v : Value} {d : DataW H} {p : List MemPlace} (hv : Value.okWide Try.prog W r b0 25 v) (h : DataW.Trod enc Try.prog W 0 (fun _ => true) true 25 v d p) (hz : ∀ x ∈ DataW.weights Try.prog 25 d, x <= reachBytes) :
 ∃ a n c r, v = .slice a n c /\ r.length = n /\ NiceS W a n c /\ RowsE (wst W) 1 a r := by
 obtain ⟨fuel, hf⟩ := h
 simp only [Value.okWide, Try.underlying25] at hv
 obtain ⟨a, n, c, rfl, hN⟩ := cell_niceS Try.underlying25 hv
 obtain ⟨rs, f, k, _⟩ := rowsW (w := 1) (bytes := 8) Try.underlying25 (by kernel_rfl) (by decide) (by kernel_rfl) (by decide) (intCells_int Try.underlying3) hN (by simpa [Value.cells] using hf) hz
 exact ⟨a, n, c, rs, rfl, f, hN, k⟩
end
end Go.Proofs.Ytoeklhdklcpllaa.Ev
namespace Go.Proofs.Ytoeklhdklcpllaa.Ev
open Go Go.RowKit Go.ChangeShapes Go.WideShapes Go.ChangeAt Go.Joins
set_option linter.unusedVariables false
noncomputable section
set_option maxRecDepth 100000 in
theorem int_four {H : Type} {enc : TypeId × Value -> H} {W : World} : IntCells H Try.prog enc W 26 4 := by
 intro base fuel sp held cs x h
 obtain ⟨xs, m, _, _, hl, hxl, hxi⟩ := DataW.trod_array Try.underlying26 h
 have e3 : Try.prog.cellsOf 26 = 4 := by kernel_rfl
 have e4 : Try.prog.cellsOf 3 = 1 := by kernel_rfl
 rw [e3] at hl
 match cs, hl with
 | [c0, c1, c2, c3], _ =>
  have g0 := hxi 0 (by omega)
  rw [e4] at g0
  have g1 := hxi 1 (by omega)
  rw [e4] at g1
  have g2 := hxi 2 (by omega)
  rw [e4] at g2
  have g3 := hxi 3 (by omega)
  rw [e4] at g3
  match xs, hxl with
  | [y0, y1, y2, y3], _ =>
   obtain ⟨z0, q0, _, w0⟩ := DataW.trod_int Try.underlying3 (show DataW.trod enc Try.prog W base sp held m 3 [c0] = some y0 from g0)
   obtain ⟨z1, q1, _, w1⟩ := DataW.trod_int Try.underlying3 (show DataW.trod enc Try.prog W base sp held m 3 [c1] = some y1 from g1)
   obtain ⟨z2, q2, _, w2⟩ := DataW.trod_int Try.underlying3 (show DataW.trod enc Try.prog W base sp held m 3 [c2] = some y2 from g2)
   obtain ⟨z3, q3, _, w3⟩ := DataW.trod_int Try.underlying3 (show DataW.trod enc Try.prog W base sp held m 3 [c3] = some y3 from g3)
   simp at q0 q1 q2 q3
   subst q0; subst q1; subst q2; subst q3
   exact ⟨[z0, z1, z2, z3], rfl, rfl, fun z hz => by simp at hz; rcases hz with rfl | rfl | rfl | rfl <;> first | exact wf_I64 w0 | exact wf_I64 w1 | exact wf_I64 w2 | exact wf_I64 w3⟩
set_option maxRecDepth 100000 in
set_option maxHeartbeats 2000000 in
theorem open_raw {H : Type} {enc : TypeId × Value -> H} {W : World} {r : Reach} {b0 : Nat} {v : Value} {d : DataW H} {p : List MemPlace} (hv : Value.okWide Try.prog W r b0 24 v) (h : DataW.Trod enc Try.prog W 0 (fun _ => true) true 24 v d p) (hz : ∀ x ∈ DataW.weights Try.prog 24 d, x <= reachBytes) :
 ∃ z0 a1 n1 c1 r1, v = .agg #[.int .i64 z0, .slice a1 n1 c1] /\ r1.length = n1 /\ NiceS W a1 n1 c1 /\ RowsE (wst W) 4 a1 r1 := by
 obtain ⟨fuel, hf⟩ := h
 simp only [Value.okWide, Try.underlying24] at hv
 obtain ⟨cs, rfl, hsz, ts, hts, _, hc⟩ := hv
 have e2 : Try.prog.cellTypes Try.prog.depth 24 = some [3, 22] := by kernel_rfl
 rw [e2] at hts
 cases hts
 have e3 : Try.prog.cellsOf 24 = 2 := by kernel_rfl
 rw [e3] at hsz
 obtain ⟨l⟩ := cs
 match l, hsz with
 | [x0, x1], _ =>
  have u0 : ∃ t, [3, 22][0]? = some t /\ Cell.okWide Try.prog W r b0 t x0 := by
   obtain ⟨t, h1, h2⟩ := hc 0 x0 rfl
   exact ⟨t, h1, h2⟩
  obtain ⟨t0, e0, w0⟩ := u0
  have : t0 = 3 := by simpa using e0.symm
  subst this
  have u1 : ∃ t, [3, 22][1]? = some t /\ Cell.okWide Try.prog W r b0 t x1 := by
   obtain ⟨t, h1, h2⟩ := hc 1 x1 rfl
   exact ⟨t, h1, h2⟩
  obtain ⟨t1, e1, w1⟩ := u1
  have : t1 = 22 := by simpa using e1.symm
  subst this
  obtain ⟨xs, m, _, hx, _, hlen, hfs⟩ := DataW.trod_struct Try.underlying24 hf
  have hd : d = .agg (xs.map (·.1)) := by simpa using congrArg Prod.fst hx
  have g_0 : ∃ y, xs[0]? = some y /\ DataW.trod enc Try.prog W 0 (fun _ => true) true m 3 [x0] = some y := by
   have hy : ∃ y, xs[0]? = some y := ⟨xs[0]'(by rw [hlen]; decide), List.getElem?_eq_getElem _⟩
   obtain ⟨y, hy⟩ := hy
   have h4 := hfs 0 _ rfl
   rw [hy] at h4
   have e4 : Try.prog.cellsOf 3 = 1 := by kernel_rfl
   exact ⟨y, hy, by simpa [e4, Value.cells] using h4⟩
  obtain ⟨⟨d_0, p_0⟩, gy_0, g_0⟩ := g_0
  obtain ⟨l_0, q_0, ql_0, _⟩ := intCells_int (P := Try.prog) Try.underlying3 g_0
  obtain ⟨z0, rfl⟩ : ∃ z, l_0 = [z] := by
   match l_0, ql_0 with
   | [z], _ => exact ⟨z, rfl⟩
  simp at q_0
  subst q_0
  have g_1 : ∃ y, xs[1]? = some y /\ DataW.trod enc Try.prog W 0 (fun _ => true) true m 22 [x1] = some y := by
   have hy : ∃ y, xs[1]? = some y := ⟨xs[1]'(by rw [hlen]; decide), List.getElem?_eq_getElem _⟩
   obtain ⟨y, hy⟩ := hy
   have h4 := hfs 1 _ rfl
   rw [hy] at h4
   have e4 : Try.prog.cellsOf 22 = 1 := by kernel_rfl
   exact ⟨y, hy, by simpa [e4, Value.cells] using h4⟩
  obtain ⟨⟨d_1, p_1⟩, gy_1, g_1⟩ := g_1
  obtain ⟨a1, n1, c1, rfl, hN1⟩ := cell_niceS Try.underlying22 w1
  have hz_1 : ∀ x ∈ DataW.weights Try.prog 22 d_1, x <= reachBytes := fun x hx' => hz x (by
   rw [hd]
   simp only [DataW.weights, Try.underlying24]
   exact DataW.weights_mem_each (j := 1) (t := 22) rfl (by rw [List.getElem?_map, gy_1]; rfl) x hx')
  obtain ⟨r1, f1, k1, _⟩ := rowsW (w := 4) (bytes := 32) Try.underlying22 (by kernel_rfl) (by decide) (by kernel_rfl) (by decide) int_four hN1 g_1 hz_1
  exact ⟨z0, a1, n1, c1, r1, rfl, f1, hN1, k1⟩
set_option maxRecDepth 100000 in
theorem int_two {H : Type} {enc : TypeId × Value -> H} {W : World} : IntCells H Try.prog enc W 47 2 := by
 intro base fuel sp held cs x h
 obtain ⟨xs, m, _, _, hl, hxl, hxi⟩ := DataW.trod_array Try.underlying47 h
 have e3 : Try.prog.cellsOf 47 = 2 := by kernel_rfl
 have e4 : Try.prog.cellsOf 3 = 1 := by kernel_rfl
 rw [e3] at hl
 match cs, hl with
 | [c0, c1], _ =>
  have g0 := hxi 0 (by omega)
  rw [e4] at g0
  have g1 := hxi 1 (by omega)
  rw [e4] at g1
  match xs, hxl with
  | [y0, y1], _ =>
   obtain ⟨z0, q0, _, w0⟩ := DataW.trod_int Try.underlying3 (show DataW.trod enc Try.prog W base sp held m 3 [c0] = some y0 from g0)
   obtain ⟨z1, q1, _, w1⟩ := DataW.trod_int Try.underlying3 (show DataW.trod enc Try.prog W base sp held m 3 [c1] = some y1 from g1)
   simp at q0 q1
   subst q0; subst q1
   exact ⟨[z0, z1], rfl, rfl, fun z hz => by simp at hz; rcases hz with rfl | rfl <;> first | exact wf_I64 w0 | exact wf_I64 w1⟩
set_option maxRecDepth 100000 in
theorem open_twoi {H : Type} {enc : TypeId × Value -> H} {W : World} {r : Reach} {b0 : Nat} {v : Value} {d : DataW H} {p : List MemPlace} (hv : Value.okWide Try.prog W r b0 47 v) (h : DataW.Trod enc Try.prog W 0 (fun _ => true) true 47 v d p) : ∃ z0 z1, v = .agg #[.int .i64 z0, .int .i64 z1] := by
 obtain ⟨fuel, hf⟩ := h
 simp only [Value.okWide, Try.underlying47] at hv
 obtain ⟨⟨l⟩, rfl, _⟩ := hv
 obtain ⟨zs, h1, h2, _⟩ := int_two hf
 match zs, h2 with
 | [z0, z1], _ => exact ⟨z0, z1, by have : l = [.int .i64 z0, .int .i64 z1] := h1; rw [this]⟩
end
end Go.Proofs.Ytoeklhdklcpllaa.Ev
