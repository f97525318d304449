import Derived.Test.YtoeklhdklcpllaaGreatZc15
import Derived.Test.YtoeklhdklcpllaaGreatZc12
import Derived.Test.YtoeklhdklcpllaaGreatZc13
set_option linter.unusedVariables false
set_option linter.unusedSimpArgs false
namespace Go.Proofs.YtoeklhdklcpllaaGreat
open Go Go.RowKit
namespace Ev
theorem sum_pr {t z : Int} (ht : 0 <= t) (hz : -20000 <= z /\ z <= 20000) : -(20000 * t) <= t * z /\ t * z <= 20000 * t := by
 have h1 := Int.mul_le_mul_of_nonneg_left hz.2 ht
 have h2 := Int.mul_le_mul_of_nonneg_left hz.1 ht
 rw [Int.mul_comm t 20000] at h1
 rw [Int.mul_comm t (-20000)] at h2
 omega
theorem sum_bd {t z : Nat -> Int} {K : Nat} : ∀ {k : Nat}, k <= K -> (∀ i, i < K -> 0 <= t i) -> (∀ i, i < K -> -20000 <= z i /\ z i <= 20000) -> -(20000 * tot t k) <= tot (fun i => t i * z i) k /\ tot (fun i => t i * z i) k <= 20000 * tot t k
 | 0, _, _, _ => by show -(20000 * (0 : Int)) <= 0 /\ (0 : Int) <= 20000 * 0; omega
 | k + 1, hk, ht, hz => by
  have ih := sum_bd (k := k) (by omega) ht hz
  have h1 := sum_pr (ht k (by omega)) (hz k (by omega))
  show -(20000 * (tot t k + t k)) <= tot (fun i => t i * z i) k + t k * z k /\ tot (fun i => t i * z i) k + t k * z k <= 20000 * (tot t k + t k)
  omega
theorem lw_row {ls : List (List Int)} {k : Nat} {y0 y1 y2 y3 : Int} (h : ls[k]? = some [y0, y1, y2, y3]) : lw ls k = y2 := by
 unfold lw
 rw [show ls.getD k [] = [y0, y1, y2, y3] from by rw [List.getD_eq_getElem?_getD, h]; rfl]; rfl
theorem sum_rng {ls : List (List Int)} {M : Nat} {w t p : Nat -> Int} {k : Nat} (hl : lmB (M : Int) ls = true) (h : Opt ls (M + 1) w t p) (hs : tot t ls.length <= 230400000000000) (hk : k < ls.length) : (-4608000000000000000 <= tot (fun i => t i * lw ls i) k /\ tot (fun i => t i * lw ls i) k <= 4608000000000000000) /\ (-4608000000000000000 <= t k * lw ls k /\ t k * lw ls k <= 4608000000000000000) /\ (-4608000000000000000 <= tot (fun i => t i * lw ls i) k + t k * lw ls k /\ tot (fun i => t i * lw ls i) k + t k * lw ls k <= 4608000000000000000) := by
 have hz : ∀ i, i < ls.length -> -20000 <= lw ls i /\ lw ls i <= 20000 := fun i hi => lw_bd' hl hi
 have h1 := sum_bd (t := t) (z := lw ls) (K := ls.length) (k := k) (by omega) h.nn hz
 have h2 := sum_bd (t := t) (z := lw ls) (K := ls.length) (k := k + 1) (by omega) h.nn hz
 have h3 := tot_part (f := t) (K0 := k) (K := ls.length) (by omega) h.nn
 have h4 := tot_part (f := t) (K0 := k + 1) (K := ls.length) (by omega) h.nn
 have h5 := sum_pr (h.nn k hk) (hz k hk)
 have h6 := tot_mem (f := t) h.nn k hk
 have h7 : tot (fun i => t i * lw ls i) (k + 1) = tot (fun i => t i * lw ls i) k + t k * lw ls k := rfl
 rw [h7] at h2
 omega
section
variable {X : FuncId -> List Value -> St -> (Value -> St -> Bool) -> Bool}
set_option maxRecDepth 100000 in
theorem Most_s (n : Nat) (m : Int) (al : Option Addr) (cl : Nat) (ls : List (List Int)) (aw : Option Addr) (cw : Nat) (w : List Int) (s : St) (hs : Wf s) (hn : 7318349394477056 <= n) (hL : RowsE s 4 al ls) (hcl : al = none -> cl = 0) (hW : IntsE s aw w) (hCap : CapOk s aw w.length cw) : Spec Tryz.prog (tabK tabw) X (n + 10000) 7 [.agg ⟨[.int .i64 m, .slice al ls.length cl]⟩, .slice aw w.length cw] s (fun v A => (¬ sysE m ls = 0 /\ v = .tuple #[.int .i64 0, .int .i64 (sysE m ls)] /\ A = []) ∨ (sysE m ls = 0 /\ ¬ ((w.length : Int) = m + 1 /\ WOk w w.length) /\ v = .tuple #[.int .i64 0, .int .i64 27] /\ A = []) ∨ (sysE m ls = 0 /\ ((w.length : Int) = m + 1 /\ WOk w w.length) /\ Uns ls (m.toNat + 1) /\ v = .tuple #[.int .i64 0, .int .i64 23] /\ A = []) ∨ (sysE m ls = 0 /\ ((w.length : Int) = m + 1 /\ WOk w w.length) /\ ¬ Uns ls (m.toNat + 1) /\ Opn ls (m.toNat + 1) (du0 w m.toNat) /\ v = .tuple #[.int .i64 0, .int .i64 22] /\ A = []) ∨ (sysE m ls = 0 /\ ((w.length : Int) = m + 1 /\ WOk w w.length) /\ ¬ Uns ls (m.toNat + 1) /\ ∃ t p, Opt ls (m.toNat + 1) (du0 w m.toNat) t p /\ tot t ls.length <= 230400000000000 /\ (∀ v, v < m.toNat + 1 -> -1300000 <= p v /\ p v <= 30000000) /\ v = .tuple #[.int .i64 (tot (fun i => t i * lw ls i) ls.length), .int .i64 0] /\ A = [])) := by
 refine enter bw7_at rfl hs ?_
 unfold bw7
 have hlen := hL.len
 have hlenW := hW.len
 refine rS (kO rfl (a_box rfl rfl rfl (fun b1 => (kM rfl rfl (kM rfl rfl (i_nil (rS (kO rfl (a_lda rfl (by decide) .here rfl (kM rfl rfl (kO rfl (a_call rfl rfl (fun s1 h1 => solve_s _ m al cl ls aw cw w s1 h1.wf (by omega) (hL.ext hs h1.2.1) hcl (hW.ext hs h1.2.1) (hCap.ext hs h1.2.1)) (fun v1 A1 q1 => ?_)))))))))))))
 rcases q1 with ⟨hsx, rfl, rfl⟩ | ⟨hsys, hww, rfl, rfl⟩ | ⟨hsys, hww, hun, rfl, rfl⟩ | ⟨hsys, hww, hnu, hop, rfl, rfl⟩ | ⟨hsys, hww, hnu, q1⟩
 ·have hsx9 := hsx
  refine kM rfl rfl (kO rfl (a_ext rfl rfl (kO rfl (a_ext rfl rfl (kM rfl rfl (kM rfl rfl (i_nil (rQ (rS (kM rfl rfl (kO rfl (a_neq rfl rfl (fun h5 => ?_) (fun h5 => ?_)))))))))))))
  ·refine i_nil (r_cond_t rfl (rS (kM rfl rfl (kM rfl rfl (kM rfl rfl (i_nil (r_ret (then_r ?_))))))))
   exact end2 rfl rfl (.inl ⟨hsx, rfl, rfl⟩)
  ·exfalso; omega
 ·have hww9 := hww
  refine kM rfl rfl (kO rfl (a_ext rfl rfl (kO rfl (a_ext rfl rfl (kM rfl rfl (kM rfl rfl (i_nil (rQ (rS (kM rfl rfl (kO rfl (a_neq rfl rfl (fun _ => (i_nil (r_cond_t rfl (rS (kM rfl rfl (kM rfl rfl (kM rfl rfl (i_nil (r_ret (then_r ?_)))))))))) (fun h => absurd h (by decide))))))))))))))
  exact end2 rfl rfl (.inr (.inl ⟨hsys, hww, rfl, rfl⟩))
 ·have hun9 := hun
  refine kM rfl rfl (kO rfl (a_ext rfl rfl (kO rfl (a_ext rfl rfl (kM rfl rfl (kM rfl rfl (i_nil (rQ (rS (kM rfl rfl (kO rfl (a_neq rfl rfl (fun _ => (i_nil (r_cond_t rfl (rS (kM rfl rfl (kM rfl rfl (kM rfl rfl (i_nil (r_ret (then_r ?_)))))))))) (fun h => absurd h (by decide))))))))))))))
  exact end2 rfl rfl (.inr (.inr (.inl ⟨hsys, hww, hun, rfl, rfl⟩)))
 ·have hop9 := hop
  refine kM rfl rfl (kO rfl (a_ext rfl rfl (kO rfl (a_ext rfl rfl (kM rfl rfl (kM rfl rfl (i_nil (rQ (rS (kM rfl rfl (kO rfl (a_neq rfl rfl (fun _ => (i_nil (r_cond_t rfl (rS (kM rfl rfl (kM rfl rfl (kM rfl rfl (i_nil (r_ret (then_r ?_)))))))))) (fun h => absurd h (by decide))))))))))))))
  exact end2 rfl rfl (.inr (.inr (.inr (.inl ⟨hsys, hww, hnu, hop, rfl, rfl⟩))))
 ·obtain ⟨hm0, hM, h400, hlm⟩ := sysE_ok hsys
  obtain ⟨M, rfl⟩ : ∃ q : Nat, m = (q : Int) := ⟨m.toNat, by omega⟩
  obtain ⟨t, p, hOp, htb, hts, hpb, bf2, bt3, bn4, O, B, rfl, rfl, hO⟩ := q1
  rw [Int.toNat_natCast, List.append_assoc, List.cons_append, List.cons_append, List.cons_append, List.nil_append]
  have hMM := hM
  change Opt ls (M + 1) (du0 w M) t p at hOp
  change ∀ v, v < M + 1 -> _ at hpb
  have hwl : w.length = M + 1 := by omega
  refine kM rfl rfl (kO rfl (a_ext rfl rfl (kO rfl (a_ext rfl rfl (kM rfl rfl (kM rfl rfl (i_nil (rQ (rS (kM rfl rfl (kO rfl (a_neq rfl rfl (fun h => absurd h (by decide)) (fun _ => (i_nil (r_cond_f rfl (r_skip (then_n (rS (kM rfl rfl (kG rfl rfl (a_inl rfl rfl bw37_at rfl ?_)))))))))))))))))))))
  unfold bw37
  refine rS (kM rfl rfl (i_nil (rS (kM rfl rfl (i_nil (rQ (rS (kM rfl rfl (kO rfl (a_nilc rfl (kO rfl (a_fa rfl (kO rfl (a_fa rfl (kO rfl (a_ld rfl (.app .here) rfl (kO rfl (a_lenx rfl hL.spot (kM rfl rfl (i_nil (r_block ?_)))))))))))))))))))))
  refine r_loop (fun j e A => ∃ (k : Nat), e = [(0, .pointer (some ⟨bf2, 0, none⟩)), (3, .int .i64 (tot (fun i => t i * lw ls i) k)), (10, .slice al ls.length cl), (11, .int .i64 (ls.length : Int)), (12, .int .i64 (k : Int))] /\ A = (nobj B (nl ls ls.length) O ++ (.row bf2 104 false ([.int .i64 (M : Int), .slice al ls.length cl, .slice (some ⟨bt3, 0, none⟩) ls.length ls.length, .slice (some ⟨bn4, 0, none⟩) (M + 1) (M + 1)]) :: (.row bn4 25 false (nsl B (nl ls ls.length) (M + 1)) :: (.row bt3 3 false (ints (xs t ls.length)) :: [])))) /\ j = ls.length - k /\ k <= ls.length) 200 0 281474976710656 ?_ (j := _) (env2 := _) (A2 := _) ?_ ?_ ?_ ?_ ⟨0, rfl, rfl, rfl, Nat.zero_le _⟩
  rotate_left
  ·omega
  ·omega
  ·exact (lc 0 rfl (lc 3 rfl (lc 10 rfl (lc 11 rfl (lc 12 rfl Less.nil)))))
  ·exact (.r (.q (.q (.q (.cons _ .slnil)))))
  rintro n hn j _ _ ⟨k, rfl, rfl, rfl, hk⟩
  refine rS (kO rfl (a_lss rfl rfl (fun h10 => ?_) (fun h10 => ?_)))
  ·obtain ⟨q4, o4, y0, y1, y2, y3, ahL, hx, hat, i0, i1, i2, i3⟩ := hL.row4 (k := k) (by omega)
   have hat2 := hat
   obtain ⟨d0, d1, d2, d3, _⟩ := hat2
   have := i0.lo; have := i0.hi
   have := i1.lo; have := i1.hi
   have := i2.lo; have := i2.hi
   have := i3.lo; have := i3.hi
   have hlw9 := lw_row hx
   have hsr9 := sum_rng hlm hOp hts (show k < ls.length by omega)
   rw [hlw9] at hsr9
   refine i_nil (rQ (r_cond_t rfl (r_skip (then_n (rQ (r_block (rS (kM rfl rfl (kO rfl (a_iaA (j := k) ahL rfl rfl (by first | rfl | omega) (by first | decide | omega) (kO rfl (a_ldar rfl (by decide) (by assumption) rfl (kO rfl (a_new rfl rfl (fun b11 => (kM rfl rfl (kZ rfl (a_sta rfl rfl .here rfl rfl rfl rfl (i_nil (rI (kM rfl rfl (kM rfl rfl (kO rfl (a_nilc rfl (kO rfl (a_fa rfl (kO rfl (a_ld rfl (.next (.app .here)) rfl (kM rfl rfl (kO rfl (a_ia (j := k) rfl rfl (by omega) (by omega) (kO rfl (a_ldX (x := (t) (k)) rfl (.next (.app (.next (.next .here)))) (by rw [xs_len]; omega) (xs_get (by omega)) ?_)))))))))))))))))))))))))))))))))
   refine kO rfl (a_fa rfl (kO rfl (a_ld rfl .here rfl (kO rfl (a_mul rfl rfl (by omega) (kO rfl (a_add rfl rfl (by omega) (kM rfl rfl (i_nil (block_n (then_n (rI (kO rfl (a_add rfl rfl (by omega) (kM rfl rfl (i_nil (then_n ?_)))))))))))))))))
   exact ⟨rfl, _, _, _, (show ls.length - (k + 1) < ls.length - k by omega), (lc 0 rfl (lc 3 (by show some (Value.int .i64 (_ + t k * y2)) = some (Value.int .i64 (tot (fun i => t i * lw ls i) k + t k * lw ls k)); rw [hlw9]) (lc 10 rfl (lc 11 rfl (lc 12 rfl Less.nil))))), (.cons _ (.r (.q (.q (.q .slnil))))), ⟨k + 1, rfl, rfl, rfl, by omega⟩⟩
  ·have hkl : k = ls.length := by omega
   subst hkl
   refine i_nil (rQ (r_cond_f rfl (r_exit (then_e (then_e (block_hit (then_n (rS (kM rfl rfl (kM rfl rfl (i_nil (r_ret (endD1 rfl .nil (kM rfl rfl (kM rfl rfl (i_nil (r_ret ?_)))))))))))))))))
   exact end2 rfl rfl (.inr (.inr (.inr (.inr ⟨hsys, hww, hnu, t, p, hOp, hts, hpb, rfl, rfl⟩))))
end
end Ev
end Go.Proofs.YtoeklhdklcpllaaGreat
namespace Go.Proofs.YtoeklhdklcpllaaGreat
open Go Go.RowKit
namespace Ev
def T0 : Nat -> Nat -> Int := fun i k => if i = k then 0 else 1000000000
def limT (ls : List (List Int)) : Nat -> Nat -> Nat -> Int
 | 0 => T0
 | k + 1 => updT (limT ls k) ((ls.getD k []).getD 0 0).toNat ((ls.getD k []).getD 1 0).toNat (min (limT ls k ((ls.getD k []).getD 0 0).toNat ((ls.getD k []).getD 1 0).toNat) ((ls.getD k []).getD 2 0))
def stp (T : Nat -> Nat -> Int) (m i k : Nat) : Nat -> Nat -> Int :=
 if ¬ T i m = 1000000000 /\ ¬ T m k = 1000000000 then updT T i k (max (min (T i k) (T i m + T m k)) (-2560000)) else T
def kT (T : Nat -> Nat -> Int) (m i : Nat) : Nat -> Nat -> Nat -> Int
 | 0 => T
 | k + 1 => stp (kT T m i k) m i k
def iT (T : Nat -> Nat -> Int) (N m : Nat) : Nat -> Nat -> Nat -> Int
 | 0 => T
 | i + 1 => kT (iT T N m i) m i N
def mT (T : Nat -> Nat -> Int) (N : Nat) : Nat -> Nat -> Nat -> Int
 | 0 => T
 | m + 1 => iT (mT T N m) N m N
def wm (ls : List (List Int)) (N m : Nat) : Nat -> Nat -> Int := mT (limT ls ls.length) N m
def wi (ls : List (List Int)) (N m i : Nat) : Nat -> Nat -> Int := iT (wm ls N m) N m i
def wk (ls : List (List Int)) (N m i k : Nat) : Nat -> Nat -> Int := kT (wi ls N m i) m i k
inductive Pth (ls : List (List Int)) : Nat -> List Nat -> Nat -> Int -> Prop where
 | one {i : Nat} (hi : i < ls.length) : Pth ls (la ls i) [] (lb ls i) (lw ls i)
 | cons {i : Nat} {L : List Nat} {k : Nat} {w : Int} (hi : i < ls.length) (h : Pth ls (lb ls i) L k w) : Pth ls (la ls i) (lb ls i :: L) k (lw ls i + w)
theorem Pth.app {ls : List (List Int)} {a v b : Nat} {L L' : List Nat} {w w' : Int} (h : Pth ls a L v w) (h' : Pth ls v L' b w') : Pth ls a (L ++ v :: L') b (w + w') := by
 induction h with
 | one hi => exact .cons hi h'
 | cons hi _ ih => rw [Int.add_assoc]; exact .cons hi (ih h')
theorem Pth.split {ls : List (List Int)} {v b : Nat} {L' : List Nat} : ∀ {L : List Nat} {a : Nat} {w : Int}, Pth ls a (L ++ v :: L') b w -> ∃ w1 w2, Pth ls a L v w1 /\ Pth ls v L' b w2 /\ w = w1 + w2
 | [], a, w, h => by
  have h' : Pth ls a (v :: L') b w := h
  cases h' with
  | cons hi hq => exact ⟨_, _, .one hi, hq, rfl⟩
 | u :: L, a, w, h => by
  have h' : Pth ls a (u :: (L ++ v :: L')) b w := h
  cases h' with
  | cons hi hq =>
   obtain ⟨w1, w2, h1, h2, h3⟩ := Pth.split hq
   exact ⟨_, w2, .cons hi h1, h2, by omega⟩
theorem Pth.lt {ls : List (List Int)} {M a b : Nat} {L : List Nat} {w : Int} (hl : lmB (M : Int) ls = true) (h : Pth ls a L b w) : a < M + 1 /\ b < M + 1 /\ ∀ v ∈ L, v < M + 1 := by
 induction h with
 | one hi => have hL := lim_of hl hi; exact ⟨hL.ha, hL.hb, fun v hv => absurd hv (List.not_mem_nil)⟩
 | cons hi _ ih =>
  have hL := lim_of hl hi
  refine ⟨hL.ha, ih.2.1, fun v hv => ?_⟩
  rcases List.mem_cons.1 hv with rfl | hv
  ·exact hL.hb
  ·exact ih.2.2 v hv
theorem Pth.wk {ls : List (List Int)} {f : Nat} {a b : Nat} {L : List Nat} {w w0 : Int} (h0 : Wk ls f a w0) (h : Pth ls a L b w) : Wk ls f b (w0 + w) := by
 induction h generalizing w0 with
 | one hi => exact .step hi h0
 | cons hi _ ih => rw [<- Int.add_assoc]; exact ih (.step hi h0)
theorem Pth.pot {ls : List (List Int)} {y : Nat -> Int} (hy : ∀ i, i < ls.length -> y (lb ls i) <= y (la ls i) + lw ls i) {a b : Nat} {L : List Nat} {w : Int} (h : Pth ls a L b w) : y b <= y a + w := by
 have := (h.wk (.nil (f := a))).pot hy
 omega
theorem Wk.pth {ls : List (List Int)} {f a : Nat} {w : Int} (h : Wk ls f a w) : (f = a /\ w = 0) ∨ ∃ L, Pth ls f L a w := by
 induction h with
 | nil => exact .inl ⟨rfl, rfl⟩
 | step hi _ ih =>
  rcases ih with ⟨rfl, rfl⟩ | ⟨L, h⟩
  ·exact .inr ⟨[], by rw [Int.zero_add]; exact .one hi⟩
  ·exact .inr ⟨_, h.app (.one hi)⟩
theorem twice : ∀ {L : List Nat}, ¬ L.Nodup -> ∃ v A B C, L = A ++ v :: (B ++ v :: C)
 | [], h => absurd List.nodup_nil h
 | u :: L, h => by
  by_cases hu : u ∈ L
  ·obtain ⟨B, C, e⟩ := List.append_of_mem hu
   exact ⟨u, [], B, C, by rw [e]; rfl⟩
  ·have : ¬ L.Nodup := fun q => h (List.nodup_cons.2 ⟨hu, q⟩)
   obtain ⟨v, A, B, C, e⟩ := twice this
   exact ⟨v, u :: A, B, C, by rw [e]; rfl⟩
theorem Pth.short {ls : List (List Int)} {y : Nat -> Int} (hy : ∀ i, i < ls.length -> y (lb ls i) <= y (la ls i) + lw ls i) {a b : Nat} : ∀ {L : List Nat} {w : Int}, Pth ls a L b w -> ∃ L' w', L'.Nodup /\ Pth ls a L' b w' /\ w' <= w := by
 intro L
 induction hn : L.length using Nat.strongRecOn generalizing L with
 | ind n ih =>
  intro w h
  by_cases q : L.Nodup
  ·exact ⟨L, w, q, h, Int.le_refl _⟩
  ·obtain ⟨v, A, B, C, rfl⟩ := twice q
   obtain ⟨w1, w2, h1, h2, e⟩ := h.split
   obtain ⟨w3, w4, h3, h4, e2⟩ := h2.split
   have h5 := h3.pot hy
   obtain ⟨L', w', k1, k2, k3⟩ := ih (A ++ v :: C).length (by subst hn; simp; omega) rfl (h1.app h4)
   exact ⟨L', w', k1, k2, by omega⟩
theorem nodup_len {L : List Nat} {N : Nat} (h : L.Nodup) (hL : ∀ v ∈ L, v < N) : L.length <= N := by
 refine Classical.byContradiction (fun q => ?_)
 obtain ⟨i, j, h1, h2, h3⟩ := pigeon N (fun i => L.getD i 0) (fun i hi => by
  show L.getD i 0 < N
  rw [List.getD_eq_getElem?_getD, List.getElem?_eq_getElem (show i < L.length by omega)]
  exact hL _ (List.getElem_mem _))
 have h3' : L.getD i 0 = L.getD j 0 := h3
 rw [List.getD_eq_getElem?_getD, List.getD_eq_getElem?_getD, List.getElem?_eq_getElem (show i < L.length by omega), List.getElem?_eq_getElem (show j < L.length by omega)] at h3'
 have h4 : L[i]'(by omega) = L[j]'(by omega) := h3'
 have := (List.getElem_inj h).1 h4
 omega
section
variable {X : FuncId -> List Value -> St -> (Value -> St -> Bool) -> Bool}
end
end Ev
end Go.Proofs.YtoeklhdklcpllaaGreat
namespace Go.Proofs.YtoeklhdklcpllaaGreat
open Go Go.RowKit
namespace Ev
def RL (ls : List (List Int)) (t : Nat -> Int) : List (List Int) := ls ++ (List.range ls.length).map (fun i => if 0 < t i then [((lb ls i : Nat) : Int), ((la ls i : Nat) : Int), -(lw ls i), 0] else [((la ls i : Nat) : Int), ((lb ls i : Nat) : Int), lw ls i, 0])
theorem rl_len {ls : List (List Int)} {t : Nat -> Int} : (RL ls t).length = ls.length + ls.length := by simp [RL]
theorem rl_at {ls : List (List Int)} {t : Nat -> Int} {i : Nat} (hi : i < ls.length) : (RL ls t)[ls.length + i]? = some (if 0 < t i then [((lb ls i : Nat) : Int), ((la ls i : Nat) : Int), -(lw ls i), 0] else [((la ls i : Nat) : Int), ((lb ls i : Nat) : Int), lw ls i, 0]) := by
 unfold RL
 rw [List.getElem?_append_right (by omega), show ls.length + i - ls.length = i by omega, List.getElem?_map, List.getElem?_range hi]; rfl
theorem rl_bck {ls : List (List Int)} {t : Nat -> Int} {i : Nat} (hi : i < ls.length) (ht : 0 < t i) : la (RL ls t) (ls.length + i) = lb ls i /\ lb (RL ls t) (ls.length + i) = la ls i /\ lw (RL ls t) (ls.length + i) = -(lw ls i) := by
 have h := rl_at (t := t) hi
 rw [if_pos ht] at h
 exact fld h
theorem rl_all {ls : List (List Int)} {t : Nat -> Int} {e : Nat} (he : e < (RL ls t).length) : ∃ i, i < ls.length /\ ((la (RL ls t) e = la ls i /\ lb (RL ls t) e = lb ls i /\ lw (RL ls t) e = lw ls i) ∨ (0 < t i /\ la (RL ls t) e = lb ls i /\ lb (RL ls t) e = la ls i /\ lw (RL ls t) e = -(lw ls i))) := by
 rw [rl_len] at he
 by_cases q : e < ls.length
 ·exact ⟨e, q, .inl (app_fld q)⟩
 ·obtain ⟨i, rfl⟩ : ∃ i, e = ls.length + i := ⟨e - ls.length, by omega⟩
  refine ⟨i, by omega, ?_⟩
  by_cases ht : 0 < t i
  ·exact .inr ⟨ht, rl_bck (by omega) ht⟩
  ·have h := rl_at (ls := ls) (t := t) (i := i) (by omega)
   rw [if_neg ht] at h
   exact .inl (fld h)
theorem fwd_pth {ls : List (List Int)} {t : Nat -> Int} {i : Nat} (hi : i < ls.length) : Pth (RL ls t) (la ls i) [] (lb ls i) (lw ls i) := by
 have h := Pth.one (ls := RL ls t) (i := i) (by rw [rl_len]; omega)
 obtain ⟨e1, e2, e3⟩ := app_fld (ls := ls) (us := (List.range ls.length).map (fun i => if 0 < t i then [((lb ls i : Nat) : Int), ((la ls i : Nat) : Int), -(lw ls i), 0] else [((la ls i : Nat) : Int), ((lb ls i : Nat) : Int), lw ls i, 0])) hi
 have e1 : la (RL ls t) i = la ls i := e1
 have e2 : lb (RL ls t) i = lb ls i := e2
 have e3 : lw (RL ls t) i = lw ls i := e3
 rwa [e1, e2, e3] at h
theorem bck_pth {ls : List (List Int)} {t : Nat -> Int} {i : Nat} (hi : i < ls.length) (ht : 0 < t i) : Pth (RL ls t) (lb ls i) [] (la ls i) (-(lw ls i)) := by
 have h := Pth.one (ls := RL ls t) (i := ls.length + i) (by rw [rl_len]; omega)
 obtain ⟨e1, e2, e3⟩ := rl_bck hi ht
 rwa [e1, e2, e3] at h
theorem walk_short {R : List (List Int)} {y : Nat -> Int} {N : Nat} (hy : ∀ i, i < R.length -> y (lb R i) <= y (la R i) + lw R i) (hN : ∀ {a L b w}, Pth R a L b w -> a < N /\ b < N /\ ∀ v ∈ L, v < N) {a b : Nat} {L : List Nat} {w : Int} (h : Pth R a L b w) : 0 <= w ∨ ∃ a' L' w', L'.length + 2 <= N /\ Pth R a' L' b w' /\ w' <= w := by
 obtain ⟨L1, w1, n1, h1, e1⟩ := h.short hy
 obtain ⟨L2, w2, n2, h2, e2, a2⟩ : ∃ L2 w2, L2.Nodup /\ Pth R a L2 b w2 /\ w2 <= w1 /\ ¬ a ∈ L2 := by
  by_cases q : a ∈ L1
  ·obtain ⟨A, B, e⟩ := List.append_of_mem q
   subst e
   obtain ⟨u1, u2, k1, k2, k3⟩ := h1.split
   have k4 := k1.pot hy
   have nd := List.nodup_cons.1 (List.nodup_append.1 n1).2.1
   exact ⟨B, u2, nd.2, k2, by omega, nd.1⟩
  ·exact ⟨L1, w1, n1, h1, Int.le_refl _, q⟩
 obtain ⟨L3, w3, n3, h3, e3, a3, b3⟩ : ∃ L3 w3, L3.Nodup /\ Pth R a L3 b w3 /\ w3 <= w2 /\ (¬ a ∈ L3) /\ ¬ b ∈ L3 := by
  by_cases q : b ∈ L2
  ·obtain ⟨A, B, e⟩ := List.append_of_mem q
   subst e
   obtain ⟨u1, u2, k1, k2, k3⟩ := h2.split
   have k4 := k2.pot hy
   have nd := List.nodup_append.1 n2
   exact ⟨A, u1, nd.1, k1, by omega, fun z => a2 (List.mem_append_left _ z), fun z => nd.2.2 b z b (List.mem_cons_self ..) rfl⟩
  ·exact ⟨L2, w2, n2, h2, Int.le_refl _, a2, q⟩
 by_cases q : a = b
 ·subst q
  have := h3.pot hy
  exact .inl (by omega)
 ·obtain ⟨t1, t2, t3⟩ := hN h3
  have nd : (a :: b :: L3).Nodup := List.nodup_cons.2 ⟨fun z => by
   rcases List.mem_cons.1 z with z | z
   ·exact q z
   ·exact a3 z, List.nodup_cons.2 ⟨b3, n3⟩⟩
  have := nodup_len (N := N) nd (fun v hv => by
   rcases List.mem_cons.1 hv with rfl | hv
   ·exact t1
   ·rcases List.mem_cons.1 hv with rfl | hv
    ·exact t2
    ·exact t3 v hv)
  exact .inr ⟨a, L3, w3, this, h3, by omega⟩
theorem le_walk {R : List (List Int)} {x : Nat -> Nat -> Int} (cov : ∀ r e, e < R.length -> x (r + 1) (lb R e) <= x r (la R e) + lw R e) {a b : Nat} {L : List Nat} {w : Int} (h : Pth R a L b w) : ∀ r, x (r + (L.length + 1)) b <= x r a + w := by
 induction h with
 | one hi => intro r; exact cov r _ hi
 | cons hi _ ih =>
  intro r
  have h1 := ih (r + 1)
  have h2 := cov r _ hi
  rw [List.length_cons, show ∀ k, r + (k + 1 + 1) = r + 1 + (k + 1) from fun k => by omega]
  omega
theorem settled {R : List (List Int)} {y : Nat -> Int} {M : Nat} {x : Nat -> Nat -> Int} (hy : ∀ i, i < R.length -> y (lb R i) <= y (la R i) + lw R i) (hN : ∀ {a L b w}, Pth R a L b w -> a < M + 1 /\ b < M + 1 /\ ∀ v ∈ L, v < M + 1)
 (h0 : ∀ v, x 0 v = 0) (mono : ∀ r v, v < M + 1 -> x (r + 1) v <= x r v) (cov : ∀ r e, e < R.length -> x (r + 1) (lb R e) <= x r (la R e) + lw R e) (att : ∀ r v, v < M + 1 -> x r v = 0 ∨ ∃ a L, Pth R a L v (x r v)) : ∀ v, v < M + 1 -> x (M + 1) v = x M v := fun v hv => by
 have down : ∀ d r, x (r + d) v <= x r v := by
  intro d
  induction d with
  | zero => intro r; exact Int.le_refl _
  | succ d ih => intro r; have := ih r; have := mono (r + d) v hv; rw [show r + (d + 1) = r + d + 1 by omega]; omega
 have hm := mono M v hv
 have hz : x M v <= 0 := by have := down M 0; rw [h0, Nat.zero_add] at this; exact this
 rcases att (M + 1) v hv with q | ⟨a, L, h⟩
 ·omega
 ·rcases walk_short hy hN h with q | ⟨a', L', w', l1, l2, l3⟩
  ·omega
  ·have h1 := le_walk cov l2 0
   rw [h0, Nat.zero_add] at h1
   have h2 := down (M - (L'.length + 1)) (L'.length + 1)
   rw [show L'.length + 1 + (M - (L'.length + 1)) = M by omega] at h2
   omega
structure Fb where
 x : Nat -> Int
 c : Nat -> Cm
 l : Int
def upB (s : Fb) (v i : Nat) (bk : Bool) (to : Nat) (ms : Int) : Fb := if s.x v + ms < s.x to then ⟨updX s.x to (s.x v + ms), updX s.c to ⟨i, bk, (v : Int), to, ms⟩, (to : Int)⟩ else s
def rlB (ls : List (List Int)) (t : Nat -> Int) (s : Fb) (v i : Nat) : Fb := if lb ls i = v then (if t i = 0 then s else upB s v i true (la ls i) (-(lw ls i))) else upB s v i false (lb ls i) (lw ls i)
def rwB (ls : List (List Int)) (t : Nat -> Int) (s : Fb) (v : Nat) : Nat -> Fb
 | 0 => s
 | q + 1 => rlB ls t (rwB ls t s v q) v ((nl ls ls.length v).getD q 0).toNat
def lwB (ls : List (List Int)) (t : Nat -> Int) (s : Fb) : Nat -> Fb
 | 0 => s
 | v + 1 => rwB ls t (lwB ls t s v) v (nl ls ls.length v).length
def stB (ls : List (List Int)) (t : Nat -> Int) (N : Nat) : Nat -> Fb
 | 0 => ⟨fun _ => 0, fun _ => ⟨0, false, 0, 0, 0⟩, -1⟩
 | r + 1 => lwB ls t ⟨(stB ls t N r).x, (stB ls t N r).c, -1⟩ N
structure Rb (ls : List (List Int)) (t : Nat -> Int) (M : Nat) (x0 : Nat -> Int) (s : Fb) : Prop where
 le : ∀ v, v < M + 1 -> s.x v <= x0 v
 att : ∀ v, v < M + 1 -> s.x v = 0 ∨ ∃ a L, Pth (RL ls t) a L v (s.x v)
 ch : (s.l = -1 /\ ∀ v, v < M + 1 -> s.x v = x0 v) ∨ ∃ b : Nat, b < M + 1 /\ s.l = (b : Int) /\ s.x b < x0 b
theorem Rb.up {ls : List (List Int)} {t : Nat -> Int} {M : Nat} {x0 : Nat -> Int} {s : Fb} {v i to : Nat} {bk : Bool} {ms : Int} (h : Rb ls t M x0 s) (hv : v < M + 1) (hto : to < M + 1) (hp : Pth (RL ls t) v [] to ms) : Rb ls t M x0 (upB s v i bk to ms) /\ (upB s v i bk to ms).x to <= s.x v + ms /\ ∀ u, (upB s v i bk to ms).x u <= s.x u := by
 unfold upB
 by_cases c : s.x v + ms < s.x to
 ·rw [if_pos c]
  have hle := h.le to hto
  refine ⟨⟨fun u hu => ?_, fun u hu => ?_, .inr ⟨to, hto, rfl, ?_⟩⟩, ?_, fun u => ?_⟩
  ·show updX s.x to _ u <= _
   by_cases e : u = to
   ·subst e; rw [updX_eq]; omega
   ·rw [updX_ne e]; exact h.le u hu
  ·show updX s.x to _ u = 0 ∨ ∃ a L, Pth (RL ls t) a L u (updX s.x to _ u)
   by_cases e : u = to
   ·subst e
    rw [updX_eq]
    rcases h.att v hv with q | ⟨a, L, q⟩
    ·rw [q, Int.zero_add]; exact .inr ⟨v, [], hp⟩
    ·exact .inr ⟨a, _, q.app hp⟩
   ·rw [updX_ne e]; exact h.att u hu
  ·show updX s.x to _ to < _
   rw [updX_eq]; omega
  ·show updX s.x to _ to <= _
   rw [updX_eq]; exact Int.le_refl _
  ·show updX s.x to _ u <= _
   by_cases e : u = to
   ·subst e; rw [updX_eq]; omega
   ·rw [updX_ne e]; exact Int.le_refl _
 ·rw [if_neg c]
  exact ⟨h, by omega, fun u => Int.le_refl _⟩
def Cv (ls : List (List Int)) (t x0 x : Nat -> Int) (v i : Nat) : Prop := (la ls i = v -> x (lb ls i) <= x0 v + lw ls i) /\ (lb ls i = v -> 0 < t i -> x (la ls i) <= x0 v + -(lw ls i))
theorem Cv.mono {ls : List (List Int)} {t x0 x x' : Nat -> Int} {v i : Nat} (h : Cv ls t x0 x v i) (hx : ∀ u, x' u <= x u) : Cv ls t x0 x' v i := ⟨fun e => by have := h.1 e; have := hx (lb ls i); omega, fun e e2 => by have := h.2 e e2; have := hx (la ls i); omega⟩
theorem Rb.rl {ls : List (List Int)} {t : Nat -> Int} {M : Nat} {x0 : Nat -> Int} {s : Fb} {v i : Nat} (hg : Lg M ls) (hn : ∀ i, i < ls.length -> 0 <= t i) (h : Rb ls t M x0 s) (hv : v < M + 1) (hi : i < ls.length) (hnm : la ls i = v ∨ lb ls i = v) : Rb ls t M x0 (rlB ls t s v i) /\ Cv ls t x0 (rlB ls t s v i).x v i /\ ∀ u, (rlB ls t s v i).x u <= s.x u := by
 obtain ⟨g1, g2, g3, _⟩ := hg i hi
 have hle := h.le v hv
 unfold rlB
 by_cases c : lb ls i = v
 ·rw [if_pos c]
  by_cases c2 : t i = 0
  ·rw [if_pos c2]
   exact ⟨h, ⟨fun e => absurd (e.trans c.symm) g3, fun _ e => by omega⟩, fun u => Int.le_refl _⟩
  ·rw [if_neg c2]
   have c3 := hn i hi
   have hp := bck_pth (ls := ls) (t := t) hi (by omega)
   rw [c] at hp
   obtain ⟨u1, u2, u3⟩ := h.up (i := i) (bk := true) hv g1 hp
   exact ⟨u1, ⟨fun e => absurd (e.trans c.symm) g3, fun _ _ => by omega⟩, u3⟩
 ·rw [if_neg c]
  have ha := hnm.resolve_right c
  have hp := fwd_pth (ls := ls) (t := t) hi
  rw [ha] at hp
  obtain ⟨u1, u2, u3⟩ := h.up (i := i) (bk := false) hv g2 hp
  exact ⟨u1, ⟨fun _ => by omega, fun e => absurd e c⟩, u3⟩
theorem Rb.rw {ls : List (List Int)} {t : Nat -> Int} {M : Nat} {x0 : Nat -> Int} {s : Fb} {v : Nat} (hg : Lg M ls) (hn : ∀ i, i < ls.length -> 0 <= t i) (h : Rb ls t M x0 s) (hv : v < M + 1) : ∀ {q : Nat}, q <= (nl ls ls.length v).length -> Rb ls t M x0 (rwB ls t s v q) /\ (∀ j, j < q -> ∀ i : Nat, i < ls.length -> (nl ls ls.length v).getD j 0 = (i : Int) -> Cv ls t x0 (rwB ls t s v q).x v i) /\ ∀ u, (rwB ls t s v q).x u <= s.x u
 | 0, _ => ⟨h, fun j hj => absurd hj (Nat.not_lt_zero j), fun u => Int.le_refl _⟩
 | q + 1, hq => by
  obtain ⟨i1, i2, i3⟩ := Rb.rw hg hn h hv (q := q) (by omega)
  obtain ⟨i, hi, hil, hnm⟩ := nl_mem (ls := ls) (v := v) (k := ls.length) (q := q) (by omega)
  obtain ⟨j1, j2, j3⟩ := i1.rl hg hn hv hil ((nam_ab hg hil).1 hnm)
  show Rb ls t M x0 (rlB ls t (rwB ls t s v q) v ((nl ls ls.length v).getD q 0).toNat) /\ (∀ j, j < q + 1 -> ∀ i : Nat, i < ls.length -> (nl ls ls.length v).getD j 0 = (i : Int) -> Cv ls t x0 (rlB ls t (rwB ls t s v q) v ((nl ls ls.length v).getD q 0).toNat).x v i) /\ ∀ u, (rlB ls t (rwB ls t s v q) v ((nl ls ls.length v).getD q 0).toNat).x u <= s.x u
  rw [hi, Int.toNat_natCast]
  refine ⟨j1, fun j hj i' hi' e' => ?_, fun u => by have := i3 u; have := j3 u; omega⟩
  by_cases e : j = q
  ·subst e
   have : i' = i := by rw [hi] at e'; omega
   subst this
   exact j2
  ·exact (i2 j (by omega) i' hi' e').mono j3
theorem Rb.lw {ls : List (List Int)} {t : Nat -> Int} {M : Nat} {x0 : Nat -> Int} {s : Fb} (hg : Lg M ls) (hn : ∀ i, i < ls.length -> 0 <= t i) (h : Rb ls t M x0 s) : ∀ {v : Nat}, v <= M + 1 -> Rb ls t M x0 (lwB ls t s v) /\ ∀ u, u < v -> ∀ i, i < ls.length -> Cv ls t x0 (lwB ls t s v).x u i
 | 0, _ => ⟨h, fun u hu => absurd hu (Nat.not_lt_zero u)⟩
 | v + 1, hv => by
  obtain ⟨i1, i2⟩ := Rb.lw hg hn h (v := v) (by omega)
  obtain ⟨j1, j2, j3⟩ := i1.rw hg hn (show v < M + 1 by omega) (Nat.le_refl _)
  refine ⟨j1, fun u hu i hi => ?_⟩
  by_cases e : u = v
  ·subst e
   by_cases hnm : la ls i = u ∨ lb ls i = u
   ·obtain ⟨j, k1, k2⟩ := nl_has (ls := ls) (v := u) (i := i) ((nam_ab hg hi).2 hnm) (k := ls.length) hi
    exact j2 j k1 i hi k2
   ·exact ⟨fun q => absurd (.inl q) hnm, fun q => absurd (.inr q) hnm⟩
  ·exact (i2 u (by omega) i hi).mono j3
theorem Rb.st {ls : List (List Int)} {t : Nat -> Int} {M : Nat} (hg : Lg M ls) (hn : ∀ i, i < ls.length -> 0 <= t i) : ∀ {r : Nat}, (∀ v, v < M + 1 -> (stB ls t (M + 1) r).x v = 0 ∨ ∃ a L, Pth (RL ls t) a L v ((stB ls t (M + 1) r).x v)) /\ Rb ls t M (stB ls t (M + 1) r).x ⟨(stB ls t (M + 1) r).x, (stB ls t (M + 1) r).c, -1⟩
 | 0 => ⟨fun v _ => .inl rfl, fun v _ => Int.le_refl _, fun v _ => .inl rfl, .inl ⟨rfl, fun v _ => rfl⟩⟩
 | r + 1 => by
  obtain ⟨_, i2⟩ := Rb.st hg hn (r := r)
  obtain ⟨j1, _⟩ := i2.lw hg hn (Nat.le_refl (M + 1))
  exact ⟨j1.att, fun v _ => Int.le_refl _, j1.att, .inl ⟨rfl, fun v _ => rfl⟩⟩
theorem st_rnd {ls : List (List Int)} {t : Nat -> Int} {M r : Nat} (hg : Lg M ls) (hn : ∀ i, i < ls.length -> 0 <= t i) : Rb ls t M (stB ls t (M + 1) r).x (stB ls t (M + 1) (r + 1)) /\ ∀ u, u < M + 1 -> ∀ i, i < ls.length -> Cv ls t (stB ls t (M + 1) r).x (stB ls t (M + 1) (r + 1)).x u i :=
 (Rb.st hg hn (r := r)).2.lw hg hn (Nat.le_refl (M + 1))
theorem pth_lt {ls : List (List Int)} {t : Nat -> Int} {M : Nat} (hg : Lg M ls) {a b : Nat} {L : List Nat} {w : Int} (h : Pth (RL ls t) a L b w) : a < M + 1 /\ b < M + 1 /\ ∀ v ∈ L, v < M + 1 := by
 have key : ∀ e, e < (RL ls t).length -> la (RL ls t) e < M + 1 /\ lb (RL ls t) e < M + 1 := fun e he => by
  obtain ⟨i, hi, q⟩ := rl_all he
  obtain ⟨g1, g2, _⟩ := hg i hi
  rcases q with ⟨q1, q2, _⟩ | ⟨_, q1, q2, _⟩
  ·rw [q1, q2]; exact ⟨g1, g2⟩
  ·rw [q1, q2]; exact ⟨g2, g1⟩
 induction h with
 | one hi => exact ⟨(key _ hi).1, (key _ hi).2, fun v hv => absurd hv (List.not_mem_nil)⟩
 | cons hi _ ih =>
  refine ⟨(key _ hi).1, ih.2.1, fun v hv => ?_⟩
  rcases List.mem_cons.1 hv with rfl | hv
  ·exact (key _ hi).2
  ·exact ih.2.2 v hv
theorem rl_pot {ls : List (List Int)} {t y : Nat -> Int} (hs : ∀ i, i < ls.length -> y (lb ls i) <= y (la ls i) + lw ls i) (ht : ∀ i, i < ls.length -> 0 < t i -> y (lb ls i) = y (la ls i) + lw ls i) : ∀ i, i < (RL ls t).length -> y (lb (RL ls t) i) <= y (la (RL ls t) i) + lw (RL ls t) i := fun e he => by
 obtain ⟨i, hi, q⟩ := rl_all he
 rcases q with ⟨q1, q2, q3⟩ | ⟨q0, q1, q2, q3⟩
 ·rw [q1, q2, q3]; exact hs i hi
 ·rw [q1, q2, q3]; have := ht i hi q0; omega
theorem stb_end {ls : List (List Int)} {t y : Nat -> Int} {M : Nat} (hg : Lg M ls) (hn : ∀ i, i < ls.length -> 0 <= t i) (hs : ∀ i, i < ls.length -> y (lb ls i) <= y (la ls i) + lw ls i) (ht : ∀ i, i < ls.length -> 0 < t i -> y (lb ls i) = y (la ls i) + lw ls i) : (stB ls t (M + 1) (M + 1)).l = -1 := by
 have hx := settled (R := RL ls t) (y := y) (M := M) (x := fun r => (stB ls t (M + 1) r).x) (rl_pot hs ht) (fun h => pth_lt hg h) (fun v => rfl) (fun r v hv => (st_rnd hg hn (r := r)).1.le v hv) (fun r e he => by
  obtain ⟨i, hi, q⟩ := rl_all he
  obtain ⟨g1, g2, _⟩ := hg i hi
  rcases q with ⟨q1, q2, q3⟩ | ⟨q0, q1, q2, q3⟩
  ·rw [q1, q2, q3]; exact ((st_rnd hg hn (r := r)).2 _ g1 i hi).1 rfl
  ·rw [q1, q2, q3]; exact ((st_rnd hg hn (r := r)).2 _ g2 i hi).2 rfl q0) (fun r v hv => (Rb.st hg hn (r := r)).1 v hv)
 rcases (st_rnd hg hn (r := M)).1.ch with q | ⟨b, b1, b2, b3⟩
 ·exact q.1
 ·have := hx b b1
  have h2 : (stB ls t (M + 1) (M + 1)).x b = (stB ls t (M + 1) M).x b := this
  omega
theorem stb_tell {ls : List (List Int)} {t y : Nat -> Int} {M r : Nat} (hg : Lg M ls) (hn : ∀ i, i < ls.length -> 0 <= t i) (hl : (stB ls t (M + 1) (r + 1)).l = -1) : ∀ i, i < ls.length -> (stB ls t (M + 1) (r + 1)).x (lb ls i) <= (stB ls t (M + 1) (r + 1)).x (la ls i) + lw ls i /\ (0 < t i -> (stB ls t (M + 1) (r + 1)).x (lb ls i) = (stB ls t (M + 1) (r + 1)).x (la ls i) + lw ls i) := fun i hi => by
 obtain ⟨h1, h2⟩ := st_rnd hg hn (r := r)
 obtain ⟨g1, g2, _⟩ := hg i hi
 have e : ∀ v, v < M + 1 -> (stB ls t (M + 1) (r + 1)).x v = (stB ls t (M + 1) r).x v := by
  rcases h1.ch with q | ⟨b, b1, b2, b3⟩
  ·exact q.2
  ·rw [hl] at b2; omega
 have a1 := (h2 _ g1 i hi).1 rfl
 have a2 := (h2 _ g2 i hi).2 rfl
 have e1 := e _ g1
 have e2 := e _ g2
 refine ⟨by omega, fun h0 => ?_⟩
 have := a2 h0
 omega
section
variable {X : FuncId -> List Value -> St -> (Value -> St -> Bool) -> Bool}
end
end Ev
end Go.Proofs.YtoeklhdklcpllaaGreat
namespace Go.Proofs.YtoeklhdklcpllaaGreat
open Go Go.RowKit
namespace Ev
theorem cvs_cml {c : Nat -> Nat × Nat × Nat × Int} : ∀ {N : Nat}, cvs c N = cml (fun j => ⟨(c j).1, false, ((c j).2.1 : Int), (c j).2.2.1, (c j).2.2.2⟩) N
 | 0 => rfl
 | n + 1 => by
  show cvs c n ++ cell (c n) = _
  rw [cvs_cml, <- cml_app]; rfl
theorem rep_cml {N : Nat} : repeatN [.int .i64 0, .bool false, .int .i64 0, .int .i64 0, .int .i64 0] N = cml (fun _ => ⟨0, false, 0, 0, 0⟩) N := by
 rw [cvs_zero, cvs_cml]; rfl
theorem rwb_skip {ls : List (List Int)} {t : Nat -> Int} {s : Fb} {v q i : Nat} (hi : (nl ls ls.length v).getD q 0 = (i : Int)) (hb : lb ls i = v) (ht : t i = 0) : rwB ls t s v (q + 1) = rwB ls t s v q := by
 show rlB ls t _ v ((nl ls ls.length v).getD q 0).toNat = _
 rw [hi, Int.toNat_natCast]
 unfold rlB
 rw [if_pos hb, if_pos ht]
theorem rwb_back {ls : List (List Int)} {t : Nat -> Int} {s : Fb} {v q i : Nat} (hi : (nl ls ls.length v).getD q 0 = (i : Int)) (hb : lb ls i = v) (ht : ¬ t i = 0) : rwB ls t s v (q + 1) = upB (rwB ls t s v q) v i true (la ls i) (-(lw ls i)) := by
 show rlB ls t _ v ((nl ls ls.length v).getD q 0).toNat = _
 rw [hi, Int.toNat_natCast]
 unfold rlB
 rw [if_pos hb, if_neg ht]
theorem rwb_fwd {ls : List (List Int)} {t : Nat -> Int} {s : Fb} {v q i : Nat} (hi : (nl ls ls.length v).getD q 0 = (i : Int)) (hb : ¬ lb ls i = v) : rwB ls t s v (q + 1) = upB (rwB ls t s v q) v i false (lb ls i) (lw ls i) := by
 show rlB ls t _ v ((nl ls ls.length v).getD q 0).toNat = _
 rw [hi, Int.toNat_natCast]
 unfold rlB
 rw [if_neg hb]
theorem ub_yes {s : Fb} {v i to : Nat} {bk : Bool} {ms : Int} (h : s.x v + ms < s.x to) : (⟨updX s.x to (s.x v + ms), updX s.c to ⟨i, bk, (v : Int), to, ms⟩, (to : Int)⟩ : Fb) = upB s v i bk to ms := (if_pos h).symm
theorem ub_no {s : Fb} {v i to : Nat} {bk : Bool} {ms : Int} (h : ¬ s.x v + ms < s.x to) : s = upB s v i bk to ms := (if_neg h).symm
theorem pth_low {ls : List (List Int)} {t : Nat -> Int} (hw : ∀ i, i < ls.length -> -20000 <= lw ls i /\ lw ls i <= 20000) {a b : Nat} {L : List Nat} {w : Int} (h : Pth (RL ls t) a L b w) : -20000 * ((L.length : Int) + 1) <= w := by
 have key : ∀ e, e < (RL ls t).length -> -20000 <= lw (RL ls t) e := fun e he => by
  obtain ⟨i, hi, q⟩ := rl_all he
  have := hw i hi
  rcases q with ⟨_, _, q3⟩ | ⟨_, _, _, q3⟩ <;> omega
 induction h with
 | one hi => have := key _ hi; show -20000 * (((0 : Nat) : Int) + 1) <= _; omega
 | cons hi _ ih => have := key _ hi; rw [List.length_cons]; omega
theorem rb_bd {ls : List (List Int)} {t y x0 : Nat -> Int} {M : Nat} {s : Fb} (h : Rb ls t M x0 s) (hg : Lg M ls) (h0 : ∀ v, v < M + 1 -> x0 v <= 0) (hy : ∀ i, i < (RL ls t).length -> y (lb (RL ls t) i) <= y (la (RL ls t) i) + lw (RL ls t) i) (hw : ∀ i, i < ls.length -> -20000 <= lw ls i /\ lw ls i <= 20000) (hM : M <= 64) : ∀ v, v < M + 1 -> -1280000 <= s.x v /\ s.x v <= 0 := fun v hv => by
 have h1 := h.le v hv
 have h2 := h0 v hv
 refine ⟨?_, by omega⟩
 rcases h.att v hv with q | ⟨a, L, q⟩
 ·omega
 ·rcases walk_short (N := M + 1) hy (fun h => pth_lt hg h) q with z | ⟨a', L', w', l1, l2, l3⟩
  ·omega
  ·have := pth_low hw l2
   omega
theorem stb_neg {ls : List (List Int)} {t : Nat -> Int} {M : Nat} (hg : Lg M ls) (hn : ∀ i, i < ls.length -> 0 <= t i) : ∀ {r : Nat}, ∀ v, v < M + 1 -> (stB ls t (M + 1) r).x v <= 0
 | 0, v, _ => Int.le_refl _
 | r + 1, v, hv => by
  have h1 := stb_neg hg hn (r := r) v hv
  have h2 := (st_rnd hg hn (r := r)).1.le v hv
  omega
theorem best_fin {ls : List (List Int)} {M r : Nat} {w t p : Nat -> Int} {x : List Int} {k : Nat} (hg : Lg M ls) (h : Opt ls (M + 1) w t p) (hb : ∀ v, v < M + 1 -> -1280000 <= (stB ls t (M + 1) (r + 1)).x v /\ (stB ls t (M + 1) (r + 1)).x v <= 0) (hl : (stB ls t (M + 1) (r + 1)).l = -1) (hm : Mvd (xs (stB ls t (M + 1) (r + 1)).x (M + 1)) x (-((stB ls t (M + 1) (r + 1)).x 0)) (xs (stB ls t (M + 1) (r + 1)).x (M + 1)).length) : x.length = M + 1 /\ x.getD 0 0 = 0 /\ Opt ls (M + 1) w t (fun v => x.getD v 0) /\ ∀ v, v < M + 1 -> -1280000 <= x.getD v 0 /\ x.getD v 0 <= 1280000 := by
 obtain ⟨m1, m2⟩ := hm
 rw [xs_len] at m1 m2
 have at' : ∀ v, v < M + 1 -> x.getD v 0 = (stB ls t (M + 1) (r + 1)).x v + -((stB ls t (M + 1) (r + 1)).x 0) := fun v hv => by
  have := m2 v hv
  rwa [xs_get hv] at this
 have ht := stb_tell hg h.nn hl (y := p)
 refine ⟨m1, by rw [at' 0 (by omega)]; omega, ⟨h.nn, h.nt, fun i hi => ?_, fun i hi h0 => ?_⟩, fun v hv => by have := at' v hv; have := hb v hv; have := hb 0 (by omega); omega⟩
 ·obtain ⟨g1, g2, _⟩ := hg i hi
  have e1 := at' _ g1
  have e2 := at' _ g2
  have := (ht i hi).1
  show x.getD _ 0 <= x.getD _ 0 + _
  omega
 ·obtain ⟨g1, g2, _⟩ := hg i hi
  have e1 := at' _ g1
  have e2 := at' _ g2
  have := (ht i hi).2 h0
  show x.getD _ 0 = x.getD _ 0 + _
  omega
section
variable {X : FuncId -> List Value -> St -> (Value -> St -> Bool) -> Bool}
set_option maxHeartbeats 1000000 in
set_option maxRecDepth 100000 in
theorem Best_s (n : Nat) (m : Int) (al : Option Addr) (cl : Nat) (ls : List (List Int)) (aw : Option Addr) (cw : Nat) (w : List Int) (s : St) (hs : Wf s) (hn : 7318349394477056 <= n) (hL : RowsE s 4 al ls) (hcl : al = none -> cl = 0) (hW : IntsE s aw w) (hCap : CapOk s aw w.length cw) : Spec Tryz.prog (tabK tabw) X (n + 10500) 11 [.agg ⟨[.int .i64 m, .slice al ls.length cl]⟩, .slice aw w.length cw] s (fun v A => (¬ sysE m ls = 0 /\ v = .tuple #[.slice none 0 0, .int .i64 (sysE m ls)] /\ A = []) ∨ (sysE m ls = 0 /\ ¬ ((w.length : Int) = m + 1 /\ WOk w w.length) /\ v = .tuple #[.slice none 0 0, .int .i64 27] /\ A = []) ∨ (sysE m ls = 0 /\ ((w.length : Int) = m + 1 /\ WOk w w.length) /\ Uns ls (m.toNat + 1) /\ v = .tuple #[.slice none 0 0, .int .i64 23] /\ A = []) ∨ (sysE m ls = 0 /\ ((w.length : Int) = m + 1 /\ WOk w w.length) /\ ¬ Uns ls (m.toNat + 1) /\ Opn ls (m.toNat + 1) (du0 w m.toNat) /\ v = .tuple #[.slice none 0 0, .int .i64 22] /\ A = []) ∨ (sysE m ls = 0 /\ ((w.length : Int) = m + 1 /\ WOk w w.length) /\ ¬ Uns ls (m.toNat + 1) /\ ∃ t b x, Opt ls (m.toNat + 1) (du0 w m.toNat) t (fun v => x.getD v 0) /\ tot t ls.length <= 230400000000000 /\ x.length = m.toNat + 1 /\ x.getD 0 0 = 0 /\ (∀ v, v < m.toNat + 1 -> -1280000 <= x.getD v 0 /\ x.getD v 0 <= 1280000) /\ v = .tuple #[.slice (some ⟨b, 0, none⟩) (m.toNat + 1) (m.toNat + 1), .int .i64 0] /\ A = [.row b 3 false (ints x)])) := by
 refine enter bw11_at rfl hs ?_
 unfold bw11
 have hlen := hL.len
 have hlenW := hW.len
 refine rS (kO rfl (a_box rfl rfl rfl (fun b1 => (kM rfl rfl (kM rfl rfl (i_nil (rS (kO rfl (a_lda rfl (by decide) .here rfl (kM rfl rfl (kO rfl (a_call rfl rfl (fun s1 h1 => solve_s _ m al cl ls aw cw w s1 h1.wf (by omega) (hL.ext hs h1.2.1) hcl (hW.ext hs h1.2.1) (hCap.ext hs h1.2.1)) (fun v1 A1 q1 => ?_)))))))))))))
 rcases q1 with ⟨hsx, rfl, rfl⟩ | ⟨hsys, hww, rfl, rfl⟩ | ⟨hsys, hww, hun, rfl, rfl⟩ | ⟨hsys, hww, hnu, hop, rfl, rfl⟩ | ⟨hsys, hww, hnu, q1⟩
 ·have hsx9 := hsx
  refine kM rfl rfl (kO rfl (a_ext rfl rfl (kO rfl (a_ext rfl rfl (kM rfl rfl (kM rfl rfl (i_nil (rQ (rS (kM rfl rfl (kO rfl (a_neq rfl rfl (fun h5 => ?_) (fun h5 => ?_)))))))))))))
  ·refine i_nil (r_cond_t rfl (rS (kM rfl rfl (kM rfl rfl (kM rfl rfl (i_nil (r_ret (then_r ?_))))))))
   exact end2 rfl rfl (.inl ⟨hsx, rfl, rfl⟩)
  ·exfalso; omega
 ·have hww9 := hww
  refine kM rfl rfl (kO rfl (a_ext rfl rfl (kO rfl (a_ext rfl rfl (kM rfl rfl (kM rfl rfl (i_nil (rQ (rS (kM rfl rfl (kO rfl (a_neq rfl rfl (fun _ => (i_nil (r_cond_t rfl (rS (kM rfl rfl (kM rfl rfl (kM rfl rfl (i_nil (r_ret (then_r ?_)))))))))) (fun h => absurd h (by decide))))))))))))))
  exact end2 rfl rfl (.inr (.inl ⟨hsys, hww, rfl, rfl⟩))
 ·have hun9 := hun
  refine kM rfl rfl (kO rfl (a_ext rfl rfl (kO rfl (a_ext rfl rfl (kM rfl rfl (kM rfl rfl (i_nil (rQ (rS (kM rfl rfl (kO rfl (a_neq rfl rfl (fun _ => (i_nil (r_cond_t rfl (rS (kM rfl rfl (kM rfl rfl (kM rfl rfl (i_nil (r_ret (then_r ?_)))))))))) (fun h => absurd h (by decide))))))))))))))
  exact end2 rfl rfl (.inr (.inr (.inl ⟨hsys, hww, hun, rfl, rfl⟩)))
 ·have hop9 := hop
  refine kM rfl rfl (kO rfl (a_ext rfl rfl (kO rfl (a_ext rfl rfl (kM rfl rfl (kM rfl rfl (i_nil (rQ (rS (kM rfl rfl (kO rfl (a_neq rfl rfl (fun _ => (i_nil (r_cond_t rfl (rS (kM rfl rfl (kM rfl rfl (kM rfl rfl (i_nil (r_ret (then_r ?_)))))))))) (fun h => absurd h (by decide))))))))))))))
  exact end2 rfl rfl (.inr (.inr (.inr (.inl ⟨hsys, hww, hnu, hop, rfl, rfl⟩))))
 ·obtain ⟨hm0, hM, h400, hlm⟩ := sysE_ok hsys
  obtain ⟨M, rfl⟩ : ∃ q : Nat, m = (q : Int) := ⟨m.toNat, by omega⟩
  obtain ⟨t, p, hOp, htb, hts, hpb, bf2, bt3, bn4, O, B, rfl, rfl, hO⟩ := q1
  rw [Int.toNat_natCast, List.append_assoc, List.cons_append, List.cons_append, List.cons_append, List.nil_append]
  have hMM := hM
  change Opt ls (M + 1) (du0 w M) t p at hOp
  change ∀ v, v < M + 1 -> _ at hpb
  have hwl : w.length = M + 1 := by omega
  have hLgs := lg_of hlm
  have hpot := rl_pot (t := t) hOp.st hOp.ti
  have hlw : ∀ i, i < ls.length -> -20000 <= lw ls i /\ lw ls i <= 20000 := fun i hi => lw_bd' hlm hi
  refine kM rfl rfl (kO rfl (a_ext rfl rfl (kO rfl (a_ext rfl rfl (kM rfl rfl (kM rfl rfl (i_nil (rQ (rS (kM rfl rfl (kO rfl (a_neq rfl rfl (fun h => absurd h (by decide)) (fun _ => (i_nil (r_cond_f rfl (r_skip (then_n (rS (kM rfl rfl (kG rfl rfl (a_inl rfl rfl bw43_at rfl ?_)))))))))))))))))))))
  unfold bw43
  refine rS (kM rfl rfl (i_nil (rS (kM rfl rfl (kG rfl rfl (a_inl rfl rfl bw80_at rfl ?_))))))
  unfold bw80
  refine rS (kM rfl rfl (kM rfl rfl (i_nil (rS (kM rfl rfl (kO rfl (a_nilc rfl (kO rfl (a_fa rfl (kO rfl (a_fa rfl (kO rfl (a_ld rfl (.app .here) rfl (kO rfl (a_add rfl rfl (by omega) (kO rfl (a_mksI (m := M + 1) (c := M + 1) rfl rfl (by omega) (by omega) (by omega) (fun b10 => (kM rfl rfl (kO rfl (a_nilc rfl (kO rfl (a_fa rfl (kO rfl (a_fa rfl (kO rfl (a_ld rfl (.next (.app .here)) rfl (kO rfl (a_add rfl rfl (by omega) (kO rfl (a_mks5 (m := M + 1) (c := M + 1) rfl rfl (by omega) (by omega) (by omega) rep5 (fun b11 => (kM rfl rfl (kM rfl rfl (i_nil (rS (kM rfl rfl ?_)))))))))))))))))))))))))))))))))))))
  refine i_nil (rQ (rS (kM rfl rfl (kO rfl (a_nilc rfl (kO rfl (a_fa rfl (kO rfl (a_fa rfl (kO rfl (a_ld rfl (.next (.next (.app .here))) rfl (kO rfl (a_add rfl rfl (by omega) (kM rfl rfl (i_nil (r_block ?_))))))))))))))))
  rw [rep_xs0 (n := M + 1), rep_cml]
  refine r_loop (fun j e A => ∃ (r : Nat), e = [(0, .pointer (some ⟨bf2, 0, none⟩)), (4, .slice (some ⟨b10, 0, none⟩) (M + 1) (M + 1)), (5, .slice (some ⟨b11, 0, none⟩) (M + 1) (M + 1)), (6, .int .i64 (stB ls t (M + 1) r).l), (26, .int .i64 ((M : Int) + 1)), (27, .int .i64 (r : Int))] /\ A = (.row b11 134 false (cml (stB ls t (M + 1) r).c (M + 1)) :: (.row b10 3 false (ints (xs (stB ls t (M + 1) r).x (M + 1))) :: (nobj B (nl ls ls.length) O ++ (.row bf2 104 false ([.int .i64 (M : Int), .slice al ls.length cl, .slice (some ⟨bt3, 0, none⟩) ls.length ls.length, .slice (some ⟨bn4, 0, none⟩) (M + 1) (M + 1)]) :: (.row bn4 25 false (nsl B (nl ls ls.length) (M + 1)) :: (.row bt3 3 false (ints (xs t ls.length)) :: [])))))) /\ j = M + 1 - r /\ r <= M + 1 /\ ∀ k, k < r -> ¬ (stB ls t (M + 1) (k + 1)).l = -1) 2000 1125899906842624 281474976710656 ?_ (j := _) (env2 := _) (A2 := _) ?_ ?_ ?_ ?_ ⟨0, rfl, rfl, rfl, Nat.zero_le _, (fun k hk => absurd hk (Nat.not_lt_zero k))⟩
  rotate_left
  ·omega
  ·omega
  ·exact (lc 0 rfl (lc 4 rfl (lc 5 rfl (lc 6 rfl (lc 26 rfl (lc 27 rfl Less.nil))))))
  ·exact (.q (.q (.r (.q (.q (.q (.cons _ .slnil)))))))
  rintro n hn j _ _ ⟨r, rfl, rfl, rfl, hr, hne⟩
  have hRs := (Rb.st hLgs hOp.nn (r := r)).2
  have hx0 := stb_neg hLgs hOp.nn (r := r)
  refine rS (kO rfl (a_lss rfl rfl (fun h12 => ?_) (fun h12 => ?_)))
  ·refine i_nil (rQ (r_cond_t rfl (r_skip (then_n (rQ (r_block (rS (kM rfl rfl (kM rfl rfl (kM rfl rfl (kG rfl rfl (a_inl rfl rfl bw103_at rfl ?_))))))))))))
   unfold bw103
   refine rS (kO rfl (a_box rfl rfl rfl (fun b13 => (kO rfl (a_box rfl rfl rfl (fun b14 => (kM rfl rfl (i_nil (rS (kO rfl (a_new rfl rfl (fun b15 => (kZ rfl (a_st rfl rfl .here rfl rfl (i_nil (rQ (rS (kM rfl rfl (kO rfl (a_nilc rfl (kO rfl (a_fa rfl (kO rfl (a_fa rfl (kO rfl (a_ld rfl (.next (.next (.next (.next (.next (.app .here)))))) rfl (kO rfl (a_add rfl rfl (by omega) (kM rfl rfl (i_nil (r_block ?_)))))))))))))))))))))))))))))))
   refine r_loopD (fun j e D A => ∃ (v : Nat) (qs : List Nat), qs = D /\ e = [(0, .pointer (some ⟨bf2, 0, none⟩)), (4, .pointer (some ⟨b13, 0, none⟩)), (5, .pointer (some ⟨b14, 0, none⟩)), (7, .pointer (some ⟨b15, 0, none⟩)), (16, .int .i64 ((M : Int) + 1)), (17, .int .i64 (v : Int))] /\ A = (qs.map Ob.dfr ++ (.row b15 3 false ([.int .i64 (lwB ls t ⟨(stB ls t (M + 1) r).x, (stB ls t (M + 1) r).c, -1⟩ v).l]) :: (.row b14 113 false ([.slice (some ⟨b11, 0, none⟩) (M + 1) (M + 1)]) :: (.row b13 25 false ([.slice (some ⟨b10, 0, none⟩) (M + 1) (M + 1)]) :: (.row b11 134 false (cml (lwB ls t ⟨(stB ls t (M + 1) r).x, (stB ls t (M + 1) r).c, -1⟩ v).c (M + 1)) :: (.row b10 3 false (ints (xs (lwB ls t ⟨(stB ls t (M + 1) r).x, (stB ls t (M + 1) r).c, -1⟩ v).x (M + 1))) :: (nobj B (nl ls ls.length) O ++ (.row bf2 104 false ([.int .i64 (M : Int), .slice al ls.length cl, .slice (some ⟨bt3, 0, none⟩) ls.length ls.length, .slice (some ⟨bn4, 0, none⟩) (M + 1) (M + 1)]) :: (.row bn4 25 false (nsl B (nl ls ls.length) (M + 1)) :: (.row bt3 3 false (ints (xs t ls.length)) :: [])))))))))) /\ j = M + 1 - v /\ v <= M + 1) 1200 562949953421312 281474976710656 ?_ (j := _) (env2 := _) (A2 := _) ?_ ?_ ?_ ?_ ⟨0, [], rfl, rfl, rfl, rfl, Nat.zero_le _⟩
   rotate_left
   ·omega
   ·omega
   ·exact (lc 0 rfl (lc 4 rfl (lc 5 rfl (lc 7 rfl (lc 16 rfl (lc 17 rfl Less.nil))))))
   ·exact (.q (.q (.q (.q (.q (.r (.q (.q (.q .slnil)))))))))
   rintro n hn j _ _ _ ⟨v, qs, rfl, rfl, rfl, rfl, hv⟩
   have hnl9 := nl_le (ls := ls) ls.length v
   have hRv := (hRs.lw hLgs hOp.nn hv).1
   have hbv := rb_bd hRv hLgs hx0 hpot hlw (by omega)
   refine rS (kO rfl (a_lss rfl rfl (fun h16 => ?_) (fun h16 => ?_)))
   ·refine i_nil (rQ (r_cond_t rfl (r_skip (then_n (rQ (r_block (rS (kM rfl rfl (kO rfl (a_new rfl rfl (fun b17 => (kZ rfl (a_st rfl rfl .here rfl rfl (i_nil (rQ (rS (kO rfl (a_ld rfl (.next (.app (.next (.next .here)))) rfl (kO rfl (a_ld rfl .here rfl (kO rfl (a_ia (j := v) rfl rfl (by omega) (by omega) (kO rfl (a_ldX (x := ((lwB ls t ⟨(stB ls t (M + 1) r).x, (stB ls t (M + 1) r).c, -1⟩ v).x) (v)) rfl (.next (.app (.next (.next (.next (.next .here)))))) (by rw [xs_len]; omega) (xs_get (by omega)) (kO rfl (a_eql rfl rfl (fun h18 => ?_) (fun h18 => ?_)))))))))))))))))))))))))))
    ·exfalso; have := hbv v (by omega); omega
    ·refine i_nil (r_cond_f rfl (r_skip (then_n (rS (kM rfl rfl (kO rfl (a_ld rfl .here rfl (kG rfl rfl (a_inl rfl rfl bw117_at rfl ?_)))))))))
     unfold bw117
     refine rS (kO rfl (a_box rfl rfl rfl (fun b19 => (kO rfl (a_box rfl rfl rfl (fun b20 => (kM rfl rfl (i_nil (rS (kO rfl (a_fn rfl rfl (kM rfl rfl (i_nil (r_ret (endD1 rfl .nil (i_nil (r_block (r_rangeV rfl bw134_at rfl (fun q21 l22 LO23 BO24 hLO23 hBO24 => ?_)))))))))))))))))))
     unfold bw134
     refine rS (kO rfl (a_ld rfl (.next (.next (.next .here))) rfl (kO rfl (a_nilc rfl (kO rfl (a_fa rfl (kO rfl (a_ld rfl (.next (.next (.next (.next (.next (.app (.next (.next (.next (.next (.next (.app .here)))))))))))) rfl (kO rfl (a_ld rfl (.next (.next .here)) rfl (kO rfl (a_ia (j := v) rfl rfl (by omega) (by omega) (kO rfl (a_ld rfl (.next (.next (.next (.next (.next (.app (.next (.next (.next (.next (.next (.app (.next .here))))))))))))) (nsl_get (by omega)) (kO rfl (a_lenN rfl (kM rfl rfl (i_nil (r_block ?_)))))))))))))))))))
     refine r_loop (fun j e A => ∃ (q : Nat), e = [(0, .func (.yield l22) ⟨[]⟩ ⟨[]⟩), (1, .pointer (some ⟨b19, 0, none⟩)), (2, .pointer (some ⟨b20, 0, none⟩)), (14, nsv B (nl ls ls.length) v), (15, .int .i64 ((nl ls ls.length v).length : Int)), (16, .int .i64 (q : Int))] /\ A = (LO23 :: (.dfr q21 :: (.row b20 3 false ([.int .i64 (v : Int)]) :: (.row b19 59 false ([.pointer (some ⟨bf2, 0, none⟩)]) :: (.row b17 3 false ([.int .i64 (v : Int)]) :: (qs.map Ob.dfr ++ (.row b15 3 false ([.int .i64 (rwB ls t (lwB ls t ⟨(stB ls t (M + 1) r).x, (stB ls t (M + 1) r).c, -1⟩ v) v q).l]) :: (.row b14 113 false ([.slice (some ⟨b11, 0, none⟩) (M + 1) (M + 1)]) :: (.row b13 25 false ([.slice (some ⟨b10, 0, none⟩) (M + 1) (M + 1)]) :: (.row b11 134 false (cml (rwB ls t (lwB ls t ⟨(stB ls t (M + 1) r).x, (stB ls t (M + 1) r).c, -1⟩ v) v q).c (M + 1)) :: (.row b10 3 false (ints (xs (rwB ls t (lwB ls t ⟨(stB ls t (M + 1) r).x, (stB ls t (M + 1) r).c, -1⟩ v) v q).x (M + 1))) :: (nobj B (nl ls ls.length) O ++ (.row bf2 104 false ([.int .i64 (M : Int), .slice al ls.length cl, .slice (some ⟨bt3, 0, none⟩) ls.length ls.length, .slice (some ⟨bn4, 0, none⟩) (M + 1) (M + 1)]) :: (.row bn4 25 false (nsl B (nl ls ls.length) (M + 1)) :: (.row bt3 3 false (ints (xs t ls.length)) :: []))))))))))))))) /\ j = (nl ls ls.length v).length - q /\ q <= (nl ls ls.length v).length) 800 281474976710656 281474976710656 ?_ (j := _) (env2 := _) (A2 := _) ?_ ?_ ?_ ?_ ⟨0, rfl, rfl, rfl, Nat.zero_le _⟩
     rotate_left
     ·omega
     ·omega
     ·exact (lc 0 rfl (lc 1 rfl (lc 2 rfl (lc 14 rfl (lc 15 rfl (lc 16 rfl Less.nil))))))
     ·exact (.q (.q (.q (.q (.q (.r (.q (.q (.q (.q (.q (.r (.q (.q (.q .slnil)))))))))))))))
     rintro n hn j _ _ ⟨q, rfl, rfl, rfl, hq⟩
     have hRq := (hRv.rw hLgs hOp.nn (show v < M + 1 by omega) hq).1
     have hbq := rb_bd hRq hLgs hx0 hpot hlw (by omega)
     refine rS (kO rfl (a_lss rfl rfl (fun h25 => ?_) (fun h25 => ?_)))
     ·have hq9 : q < (nl ls ls.length v).length := by omega
      obtain ⟨li, hi0, hil, hnam⟩ := nl_mem hq9
      obtain ⟨q4, o4, y0, y1, y2, y3, ahL, hx, hat, i0, i1, i2, i3⟩ := hL.row4 (k := li) (by omega)
      have hat2 := hat
      obtain ⟨d0, d1, d2, d3, _⟩ := hat2
      have := i0.lo; have := i0.hi
      have := i1.lo; have := i1.hi
      have := i2.lo; have := i2.hi
      have := i3.lo; have := i3.hi
      have hc4 := lmB_at hlm hx
      have hnm := nam_of hnam hx
      obtain ⟨u0, rfl⟩ : ∃ q : Nat, y0 = (q : Int) := ⟨y0.toNat, by omega⟩
      obtain ⟨u1, rfl⟩ : ∃ q : Nat, y1 = (q : Int) := ⟨y1.toNat, by omega⟩
      obtain ⟨fl1, fl2, fl3⟩ := fld hx
      subst fl1 fl2 fl3
      obtain ⟨hg1, hg2, hg3, hg4, hg5, y9, hx9⟩ := hLgs li hil
      have := hbq _ hg1
      have := hbq _ hg2
      have := hbq v (by omega)
      refine i_nil (rQ (r_cond_t rfl (r_skip (then_n (rQ (r_block (rS (kO rfl (a_iaN (j := q) rfl rfl (by omega) (by omega) (kO rfl (a_ldX (x := (li : Int)) rfl (.next (.next (.next (.next (.next (.app (.next (.next (.next (.next (.next (own_nobj ((hO.2 _ (by omega)).2 (fun e => by rw [e] at hq9; exact absurd hq9 (Nat.not_lt_zero _))))))))))))))) (by omega) hi0 (kM rfl rfl (i_nil (rS (kO rfl (a_ld rfl (.next (.next (.next .here))) rfl (kO rfl (a_nilc rfl (kO rfl (a_fa rfl (kO rfl (a_fa rfl (kO rfl (a_ld rfl (.next (.next (.next (.next (.next (.app (.next (.next (.next (.next (.next (.app .here)))))))))))) rfl (kM rfl rfl (kO rfl (a_iaA (j := li) ahL rfl rfl (by first | rfl | omega) (by first | decide | omega) (kO rfl (a_ldar rfl (by decide) (by assumption) rfl (kO rfl (a_new rfl rfl (fun b26 => (kZ rfl (a_sta rfl rfl .here rfl rfl rfl rfl (i_nil ?_)))))))))))))))))))))))))))))))))))
      refine rS (kM rfl rfl (kO rfl (a_ld rfl (.next (.next (.next .here))) rfl (kO rfl (a_fa rfl (kO rfl (a_ld rfl .here rfl (kO rfl (a_fa rfl (kO rfl (a_ld rfl .here rfl (kO rfl (a_build rfl rfl (kO rfl (a_new rfl rfl (fun b27 => (kZ rfl (a_sta rfl rfl .here rfl rfl rfl rfl (i_nil (rQ (rS (kO rfl (a_fa rfl (kO rfl (a_ld rfl (.next .here) rfl (kO rfl (a_ld rfl (.next (.next (.next (.next .here)))) rfl (kO rfl (a_eql rfl rfl (fun h28 => ?_) (fun h28 => ?_))))))))))))))))))))))))))))))
      ·have hb9 : lb ls li = v := by omega
       refine i_nil (r_cond_t rfl (rI (kM rfl rfl (kO rfl (a_ld rfl (.next (.next (.next (.next .here)))) rfl (kO rfl (a_fa rfl (kO rfl (a_ld rfl (.next .here) rfl (kO rfl (a_fa rfl (kO rfl (a_ld rfl (.next .here) rfl (kO rfl (a_neg rfl (by omega) (kO rfl (a_build rfl rfl (kZ rfl (a_sta rfl rfl .here rfl rfl rfl rfl (i_nil (then_n (rQ (rS (kO rfl (a_fa rfl (kO rfl (a_ld rfl .here rfl (kM rfl rfl (kG rfl rfl (a_ld rfl (.next (.next (.next (.next (.next .here))))) rfl (kG rfl rfl (a_nilc rfl (kG rfl rfl (a_fa rfl (kG rfl rfl (a_ld rfl (.next (.next (.next (.next (.next (.next (.next (.app (.next (.next (.next (.next (.next (.app .here)))))))))))))) rfl (kG rfl rfl (a_mov rfl ?_))))))))))))))))))))))))))))))))))))))
       refine kG rfl rfl (a_ia (j := li) rfl rfl (by omega) (by omega) (kG rfl rfl (a_ldX (x := (t) (li)) rfl (.next (.next (.next (.next (.next (.next (.next (.app (.next (.next (.next (.next (.next (.app (.next (.next .here)))))))))))))))) (by rw [xs_len]; omega) (xs_get (by omega)) (kG rfl rfl (a_eql rfl rfl (fun h29 => ?_) (fun h29 => ?_))))))
       ·have hz9 : t li = 0 := h29
        refine kO rfl (a_pick_t rfl rfl rfl (i_nil (r_cond_t rfl (r_exit (then_e (block_hit (then_n (rI (kO rfl (a_add rfl rfl (by omega) (kM rfl rfl (i_nil (then_n ?_)))))))))))))
        exact ⟨rfl, _, _, _, (show (nl ls ls.length v).length - (q + 1) < (nl ls ls.length v).length - q by omega), (lc 0 rfl (lc 1 rfl (lc 2 rfl (lc 14 rfl (lc 15 rfl (lc 16 rfl Less.nil)))))), (.cons _ (.cons _ (.q (.q (.q (.q (.q (.r (.q (.q (.q (.q (.q (.r (.q (.q (.q .slnil))))))))))))))))), ⟨q + 1, rfl, (by first | (rw [rwb_skip hi0 hb9 hz9]; first | done | rfl) | (rw [rwb_back hi0 hb9 hz9, <- ub_yes hls9]; first | done | rfl) | (rw [rwb_back hi0 hb9 hz9, <- ub_no hls9]; first | done | rfl) | (rw [rwb_fwd hi0 hb9, <- ub_yes hls9]; first | done | rfl) | (rw [rwb_fwd hi0 hb9, <- ub_no hls9]; first | done | rfl)), rfl, by omega⟩⟩
       ·have hz9 : ¬ t li = 0 := h29
        refine kO rfl (a_pick_t rfl rfl rfl (i_nil (r_cond_f rfl (r_skip (then_n (rS (kM rfl rfl (kO rfl (a_lda rfl (by decide) .here rfl (kG rfl rfl (a_yieldV rfl rfl hLO23 hBO24 (by simp) rfl rfl (rI (kO rfl (a_new rfl rfl (fun b30 => (kZ rfl (a_sta rfl rfl .here rfl rfl rfl rfl (i_nil (⟨_, (.next (.next (.next .here))), (r_block (rS (kO rfl (a_ld rfl (.next (.next (.next (.next (.next (.next (.next (.next (.app (.next (.next .here))))))))))) rfl (kO rfl (a_ld rfl (.next (.next (.next (.next (.next (.next (.next .here))))))) rfl (kO rfl (a_ia (j := v) rfl rfl (by omega) (by omega) (kO rfl (a_ldX (x := ((rwB ls t (lwB ls t ⟨(stB ls t (M + 1) r).x, (stB ls t (M + 1) r).c, -1⟩ v) v q).x) (v)) rfl (.next (.next (.next (.next (.next (.next (.next (.next (.app (.next (.next (.next (.next .here))))))))))))) (by rw [xs_len]; omega) (xs_get (by omega)) (kO rfl (a_fa rfl (kO rfl (a_ld rfl .here rfl ?_))))))))))))))⟩)))))))))))))))))))
        have := hbq v (by omega)
        refine kO rfl (a_add rfl rfl (by omega) (kM rfl rfl (i_nil (rS (kM rfl rfl (kO rfl (a_ld rfl (.next (.next (.next (.next (.next (.next (.next (.next (.app (.next (.next .here))))))))))) rfl (kO rfl (a_fa rfl (kO rfl (a_ld rfl .here rfl (kO rfl (a_ia (j := (la ls li)) rfl rfl (by omega) (by omega) (kO rfl (a_ldX (x := ((rwB ls t (lwB ls t ⟨(stB ls t (M + 1) r).x, (stB ls t (M + 1) r).c, -1⟩ v) v q).x) ((la ls li))) rfl (.next (.next (.next (.next (.next (.next (.next (.next (.app (.next (.next (.next (.next .here))))))))))))) (by rw [xs_len]; omega) (xs_get (by omega)) (kO rfl (a_lss rfl rfl (fun h31 => ?_) (fun h31 => ?_))))))))))))))))))
        ·have hls9 := h31
         refine i_nil (r_cond_t rfl (rI (kO rfl (a_ld rfl (.next (.next (.next (.next (.next (.next (.next (.next (.app (.next (.next .here))))))))))) rfl (kO rfl (a_fa rfl (kO rfl (a_ld rfl .here rfl (kO rfl (a_ld rfl (.next (.next (.next (.next (.next (.next (.next (.next (.app (.next .here)))))))))) rfl (kO rfl (a_fa rfl (kO rfl (a_ld rfl .here rfl (kM rfl rfl (kO rfl (a_lda rfl (by decide) .here rfl (kO rfl (a_fa rfl (kO rfl (a_ld rfl .here rfl (kO rfl (a_ia (j := (la ls li)) rfl rfl (by omega) (by omega) (kZ rfl (a_stI rfl rfl (by rw [xs_set]; exact (.next (.next (.next (.next (.next (.next (.next (.next (.app (.next (.next (.next (.next .here)))))))))))))) (by rw [xs_len]; omega) (kZ rfl (a_again rfl rfl .here rfl (by simp [eqV, eqA, eqL, kindEq, intEq_eq, eqV_sl hL.spot, eqV_sl hW.spot]) (kZ rfl (a_againa rfl rfl (by decide) .here rfl (by simp [eqL, eqV, eqA, kindEq, intEq_eq, eqV_sl hL.spot, eqV_sl hW.spot]) (kZ rfl (a_again rfl rfl .here rfl (by simp [eqV, eqA, eqL, kindEq, intEq_eq, eqV_sl hL.spot, eqV_sl hW.spot]) (kZ rfl (a_again rfl rfl (.next (.next (.next (.next (.next (.next (.next (.next (.app (.next .here)))))))))) rfl (by simp [eqV, eqA, eqL, kindEq, intEq_eq, eqV_sl hL.spot, eqV_sl hW.spot]) (kO rfl (a_ia (j := (la ls li)) rfl rfl (by first | decide | omega) (by omega) (kZ rfl (a_sta rfl rfl (.next (.next (.next (.next (.next (.next (.next (.next (.app (.next (.next (.next .here)))))))))))) (cml_over (c := ⟨_, _, _, _, _⟩) (by omega)) (by rw [Nat.ble_eq, cml_len]; omega) rfl rfl (kZ rfl (a_again rfl rfl .here rfl (by simp [eqV, eqA, eqL, kindEq, intEq_eq, eqV_sl hL.spot, eqV_sl hW.spot]) (kZ rfl (a_st rfl rfl (.next (.next (.next (.next (.next (.next (.next (.next (.app .here))))))))) rfl rfl (i_nil ?_))))))))))))))))))))))))))))))))))))))))))
         refine block_n (⟨_, (.next (.next (.next .here))), (kO rfl (a_not rfl (i_nil (r_cond_f rfl (r_skip (block_n (then_n (rI (kO rfl (a_add rfl rfl (by omega) (kM rfl rfl (i_nil (then_n ?_)))))))))))))⟩)
         exact ⟨rfl, _, _, _, (show (nl ls ls.length v).length - (q + 1) < (nl ls ls.length v).length - q by omega), (lc 0 rfl (lc 1 rfl (lc 2 rfl (lc 14 rfl (lc 15 rfl (lc 16 rfl Less.nil)))))), (.cons _ (.cons _ (.cons _ (.q (.q (.q (.q (.q (.r (.q (.q (.q (.q (.q (.r (.q (.q (.q .slnil)))))))))))))))))), ⟨q + 1, rfl, (by first | (rw [rwb_skip hi0 hb9 hz9]; first | done | rfl) | (rw [rwb_back hi0 hb9 hz9, <- ub_yes hls9]; first | done | rfl) | (rw [rwb_back hi0 hb9 hz9, <- ub_no hls9]; first | done | rfl) | (rw [rwb_fwd hi0 hb9, <- ub_yes hls9]; first | done | rfl) | (rw [rwb_fwd hi0 hb9, <- ub_no hls9]; first | done | rfl)), rfl, by omega⟩⟩
        ·have hls9 := h31
         refine i_nil (r_cond_f rfl (r_skip (block_n (⟨_, (.next (.next (.next .here))), (kO rfl (a_not rfl (i_nil (r_cond_f rfl (r_skip (block_n (then_n (rI (kO rfl (a_add rfl rfl (by omega) (kM rfl rfl (i_nil (then_n ?_)))))))))))))⟩))))
         exact ⟨rfl, _, _, _, (show (nl ls ls.length v).length - (q + 1) < (nl ls ls.length v).length - q by omega), (lc 0 rfl (lc 1 rfl (lc 2 rfl (lc 14 rfl (lc 15 rfl (lc 16 rfl Less.nil)))))), (.cons _ (.cons _ (.cons _ (.q (.q (.q (.q (.q (.r (.q (.q (.q (.q (.q (.r (.q (.q (.q .slnil)))))))))))))))))), ⟨q + 1, rfl, (by first | (rw [rwb_skip hi0 hb9 hz9]; first | done | rfl) | (rw [rwb_back hi0 hb9 hz9, <- ub_yes hls9]; first | done | rfl) | (rw [rwb_back hi0 hb9 hz9, <- ub_no hls9]; first | done | rfl) | (rw [rwb_fwd hi0 hb9, <- ub_yes hls9]; first | done | rfl) | (rw [rwb_fwd hi0 hb9, <- ub_no hls9]; first | done | rfl)), rfl, by omega⟩⟩
      ·have hb9 : ¬ lb ls li = v := by omega
       refine i_nil (r_cond_f rfl (r_skip (then_n (rQ (rS (kO rfl (a_fa rfl (kO rfl (a_ld rfl .here rfl (kM rfl rfl (i_no rfl rfl (i_no rfl rfl (i_no rfl rfl (i_no rfl rfl (i_no rfl rfl (i_no rfl rfl (i_no rfl rfl (i_no rfl rfl (kO rfl (a_pick_f rfl rfl rfl (i_nil (r_cond_f rfl (r_skip (then_n (rS (kM rfl rfl ?_))))))))))))))))))))))))))
       refine kO rfl (a_lda rfl (by decide) .here rfl (kG rfl rfl (a_yieldV rfl rfl hLO23 hBO24 (by simp) rfl rfl (rI (kO rfl (a_new rfl rfl (fun b32 => (kZ rfl (a_sta rfl rfl .here rfl rfl rfl rfl (i_nil (⟨_, (.next (.next (.next .here))), (r_block (rS (kO rfl (a_ld rfl (.next (.next (.next (.next (.next (.next (.next (.next (.app (.next (.next .here))))))))))) rfl (kO rfl (a_ld rfl (.next (.next (.next (.next (.next (.next (.next .here))))))) rfl (kO rfl (a_ia (j := v) rfl rfl (by omega) (by omega) (kO rfl (a_ldX (x := ((rwB ls t (lwB ls t ⟨(stB ls t (M + 1) r).x, (stB ls t (M + 1) r).c, -1⟩ v) v q).x) (v)) rfl (.next (.next (.next (.next (.next (.next (.next (.next (.app (.next (.next (.next (.next .here))))))))))))) (by rw [xs_len]; omega) (xs_get (by omega)) (kO rfl (a_fa rfl (kO rfl (a_ld rfl .here rfl ?_))))))))))))))⟩)))))))))))
       have := hbq v (by omega)
       refine kO rfl (a_add rfl rfl (by omega) (kM rfl rfl (i_nil (rS (kM rfl rfl (kO rfl (a_ld rfl (.next (.next (.next (.next (.next (.next (.next (.next (.app (.next (.next .here))))))))))) rfl (kO rfl (a_fa rfl (kO rfl (a_ld rfl .here rfl (kO rfl (a_ia (j := (lb ls li)) rfl rfl (by omega) (by omega) (kO rfl (a_ldX (x := ((rwB ls t (lwB ls t ⟨(stB ls t (M + 1) r).x, (stB ls t (M + 1) r).c, -1⟩ v) v q).x) ((lb ls li))) rfl (.next (.next (.next (.next (.next (.next (.next (.next (.app (.next (.next (.next (.next .here))))))))))))) (by rw [xs_len]; omega) (xs_get (by omega)) (kO rfl (a_lss rfl rfl (fun h33 => ?_) (fun h33 => ?_))))))))))))))))))
       ·have hls9 := h33
        refine i_nil (r_cond_t rfl (rI (kO rfl (a_ld rfl (.next (.next (.next (.next (.next (.next (.next (.next (.app (.next (.next .here))))))))))) rfl (kO rfl (a_fa rfl (kO rfl (a_ld rfl .here rfl (kO rfl (a_ld rfl (.next (.next (.next (.next (.next (.next (.next (.next (.app (.next .here)))))))))) rfl (kO rfl (a_fa rfl (kO rfl (a_ld rfl .here rfl (kM rfl rfl (kO rfl (a_lda rfl (by decide) .here rfl (kO rfl (a_fa rfl (kO rfl (a_ld rfl .here rfl (kO rfl (a_ia (j := (lb ls li)) rfl rfl (by omega) (by omega) (kZ rfl (a_stI rfl rfl (by rw [xs_set]; exact (.next (.next (.next (.next (.next (.next (.next (.next (.app (.next (.next (.next (.next .here)))))))))))))) (by rw [xs_len]; omega) (kZ rfl (a_again rfl rfl .here rfl (by simp [eqV, eqA, eqL, kindEq, intEq_eq, eqV_sl hL.spot, eqV_sl hW.spot]) (kZ rfl (a_againa rfl rfl (by decide) .here rfl (by simp [eqL, eqV, eqA, kindEq, intEq_eq, eqV_sl hL.spot, eqV_sl hW.spot]) (kZ rfl (a_again rfl rfl .here rfl (by simp [eqV, eqA, eqL, kindEq, intEq_eq, eqV_sl hL.spot, eqV_sl hW.spot]) (kZ rfl (a_again rfl rfl (.next (.next (.next (.next (.next (.next (.next (.next (.app (.next .here)))))))))) rfl (by simp [eqV, eqA, eqL, kindEq, intEq_eq, eqV_sl hL.spot, eqV_sl hW.spot]) (kO rfl (a_ia (j := (lb ls li)) rfl rfl (by first | decide | omega) (by omega) (kZ rfl (a_sta rfl rfl (.next (.next (.next (.next (.next (.next (.next (.next (.app (.next (.next (.next .here)))))))))))) (cml_over (c := ⟨_, _, _, _, _⟩) (by omega)) (by rw [Nat.ble_eq, cml_len]; omega) rfl rfl (kZ rfl (a_again rfl rfl .here rfl (by simp [eqV, eqA, eqL, kindEq, intEq_eq, eqV_sl hL.spot, eqV_sl hW.spot]) (kZ rfl (a_st rfl rfl (.next (.next (.next (.next (.next (.next (.next (.next (.app .here))))))))) rfl rfl (i_nil ?_))))))))))))))))))))))))))))))))))))))))))
        refine block_n (⟨_, (.next (.next (.next .here))), (kO rfl (a_not rfl (i_nil (r_cond_f rfl (r_skip (block_n (then_n (rI (kO rfl (a_add rfl rfl (by omega) (kM rfl rfl (i_nil (then_n ?_)))))))))))))⟩)
        exact ⟨rfl, _, _, _, (show (nl ls ls.length v).length - (q + 1) < (nl ls ls.length v).length - q by omega), (lc 0 rfl (lc 1 rfl (lc 2 rfl (lc 14 rfl (lc 15 rfl (lc 16 rfl Less.nil)))))), (.cons _ (.cons _ (.cons _ (.q (.q (.q (.q (.q (.r (.q (.q (.q (.q (.q (.r (.q (.q (.q .slnil)))))))))))))))))), ⟨q + 1, rfl, (by first | (rw [rwb_skip hi0 hb9 hz9]; first | done | rfl) | (rw [rwb_back hi0 hb9 hz9, <- ub_yes hls9]; first | done | rfl) | (rw [rwb_back hi0 hb9 hz9, <- ub_no hls9]; first | done | rfl) | (rw [rwb_fwd hi0 hb9, <- ub_yes hls9]; first | done | rfl) | (rw [rwb_fwd hi0 hb9, <- ub_no hls9]; first | done | rfl)), rfl, by omega⟩⟩
       ·have hls9 := h33
        refine i_nil (r_cond_f rfl (r_skip (block_n (⟨_, (.next (.next (.next .here))), (kO rfl (a_not rfl (i_nil (r_cond_f rfl (r_skip (block_n (then_n (rI (kO rfl (a_add rfl rfl (by omega) (kM rfl rfl (i_nil (then_n ?_)))))))))))))⟩))))
        exact ⟨rfl, _, _, _, (show (nl ls ls.length v).length - (q + 1) < (nl ls ls.length v).length - q by omega), (lc 0 rfl (lc 1 rfl (lc 2 rfl (lc 14 rfl (lc 15 rfl (lc 16 rfl Less.nil)))))), (.cons _ (.cons _ (.cons _ (.q (.q (.q (.q (.q (.r (.q (.q (.q (.q (.q (.r (.q (.q (.q .slnil)))))))))))))))))), ⟨q + 1, rfl, (by first | (rw [rwb_skip hi0 hb9 hz9]; first | done | rfl) | (rw [rwb_back hi0 hb9 hz9, <- ub_yes hls9]; first | done | rfl) | (rw [rwb_back hi0 hb9 hz9, <- ub_no hls9]; first | done | rfl) | (rw [rwb_fwd hi0 hb9, <- ub_yes hls9]; first | done | rfl) | (rw [rwb_fwd hi0 hb9, <- ub_no hls9]; first | done | rfl)), rfl, by omega⟩⟩
     ·have hql : q = (nl ls ls.length v).length := by omega
      subst hql
      refine i_nil (rQ (r_cond_f rfl (r_exit (then_e (then_e (block_hit (endD0n .nil (.inl ⟨_, .here, (block_n (block_n (then_n (rI (kO rfl (a_add rfl rfl (by omega) (kM rfl rfl (i_nil (then_n ?_)))))))))⟩))))))))
      exact ⟨_, _, _, (show M + 1 - (v + 1) < M + 1 - v by omega), (lc 0 rfl (lc 4 rfl (lc 5 rfl (lc 7 rfl (lc 16 rfl (lc 17 rfl Less.nil)))))), (.q (.cons _ (.cons _ (.cons _ (.r (.q (.q (.q (.q (.q (.r (.q (.q (.q .slnil)))))))))))))), ⟨v + 1, q21 :: qs, rfl, rfl, rfl, rfl, by omega⟩⟩
   ·have hvN : v = M + 1 := by omega
    subst hvN
    refine i_nil (rQ (r_cond_f rfl (r_exit (then_e (then_e (block_hit (then_n (rS (kO rfl (a_ld rfl (.app .here) rfl (kM rfl rfl (i_nil (r_ret (endD1 rfl deld_map (kM rfl rfl (i_nil (rS (kM rfl rfl (kO rfl (a_eql rfl rfl (fun h34 => ?_) (fun h34 => ?_)))))))))))))))))))))
    ·refine i_nil (r_cond_t rfl (rS (kM rfl rfl (kM rfl rfl (kO rfl (a_ia (j := 0) rfl rfl (by omega) (by omega) (kO rfl (a_ldX (x := ((stB ls t (M + 1) (r + 1)).x) (0)) rfl (.next (.next (.next (.next .here)))) (by rw [xs_len]; omega) (xs_get (by omega)) ?_))))))))
     have hbr := rb_bd (st_rnd hLgs hOp.nn (r := r)).1 hLgs hx0 hpot hlw (by omega)
     have hb0 := hbr 0 (by omega)
     refine kO rfl (a_neg rfl (by omega) (kO rfl (a_call rfl rfl (fun s1 h1 => moved_n _ _ _ _ (xs (stB ls t (M + 1) (r + 1)).x (M + 1)) _ s1 h1.wf (by omega) xs_len.symm (IntsE.own (h1.own (.next (.next (.next (.next .here))))) (fun z hz => by obtain ⟨k, hk, rfl⟩ := List.mem_map.1 hz; have := hbr k (List.mem_range.1 hk); omega) (by rw [xs_len]; omega)) (by omega) (fun i hi => by rw [xs_len] at hi; rw [xs_get hi]; have := hbr i hi; omega) (by rw [xs_len]; omega)) (fun v1 A1 q1 => ?_))))
     obtain ⟨bm35, wm, rfl, rfl, hmv⟩ := q1
     rw [List.singleton_append]
     have hbf := best_fin (k := 0) hLgs hOp hbr (by assumption) hmv
     refine kM rfl rfl (kM rfl rfl (i_nil (r_ret (block_r (then_r (then_r (block_r (then_r (endD2 rfl rfl .nil (kM rfl rfl (kO rfl (a_ext rfl rfl (kO rfl (a_ext rfl rfl (kM rfl rfl (kM rfl rfl (i_nil (rS (kM rfl rfl (kM rfl rfl (i_nil (r_ret (endD1 rfl .nil (kM rfl rfl (kM rfl rfl ?_)))))))))))))))))))))))))
     refine i_nil (r_ret ?_)
     exact end2A rfl rfl (.q (.cons _ (.cons _ (.cons _ (.cons _ (.cons _ (List.sublist_append_of_sublist_right (.cons _ (.cons _ (.cons _ .slnil)))))))))) (.inr (.inr (.inr (.inr ⟨hsys, hww, hnu, t, _, wm, hbf.2.2.1, hts, hbf.1, hbf.2.1, hbf.2.2.2, rfl, rfl⟩))))
    ·refine i_nil (r_cond_f rfl (r_skip (block_n (then_n (rI (kO rfl (a_add rfl rfl (by omega) (kM rfl rfl (i_nil (then_n ?_))))))))))
     exact ⟨rfl, _, _, _, (show M + 1 - (r + 1) < M + 1 - r by omega), (lc 0 rfl (lc 4 rfl (lc 5 rfl (lc 6 rfl (lc 26 rfl (lc 27 rfl Less.nil)))))), (.cons _ (.cons _ (.cons _ (.q (.q (.r (.q (.q (.q .slnil))))))))), ⟨r + 1, rfl, rfl, rfl, by omega, (fun k hk => by by_cases e : k = r; exact e ▸ (by assumption); exact hne k (by omega))⟩⟩
  ·exact absurd (stb_end hLgs hOp.nn hOp.st hOp.ti) (hne M (by omega))
end
end Ev
end Go.Proofs.YtoeklhdklcpllaaGreat
namespace Go.Proofs.YtoeklhdklcpllaaGreat
open Go Go.RowKit
namespace Ev
theorem wok_at {w : List Int} (h : WOk w w.length) {i : Nat} (hi : i < w.length) : -3600000000000 <= w.getD i 0 /\ w.getD i 0 <= 3600000000000 := by
 have h1 := h i hi
 have h2 := szs_pos (w := w) (k := i)
 have h3 : szs w i + max (w.getD i 0) (-(w.getD i 0)) <= 3600000000000 := h1
 omega
section
variable {X : FuncId -> List Value -> St -> (Value -> St -> Bool) -> Bool}
end
end Ev
end Go.Proofs.YtoeklhdklcpllaaGreat
namespace Go.Proofs.YtoeklhdklcpllaaGreat
open Go Go.RowKit
namespace Ev
theorem RowsE.row2 {s : St} {a : Option Addr} {rs : List (List Int)} (h : RowsE s 2 a rs) {k : Nat} (hk : k < rs.length) : ∃ b o z0 z1, a = some ⟨b, o, none⟩ /\ rs[k]? = some [z0, z1] /\ Ats s b (o + k * 2) [.int .i64 z0, .int .i64 z1] /\ I64 z0 /\ I64 z1 := by
 obtain ⟨b, o, r, h1, h2, h3, h4, h5⟩ := h.row hk
 obtain ⟨z0, r1, rfl, g1⟩ := list_len_succ h3
 obtain ⟨z1, r2, rfl, g2⟩ := list_len_succ g1
 have : r2 = [] := List.eq_nil_of_length_eq_zero g2
 subst this
 exact ⟨b, o, z0, z1, h1, h2, h4, h5 z0 (by simp), h5 z1 (by simp)⟩
def pf (us : List (List Int)) (k : Nat) : Nat := ((us.getD k []).getD 0 0).toNat
def pn (us : List (List Int)) (k : Nat) : Int := (us.getD k []).getD 1 0
def bef (us : List (List Int)) : Nat -> Int
 | 0 => -1
 | k + 1 => (us.getD k []).getD 0 0
def umis (ls us : List (List Int)) (m : Nat -> Int) : Nat -> Nat -> Int
 | 0 => m
 | k + 1 => updX (updX (umis ls us m k) (lb ls (pf us k)) (umis ls us m k (lb ls (pf us k)) - pn us k)) (la ls (pf us k)) (updX (umis ls us m k) (lb ls (pf us k)) (umis ls us m k (lb ls (pf us k)) - pn us k) (la ls (pf us k)) + pn us k)
def uz (ls us : List (List Int)) (j : Nat) : Int := lw ls (pf us j)
def UkP (ls us : List (List Int)) (k : Nat) : Prop := ∀ j, j < k -> (bef us j + 1 <= (us.getD j []).getD 0 0 /\ (us.getD j []).getD 0 0 <= (ls.length : Int) - 1) /\ (1 <= pn us j /\ pn us j <= 3600000000000) /\ tot (pn us) (j + 1) <= 230400000000000
def AdP (ls us : List (List Int)) (w : List Int) (M : Nat) (bd : Int) : Prop := UkP ls us us.length /\ tot (fun j => pn us j * uz ls us j) us.length = bd /\ ∀ v, 1 <= v -> v < M + 1 -> umis ls us (fun v => w.getD v 0) us.length v = 0
theorem UkP.bef {ls us : List (List Int)} : ∀ {k : Nat}, UkP ls us k -> -1 <= Ev.bef us k /\ Ev.bef us k <= max (-1) ((ls.length : Int) - 1)
 | 0, _ => ⟨Int.le_refl _, by show (-1 : Int) <= _; omega⟩
 | k + 1, h => by
  have h1 := UkP.bef (k := k) (fun j hj => h j (by omega))
  have h2 := (h k (by omega)).1
  show -1 <= (us.getD k []).getD 0 0 /\ (us.getD k []).getD 0 0 <= _
  omega
theorem UkP.nn {ls us : List (List Int)} {k : Nat} (h : UkP ls us k) : ∀ j, j < k -> 0 <= pn us j := fun j hj => by have := (h j hj).2.1; omega
theorem UkP.tot {ls us : List (List Int)} : ∀ {k : Nat}, UkP ls us k -> 0 <= Ev.tot (pn us) k /\ Ev.tot (pn us) k <= 230400000000000
 | 0, _ => ⟨Int.le_refl _, by show (0 : Int) <= _; decide⟩
 | k + 1, h => ⟨tot_nn h.nn, (h k (by omega)).2.2⟩
theorem UkP.put {ls us : List (List Int)} {k : Nat} (h : UkP ls us k) (h1 : Ev.bef us k + 1 <= (us.getD k []).getD 0 0 /\ (us.getD k []).getD 0 0 <= (ls.length : Int) - 1) (h2 : 1 <= pn us k /\ pn us k <= 3600000000000) (h3 : Ev.tot (pn us) (k + 1) <= 230400000000000) : UkP ls us (k + 1) := fun j hj => by
 by_cases e : j = k
 ·subst e; exact ⟨h1, h2, h3⟩
 ·exact h j (by omega)
theorem um_bd {ls us : List (List Int)} {m : Nat -> Int} {N : Nat} (hm : ∀ v, v < N -> -3600000000000 <= m v /\ m v <= 3600000000000) : ∀ {k : Nat}, UkP ls us k -> ∀ v, v < N -> -3600000000000 - 2 * Ev.tot (pn us) k <= umis ls us m k v /\ umis ls us m k v <= 3600000000000 + 2 * Ev.tot (pn us) k
 | 0, _, v, hv => by have := hm v hv; show -3600000000000 - 2 * (0 : Int) <= m v /\ m v <= 3600000000000 + 2 * 0; omega
 | k + 1, h, v, hv => by
  have ih := um_bd hm (k := k) (fun j hj => h j (by omega))
  have h2 := (h k (by omega)).2.1
  have a0 := ih v hv
  show -3600000000000 - 2 * (Ev.tot (pn us) k + pn us k) <= updX _ _ _ v /\ updX _ _ _ v <= 3600000000000 + 2 * (Ev.tot (pn us) k + pn us k)
  by_cases e1 : v = la ls (pf us k)
  ·rw [e1] at a0
   rw [e1, updX_eq]
   by_cases e2 : la ls (pf us k) = lb ls (pf us k)
   ·rw [e2] at a0
    rw [e2, updX_eq]; omega
   ·rw [updX_ne e2]; omega
  ·rw [updX_ne e1]
   by_cases e2 : v = lb ls (pf us k)
   ·rw [e2] at a0
    rw [e2, updX_eq]; omega
   ·rw [updX_ne e2]; omega
theorem us_bd {ls us : List (List Int)} {M : Nat} (hl : lmB (M : Int) ls = true) : ∀ {k : Nat}, UkP ls us k -> -(20000 * Ev.tot (pn us) k) <= Ev.tot (fun j => pn us j * uz ls us j) k /\ Ev.tot (fun j => pn us j * uz ls us j) k <= 20000 * Ev.tot (pn us) k
 | k, h => sum_bd (t := pn us) (z := uz ls us) (K := k) (Nat.le_refl k) h.nn (fun j hj => by
  have h1 := (h j hj).1
  have h2 := (UkP.bef (k := j) (fun i hi => h i (by omega))).1
  exact lw_bd' hl (show pf us j < ls.length by unfold pf; omega))
theorem u_row {us : List (List Int)} {k : Nat} {z0 z1 : Int} (h : us[k]? = some [z0, z1]) : (us.getD k []).getD 0 0 = z0 /\ pn us k = z1 := by
 have e : us.getD k [] = [z0, z1] := by rw [List.getD_eq_getElem?_getD, h]; rfl
 unfold pn
 rw [e]; exact ⟨rfl, rfl⟩
theorem u_pf {us : List (List Int)} {k li : Nat} {z1 : Int} (h : us[k]? = some [(li : Int), z1]) : pf us k = li := by
 unfold pf
 rw [(u_row h).1]; exact Int.toNat_natCast li
theorem in_of {l : List Int} (h : ∀ k, k < l.length -> l.getD k 0 = 0) : inB (-0) 0 l = true := by
 unfold inB
 rw [List.all_eq_true]
 intro x hx
 obtain ⟨j, hj, e⟩ := List.mem_iff_getElem.1 hx
 have := h j hj
 rw [List.getD_eq_getElem?_getD, List.getElem?_eq_getElem hj, e] at this
 have this : x = 0 := this
 subst this; decide
theorem ad_of {ls us : List (List Int)} {w : List Int} {M : Nat} {bd : Int} (h : UkP ls us us.length) (hs : Ev.tot (fun j => pn us j * uz ls us j) us.length = bd) (hi : inB (-0) 0 ((xs (umis ls us (fun v => w.getD v 0) us.length) (M + 1)).drop 1) = true) : AdP ls us w M bd := ⟨h, hs, fun v h1 h2 => by
 have := in_all hi (k := v - 1) (by rw [List.length_drop, xs_len]; omega)
 rw [drop_get, show v - 1 + 1 = v by omega, xs_get h2] at this
 omega⟩
theorem ad_no {ls us : List (List Int)} {w : List Int} {M : Nat} {bd : Int} (hi : ¬ inB (-0) 0 ((xs (umis ls us (fun v => w.getD v 0) us.length) (M + 1)).drop 1) = true) : ¬ AdP ls us w M bd := fun q => hi (in_of (fun k hk => by
 rw [List.length_drop, xs_len] at hk
 rw [drop_get, xs_get (by omega)]
 exact q.2.2 (k + 1) (by omega) (by omega)))
theorem a_slcP {P : Program} {C : Nat -> (CF -> Bool) -> Bool} {X : FuncId -> List Value -> St -> (Value -> St -> Bool) -> Bool} {s0 : St} {n nt : Nat} {env : List (Nat × Value)} {A : List Ob} {R : Value -> List Ob -> Prop} {x lo : Ev.X} {b m : Nat} {l : List Value} (hx : xv env x = some (.slice (some ⟨b, 0, none⟩) m OPEN)) (hlo : xv env lo = some (.int .i64 1)) (ho : Own A b 3 true l) (hm : m <= l.length) (h0 : 0 < m)
 (hR : R (.slice (some ⟨b, 0 + 1 * 1, none⟩) (m - 1) (OPEN + (0 + 1))) A) : OpA P C X s0 n nt (.slc 3 1 x (some lo) none none) env A R := .mk fun s hs T hT k hk => by
 refine valE_of hT (k := fun x => valOK T (some lo) (fun lo => valOK T none (fun hi => valOK T none (fun mx => slcK s 3 1 x lo hi mx (vK s k))))) hx ?_
 refine valE_of hT (k := fun v => slcK s 3 1 _ (some v) none none (vK s k)) hlo ?_
 unfold slcK
 obtain ⟨c, h3, _⟩ := hs.own ho
 have hrow : rowOf s b = some (l.length, 3, true) := by
  unfold rowOf
  rw [h3]
 have key : evSlc (rowOf s) 3 1 (.slice (some ⟨b, 0, none⟩) m OPEN) (some (.int .i64 1)) none none = some (.slice (some ⟨b, 0 + 1 * 1, none⟩) (m - 1) (OPEN + (0 + 1))) := slc_opd (l := 1) hrow hm (by omega) h0
 rw [key]
 show forceV (Value.slice (some ⟨b, 0 + 1 * 1, none⟩) (m - 1) (OPEN + (0 + 1))) (vK s k) = true
 rw [forceV_eq]
 exact hk _ _ ⟨A, hs, hR⟩
section
variable {X : FuncId -> List Value -> St -> (Value -> St -> Bool) -> Bool}
theorem allInside_n (n : Nat) (ax : Option Addr) (cx nx : Nat) (x : List Int) (most : Int) (s : St) (hs : Wf s) (hn : 281474976710656 <= n) (hnx : nx = x.length) (hX : IntsE s ax x) (hmo : 0 <= most /\ most <= 1000000000000) : Spec Tryz.prog (tabK tabw) X (n + 300) 77 [.slice ax nx cx, .int .i64 most] s (fun v A => v = .bool (inB (-most) most x) /\ A = []) := by
 subst hnx
 exact allInside_s n ax cx x most s hs hn hX hmo
theorem addsUp_s (n : Nat) (M : Nat) (al : Option Addr) (cl : Nat) (ls : List (List Int)) (aw : Option Addr) (cw : Nat) (w : List Int) (ap : Option Addr) (cp : Nat) (us : List (List Int)) (bd : Int) (s : St) (hs : Wf s) (hn : 1125899906842624 <= n) (hL : RowsE s 4 al ls) (hW : IntsE s aw w) (hU : RowsE s 2 ap us) (hu : us.length <= 400) (hM : M <= 64) (hlm : lmB (M : Int) ls = true) (h400 : ls.length <= 400) (hwl : w.length = M + 1) (hwo : WOk w w.length) : Spec Tryz.prog (tabK tabw) X (n + 1500) 75 [.agg ⟨[.int .i64 (M : Int), .slice al ls.length cl]⟩, .slice aw w.length cw, .agg ⟨[.int .i64 bd, .slice ap us.length cp]⟩] s (fun v A => ((AdP ls us w M bd /\ v = .bool true) ∨ (¬ AdP ls us w M bd /\ v = .bool false)) /\ A = []) := by
 refine enter bw75_at rfl hs ?_
 unfold bw75
 have hlen := hL.len
 have hlenW := hW.len
 have hwb : ∀ v, v < M + 1 -> -3600000000000 <= w.getD v 0 /\ w.getD v 0 <= 3600000000000 := fun v hv => wok_at hwo (by omega)
 refine rS (kO rfl (a_box rfl rfl rfl (fun b1 => (kO rfl (a_box rfl rfl rfl (fun b2 => (kM rfl rfl (i_nil (rS (kM rfl rfl (kO rfl (a_call rfl rfl (fun s1 h1 => CloneI_s _ aw cw w s1 h1.wf (hW.ext hs h1.2.1) (fun e => by rw [e] at hwl; cases hwl) (by omega)) (fun v1 A1 q1 => ?_)))))))))))))
 obtain ⟨bd3, rfl, rfl⟩ := q1
 rw [congrArg ints (xs_of hwl), List.singleton_append]
 refine kM rfl rfl (i_nil (rS (kM rfl rfl (kM rfl rfl (kM rfl rfl (i_nil (rQ (rS (kO rfl (a_fa rfl (kO rfl (a_ld rfl (.next .here) rfl (kO rfl (a_lenx rfl (by first | exact hL.spot | exact hU.spot | exact hW.spot) (kM rfl rfl (i_nil (r_block (r_loop (fun j e A => ∃ (k : Nat), e = [(3, .pointer (some ⟨b1, 0, none⟩)), (5, .pointer (some ⟨b2, 0, none⟩)), (7, .slice (some ⟨bd3, 0, none⟩) w.length OPEN), (8, .int .i64 (bef us k)), (9, .int .i64 (tot (pn us) k)), (10, .int .i64 (tot (fun j => pn us j * uz ls us j) k)), (17, .slice ap us.length cp), (18, .int .i64 (us.length : Int)), (19, .int .i64 (k : Int))] /\ A = (.row bd3 3 true (ints (xs (umis ls us (fun v => w.getD v 0) k) (M + 1))) :: (.row b2 35 false ([.int .i64 bd, .slice ap us.length cp]) :: (.row b1 24 false ([.int .i64 (M : Int), .slice al ls.length cl]) :: []))) /\ j = us.length - k /\ k <= us.length /\ UkP ls us k) 400 281474976710656 281474976710656 ?_ (j := _) (env2 := _) (A2 := _) ?_ ?_ ?_ ?_ ⟨0, rfl, rfl, rfl, Nat.zero_le _, (fun j hj => absurd hj (Nat.not_lt_zero j))⟩))))))))))))))))))
 rotate_left
 ·omega
 ·omega
 ·exact (lc 3 rfl (lc 5 rfl (lc 7 rfl (lc 8 rfl (lc 9 rfl (lc 10 rfl (lc 17 rfl (lc 18 rfl (lc 19 rfl Less.nil)))))))))
 ·exact (.q (.q (.q .slnil)))
 rintro n hn j _ _ ⟨k, rfl, rfl, rfl, hk, hUk⟩
 have hbe := hUk.bef
 have hto := hUk.tot
 have hub := um_bd hwb hUk
 have hus := us_bd hlm hUk
 refine rS (kO rfl (a_lss rfl rfl (fun h4 => ?_) (fun h4 => ?_)))
 ·obtain ⟨q5, o5, z0, z1, ahU, hux, huat, j0, j1⟩ := hU.row2 (k := k) (by omega)
  obtain ⟨ur1, ur2⟩ := u_row hux
  have := j0.lo; have := j0.hi; have := j1.lo; have := j1.hi
  refine i_nil (rQ (r_cond_t rfl (r_skip (then_n (rQ (r_block (rS (kO rfl (a_iaA (j := k) ahU rfl rfl (by first | rfl | omega) (by first | decide | omega) (kO rfl (a_ldar rfl (by decide) (by assumption) rfl (kO rfl (a_new rfl rfl (fun b5 => (kZ rfl (a_sta rfl rfl .here rfl rfl rfl rfl (i_nil (rQ (rS (kO rfl (a_fa rfl (kO rfl (a_ld rfl .here rfl (kM rfl rfl (kO rfl (a_add rfl rfl (by omega) (kO rfl (a_fa rfl (kO rfl (a_ld rfl (.next (.next (.next .here))) rfl (kO rfl (a_lenx rfl (by first | exact hL.spot | exact hU.spot | exact hW.spot) (kO rfl (a_sub rfl rfl (by omega) (kO rfl (a_callB rfl rfl (fun s1 h1 => inside_s _ _ _ _ s1 h1.wf) (fun h6 => ?_) (fun h6 => ?_)))))))))))))))))))))))))))))))))))))
  ·have hin1 := h6
   obtain ⟨li, rfl⟩ : ∃ q : Nat, z0 = (q : Int) := ⟨z0.toNat, by omega⟩
   refine kO rfl (a_not rfl (kM rfl rfl (kG rfl rfl (a_fa rfl (kG rfl rfl (a_ld rfl .here rfl (kG rfl rfl (a_callB rfl rfl (fun s1 h1 => inside_s _ _ _ _ s1 h1.wf) (fun h7 => ?_) (fun h7 => ?_)))))))))
   ·have hin2 := h7
    refine kG rfl rfl (a_not rfl (kO rfl (a_pick_f rfl rfl rfl (i_nil (r_cond_f rfl (r_skip (then_n (rS (kO rfl (a_fa rfl (kO rfl (a_ld rfl .here rfl (kM rfl rfl (i_nil (rQ (rS (kM rfl rfl (kO rfl (a_fa rfl (kO rfl (a_ld rfl .here rfl (kO rfl (a_add rfl rfl (by omega) (kM rfl rfl (i_nil (rS (kM rfl rfl (kO rfl (a_gtr rfl rfl (fun h8 => ?_) (fun h8 => ?_))))))))))))))))))))))))))))))
    ·refine i_nil (r_cond_t rfl (rS (kM rfl rfl (i_nil (r_ret (then_r (block_r (then_r (then_r (block_r (then_r ?_)))))))))))
     exact end1 rfl ⟨.inr ⟨(by first | exact (fun q => absurd q.2.1 (by assumption)) | exact ad_no (by assumption) | exact ad_no (by rw [Bool.not_eq_true]; assumption) | exact (fun q => by have q1 := q.1 k (by omega); have e9 : tot (pn us) (k + 1) = tot (pn us) k + pn us k := rfl; omega)), rfl⟩, rfl⟩
    ·have hUk2 := hUk.put (by omega) (by omega) (show tot (pn us) k + pn us k <= _ by omega)
     refine i_nil (r_cond_f rfl (r_skip (then_n (rS (kO rfl (a_fa rfl (kO rfl (a_ld rfl (.next (.next (.next .here))) rfl (kO rfl (a_fa rfl (kO rfl (a_ld rfl .here rfl ?_))))))))))))
     obtain ⟨q4, o4, y0, y1, y2, y3, ahL, hx, hat, i0, i1, i2, i3⟩ := hL.row4 (k := li) (by omega)
     have hat2 := hat
     obtain ⟨d0, d1, d2, d3, _⟩ := hat2
     have := i0.lo; have := i0.hi
     have := i1.lo; have := i1.hi
     have := i2.lo; have := i2.hi
     have := i3.lo; have := i3.hi
     obtain ⟨fl1, fl2, fl3⟩ : la ls li = y0.toNat /\ lb ls li = y1.toNat /\ lw ls li = y2 := by
      have e9 : ls.getD li [] = [y0, y1, y2, y3] := by rw [List.getD_eq_getElem?_getD, hx]; rfl
      unfold la lb lw; rw [e9]; exact ⟨rfl, rfl, rfl⟩
     obtain ⟨hg1, hg2, hg3, hg4, hg5, y9, hx9⟩ := lg_of hlm li (by omega)
     rw [hx] at hx9
     simp only [Option.some.injEq, List.cons.injEq, and_true] at hx9
     obtain ⟨e0, e1, e2, e3⟩ := hx9
     subst e0 e1 e2
     have := hub _ hg1
     have := hub _ hg2
     refine kO rfl (a_iaA (j := li) ahL rfl rfl (by first | rfl | omega) (by first | decide | omega) (kO rfl (a_ldar rfl (by decide) (by assumption) rfl (kO rfl (a_new rfl rfl (fun b9 => (kZ rfl (a_sta rfl rfl .here rfl rfl rfl rfl (i_nil (rS (kM rfl rfl (kO rfl (a_fa rfl (kO rfl (a_ld rfl .here rfl (kO rfl (a_ia (j := (lb ls li)) rfl rfl (by omega) (by omega) (kO rfl (a_ldX (x := (umis ls us (fun v => w.getD v 0) k) ((lb ls li))) rfl (.next (.next .here)) (by rw [xs_len]; omega) (xs_get (by omega)) (kO rfl (a_fa rfl (kO rfl (a_ld rfl (.next .here) rfl (kO rfl (a_sub rfl rfl (by omega) (kO rfl (a_ia (j := (lb ls li)) rfl rfl (by omega) (by omega) (kZ rfl (a_stI rfl rfl (by rw [xs_set]; exact (.next (.next .here))) (by rw [xs_len]; omega) (i_nil (rS (kM rfl rfl (kO rfl (a_fa rfl (kO rfl (a_ld rfl .here rfl ?_))))))))))))))))))))))))))))))))))))
     have hud : ∀ z : Int, updX (umis ls us (fun v => w.getD v 0) k) (lb ls li) z (la ls li) = umis ls us (fun v => w.getD v 0) k (la ls li) := fun z => updX_ne hg3
     have hud2 := hud (umis ls us (fun v => w.getD v 0) k (lb ls li) - z1)
     refine kO rfl (a_ia (j := (la ls li)) rfl rfl (by omega) (by omega) (kO rfl (a_ldX rfl (.next (.next .here)) (by rw [xs_len]; omega) (xs_get (by omega)) (kO rfl (a_fa rfl (kO rfl (a_ld rfl (.next .here) rfl (kO rfl (a_add rfl rfl (by omega) (kO rfl (a_ia (j := (la ls li)) rfl rfl (by omega) (by omega) (kZ rfl (a_stI rfl rfl (by rw [xs_set]; exact (.next (.next .here))) (by rw [xs_len]; omega) (i_nil (rI (kM rfl rfl (kO rfl (a_fa rfl (kO rfl (a_ld rfl (.next .here) rfl (kO rfl (a_fa rfl (kO rfl (a_ld rfl .here rfl ?_))))))))))))))))))))))))
     have hpr := sum_pr (t := z1) (z := lw ls li) (by omega) (lw_bd' hlm (by omega))
     refine kO rfl (a_mul rfl rfl (by omega) (kO rfl (a_add rfl rfl (by omega) (kM rfl rfl (i_nil (block_n (then_n (rI (kO rfl (a_add rfl rfl (by omega) (kM rfl rfl (i_nil (then_n ?_)))))))))))))
     exact ⟨rfl, _, _, _, (show us.length - (k + 1) < us.length - k by omega), (lc 3 rfl (lc 5 rfl (lc 7 rfl (lc 8 (by show some (Value.int .i64 (li : Int)) = some (Value.int .i64 ((us.getD k []).getD 0 0)); rw [(u_row hux).1]) (lc 9 (by show some (Value.int .i64 (tot (pn us) k + z1)) = some (Value.int .i64 (tot (pn us) k + pn us k)); rw [(u_row hux).2]) (lc 10 (by show some (Value.int .i64 (_ + z1 * lw ls li)) = some (Value.int .i64 (tot (fun j => pn us j * uz ls us j) k + pn us k * lw ls (pf us k))); rw [(u_row hux).2, u_pf hux]) (lc 17 rfl (lc 18 rfl (lc 19 rfl Less.nil))))))))), (.cons _ (.cons _ (.q (.q (.q .slnil))))), ⟨k + 1, rfl, (by rw [show umis ls us (fun v => w.getD v 0) (k + 1) = updX (updX (umis ls us (fun v => w.getD v 0) k) (lb ls li) (umis ls us (fun v => w.getD v 0) k (lb ls li) - z1)) (la ls li) (updX (umis ls us (fun v => w.getD v 0) k) (lb ls li) (umis ls us (fun v => w.getD v 0) k (lb ls li) - z1) (la ls li) + z1) from by rw [<- u_pf hux, <- (u_row hux).2]; rfl]), rfl, by omega, hUk2⟩⟩
   ·refine kG rfl rfl (a_not rfl (kO rfl (a_pick_f rfl rfl rfl (i_nil (r_cond_t rfl (rS (kM rfl rfl (i_nil (r_ret (then_r (block_r (then_r (then_r (block_r (then_r ?_)))))))))))))))
    exact end1 rfl ⟨.inr ⟨(by first | exact (fun q => absurd q.2.1 (by assumption)) | exact ad_no (by assumption) | exact ad_no (by rw [Bool.not_eq_true]; assumption) | exact (fun q => by have q1 := q.1 k (by omega); have e9 : tot (pn us) (k + 1) = tot (pn us) k + pn us k := rfl; omega)), rfl⟩, rfl⟩
  ·refine kO rfl (a_not rfl (kM rfl rfl (i_no rfl rfl (i_no rfl rfl (i_no rfl rfl (i_no rfl rfl (kO rfl (a_pick_t rfl rfl rfl (i_nil (r_cond_t rfl (rS (kM rfl rfl (i_nil (r_ret (then_r (block_r (then_r (then_r (block_r (then_r ?_))))))))))))))))))))
   exact end1 rfl ⟨.inr ⟨(by first | exact (fun q => absurd q.2.1 (by assumption)) | exact ad_no (by assumption) | exact ad_no (by rw [Bool.not_eq_true]; assumption) | exact (fun q => by have q1 := q.1 k (by omega); have e9 : tot (pn us) (k + 1) = tot (pn us) k + pn us k := rfl; omega)), rfl⟩, rfl⟩
 ·have hku : k = us.length := by omega
  subst hku
  have hU9 := hUk
  refine i_nil (rQ (r_cond_f rfl (r_exit (then_e (then_e (block_hit (then_n (rS (kM rfl rfl (kO rfl (a_fa rfl (kO rfl (a_ld rfl (.next .here) rfl (kO rfl (a_eql rfl rfl (fun h10 => ?_) (fun h10 => ?_))))))))))))))))
  ·refine kM rfl rfl (kG rfl rfl (a_mov rfl (kG rfl rfl (a_slcP rfl rfl .here (by rw [ints_len, xs_len]; omega) (by omega) (kG rfl rfl (a_callb rfl rfl (fun s1 h1 => allInside_n _ _ _ _ ((xs (umis ls us (fun v => w.getD v 0) us.length) (M + 1)).drop 1) 0 s1 h1.wf (by omega) (by rw [List.length_drop, xs_len]; omega) ((IntsE.own (h1.own .here) (fun z hz => by obtain ⟨k9, hk9, rfl⟩ := List.mem_map.1 hz; have := um_bd hwb hU9 k9 (List.mem_range.1 hk9); omega) (by rw [xs_len]; omega)).drop (by rw [xs_len]; omega)) (by omega)) (fun h11 => ?_) (fun h11 => ?_)))))))
   ·refine kO rfl (a_pick_t rfl rfl rfl (kM rfl rfl (i_nil (r_ret ?_))))
    exact end1 rfl ⟨.inl ⟨ad_of hU9 (by assumption) (by assumption), rfl⟩, rfl⟩
   ·refine kO rfl (a_pick_t rfl rfl rfl (kM rfl rfl (i_nil (r_ret ?_))))
    exact end1 rfl ⟨.inr ⟨(by first | exact (fun q => absurd q.2.1 (by assumption)) | exact ad_no (by assumption) | exact ad_no (by rw [Bool.not_eq_true]; assumption) | exact (fun q => by have q1 := q.1 k (by omega); have e9 : tot (pn us) (k + 1) = tot (pn us) k + pn us k := rfl; omega)), rfl⟩, rfl⟩
  ·refine kM rfl rfl (i_no rfl rfl (i_no rfl rfl (i_no rfl rfl (kO rfl (a_pick_f rfl rfl rfl (kM rfl rfl (i_nil (r_ret ?_))))))))
   exact end1 rfl ⟨.inr ⟨(by first | exact (fun q => absurd q.2.1 (by assumption)) | exact ad_no (by assumption) | exact ad_no (by rw [Bool.not_eq_true]; assumption) | exact (fun q => by have q1 := q.1 k (by omega); have e9 : tot (pn us) (k + 1) = tot (pn us) k + pn us k := rfl; omega)), rfl⟩, rfl⟩
end
end Ev
end Go.Proofs.YtoeklhdklcpllaaGreat
