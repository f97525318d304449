import Derived.Test.YtoeklhdklcpllaaGreatZc16
import Derived.Test.YtoeklhdklcpllaaGreatZc09
set_option linter.unusedVariables false
set_option linter.unusedSimpArgs false
namespace Go.Proofs.YtoeklhdklcpllaaGreat
open Go Go.RowKit
namespace Ev
theorem um_net {ls us : List (List Int)} {m : Nat -> Int} {v : Nat} : ∀ {k : Nat}, (∀ j, j < k -> la ls (pf us j) ≠ lb ls (pf us j)) -> umis ls us m k v = m v - tot (fun j => (if lb ls (pf us j) = v then pn us j else 0) - (if la ls (pf us j) = v then pn us j else 0)) k
 | 0, _ => by show m v = m v - 0; omega
 | k + 1, h => by
  have ih := um_net (m := m) (v := v) (k := k) (fun j hj => h j (by omega))
  have hne := h k (by omega)
  show updX _ _ _ v = m v - (tot _ k + ((if lb ls (pf us k) = v then pn us k else 0) - (if la ls (pf us k) = v then pn us k else 0)))
  by_cases e1 : v = la ls (pf us k)
  ·rw [if_pos e1.symm, if_neg (fun q => hne (by rw [<- e1, q])), e1, updX_eq, updX_ne hne]
   rw [e1] at ih
   omega
  ·rw [updX_ne e1, if_neg (show ¬ la ls (pf us k) = v from fun q => e1 q.symm)]
   by_cases e2 : v = lb ls (pf us k)
   ·rw [if_pos e2.symm, e2, updX_eq]
    rw [e2] at ih
    omega
   ·rw [updX_ne e2, if_neg (show ¬ lb ls (pf us k) = v from fun q => e2 q.symm)]; omega
def tau (us : List (List Int)) (k i : Nat) : Int := tot (fun j => if pf us j = i then pn us j else 0) k
theorem tau_sum {us : List (List Int)} {f : Nat -> Int} {N : Nat} : ∀ {k : Nat}, (∀ j, j < k -> pf us j < N) -> tot (fun i => tau us k i * f i) N = tot (fun j => pn us j * f (pf us j)) k
 | 0, _ => tot_nil (fun i _ => by show (0 : Int) * f i = 0; rw [Int.zero_mul])
 | k + 1, h => by
  have ih := tau_sum (f := f) (k := k) (fun j hj => h j (by omega))
  have e : ∀ i, i < N -> tau us (k + 1) i * f i = tau us k i * f i + (if pf us k = i then pn us k * f i else 0) := fun i _ => by
   show (tau us k i + (if pf us k = i then pn us k else 0)) * f i = _
   rw [Int.add_mul]
   congr 1
   split
   ·rfl
   ·rw [Int.zero_mul]
  rw [tot_congr e, tot_add, ih, tot_one (c := fun i => pn us k * f i) (h k (by omega))]; rfl
theorem net_sum {ls : List (List Int)} {t : Nat -> Int} {v : Nat} : ∀ {K : Nat}, net ls t K v = tot (fun i => t i * ((if lb ls i = v then 1 else 0) - (if la ls i = v then 1 else 0))) K
 | 0 => rfl
 | K + 1 => by
  show net ls t K v + _ = tot _ K + t K * _
  rw [net_sum (K := K)]
  congr 1
  split <;> split <;> simp
theorem net_zero {ls : List (List Int)} {t : Nat -> Int} {N : Nat} {K : Nat} (h : ∀ i, i < K -> la ls i < N /\ lb ls i < N) : tot (fun v => net ls t K v) N = 0 := by
 have h1 := dot_net (ts := ls) (t := t) (x := fun _ => 1) (N := N) h
 rw [tot_congr (f := fun v => 1 * net ls t K v) (g := fun v => net ls t K v) (fun v _ => Int.one_mul _)] at h1
 rw [h1]
 exact tot_nil (fun i _ => by simp)
theorem AdP.tau {ls us : List (List Int)} {w : List Int} {M : Nat} {bd : Int} (hg : Lg M ls) (h : AdP ls us w M bd) : (∀ i, i < ls.length -> 0 <= tau us us.length i) /\ (∀ v, v < M + 1 -> net ls (tau us us.length) ls.length v = du0 w M v) /\ tot (fun i => tau us us.length i * lw ls i) ls.length = bd := by
 obtain ⟨h1, h2, h3⟩ := h
 have hpf : ∀ j, j < us.length -> pf us j < ls.length := fun j hj => by
  have a1 := (h1 j hj).1
  have a2 := (UkP.bef (k := j) (fun i hi => h1 i (by omega))).1
  unfold pf; omega
 have hne : ∀ j, j < us.length -> la ls (pf us j) ≠ lb ls (pf us j) := fun j hj => (hg _ (hpf j hj)).2.2.1
 have hnet : ∀ v, net ls (Ev.tau us us.length) ls.length v = tot (fun j => (if lb ls (pf us j) = v then pn us j else 0) - (if la ls (pf us j) = v then pn us j else 0)) us.length := fun v => by
  rw [net_sum, tau_sum hpf]
  exact tot_congr (fun j _ => by
   show pn us j * _ = _
   rw [Int.mul_sub]
   congr 1
   ·split <;> simp
   ·split <;> simp)
 have hv : ∀ v, 1 <= v -> v < M + 1 -> net ls (Ev.tau us us.length) ls.length v = w.getD v 0 := fun v a1 a2 => by
  have b1 := h3 v a1 a2
  rw [um_net hne] at b1
  rw [hnet]
  have b1 : w.getD v 0 - tot (fun j => (if lb ls (pf us j) = v then pn us j else 0) - (if la ls (pf us j) = v then pn us j else 0)) us.length = 0 := b1
  omega
 refine ⟨fun i _ => tot_nn (fun j hj => by
  show (0 : Int) <= if pf us j = i then pn us j else 0
  have := h1.nn j hj
  split <;> omega), fun v hv' => ?_, ?_⟩
 ·by_cases e : v = 0
  ·subst e
   have z1 := net_zero (ls := ls) (t := Ev.tau us us.length) (N := M + 1) (K := ls.length) (fun i hi => ⟨(hg i hi).1, (hg i hi).2.1⟩)
   have z2 := du_tot (w := w) (M := M)
   have key : ∀ k, k <= M -> tot (fun v => net ls (Ev.tau us us.length) ls.length v) (k + 1) - tot (du0 w M) (k + 1) = net ls (Ev.tau us us.length) ls.length 0 - du0 w M 0 := by
    intro k
    induction k with
    | zero => intro _; show 0 + net ls (Ev.tau us us.length) ls.length 0 - (0 + du0 w M 0) = _; omega
    | succ k ih =>
     intro hk
     have a1 := ih (by omega)
     have a2 := hv (k + 1) (by omega) (by omega)
     have a3 : du0 w M (k + 1) = w.getD (k + 1) 0 := updX_ne (by omega)
     show tot (fun v => net ls (Ev.tau us us.length) ls.length v) (k + 1) + net ls (Ev.tau us us.length) ls.length (k + 1) - (tot (du0 w M) (k + 1) + du0 w M (k + 1)) = _
     omega
   have := key M (Nat.le_refl _)
   omega
  ·rw [hv v (by omega) hv']
   exact (updX_ne (x := fun v => w.getD v 0) (z := 0 - pw w M) e).symm
 ·rw [tau_sum hpf]; exact h2
section
variable {X : FuncId -> List Value -> St -> (Value -> St -> Bool) -> Bool}
theorem CheckProof_s (n : Nat) (m : Int) (al : Option Addr) (cl : Nat) (ls : List (List Int)) (aw : Option Addr) (cw : Nat) (w : List Int) (ap : Option Addr) (cp : Nat) (us : List (List Int)) (bd : Int) (s : St) (hs : Wf s) (hn : 2251799813685248 <= n) (hL : RowsE s 4 al ls) (hW : IntsE s aw w) (hU : RowsE s 2 ap us) : Spec Tryz.prog (tabK tabw) X (n + 2500) 28 [.agg ⟨[.int .i64 m, .slice al ls.length cl]⟩, .slice aw w.length cw, .agg ⟨[.int .i64 bd, .slice ap us.length cp]⟩] s (fun v A => (¬ sysE m ls = 0 /\ v = .int .i64 (sysE m ls) /\ A = []) ∨ (sysE m ls = 0 /\ ¬ ((w.length : Int) = m + 1 /\ WOk w w.length) /\ v = .int .i64 27 /\ A = []) ∨ (sysE m ls = 0 /\ ((w.length : Int) = m + 1 /\ WOk w w.length) /\ us.length <= 400 /\ AdP ls us w m.toNat bd /\ v = .int .i64 0 /\ A = []) ∨ (sysE m ls = 0 /\ ((w.length : Int) = m + 1 /\ WOk w w.length) /\ ¬ (us.length <= 400 /\ AdP ls us w m.toNat bd) /\ v = .int .i64 24 /\ A = [])) := by
 refine enter bw28_at rfl hs ?_
 unfold bw28
 have hlen := hL.len
 have hlenW := hW.len
 have hlenU := hU.len
 refine rS (kO rfl (a_box rfl rfl rfl (fun b1 => (kO rfl (a_box rfl rfl rfl (fun b2 => (kM rfl rfl (i_nil (rQ (rS (kO rfl (a_lda rfl (by decide) (.next .here) rfl (kM rfl rfl (kO rfl (a_call rfl rfl (fun s1 h1 => checkWeights_s _ m al cl ls aw cw w s1 h1.wf (by omega) (hL.ext hs h1.2.1) (hW.ext hs h1.2.1)) (fun v1 A1 q1 => ?_))))))))))))))))
 rcases q1 with ⟨hsx, rfl, rfl⟩ | ⟨hsys, hww, rfl, rfl⟩ | ⟨hsys, hww, rfl, rfl⟩
 ·have hsx9 := hsx
  refine kM rfl rfl (i_nil (rS (kM rfl rfl (kO rfl (a_neq rfl rfl (fun h3 => ?_) (fun h3 => ?_))))))
  ·refine i_nil (r_cond_t rfl (rS (kM rfl rfl (kM rfl rfl (i_nil (r_ret (then_r ?_)))))))
   exact end1 rfl (.inl ⟨hsx9, rfl, rfl⟩)
  ·exfalso; omega
 ·have hww9 := hww
  refine kM rfl rfl (i_nil (rS (kM rfl rfl (kO rfl (a_neq rfl rfl (fun _ => (i_nil (r_cond_t rfl (rS (kM rfl rfl (kM rfl rfl (i_nil (r_ret (then_r ?_))))))))) (fun h => absurd h (by decide)))))))
  exact end1 rfl (.inr (.inl ⟨hsys, hww9, rfl, rfl⟩))
 ·obtain ⟨hm0, hM, h400, hlm⟩ := sysE_ok hsys
  obtain ⟨M, rfl⟩ : ∃ q : Nat, m = (q : Int) := ⟨m.toNat, by omega⟩
  obtain ⟨hwl0, hwo⟩ := hww
  have hwl : w.length = M + 1 := by omega
  have hSB := sb_of hlm (show ls.length <= 400 by omega) (show M <= 64 by omega)
  have hM : M <= 64 := by omega
  have hTlen : (ls ++ tollL M).length = ls.length + 2 * M := by rw [List.length_append, toll_len]
  have hdl : (w.drop 1).length = M := by rw [List.length_drop]; omega
  have hLg := lg_tl hlm
  have hft := tl_fit hL hM
  obtain ⟨hps9, hdu⟩ := du_pos hwl hwo
  refine kM rfl rfl (i_nil (rS (kM rfl rfl (kO rfl (a_neq rfl rfl (fun h => absurd h (by decide)) (fun _ => (i_nil (r_cond_f rfl (r_skip (then_n (rQ (rS (kO rfl (a_fa rfl (kO rfl (a_ld rfl .here rfl (kO rfl (a_lenx rfl (by first | exact hL.spot | exact hU.spot | exact hW.spot) (kO rfl (a_gtr rfl rfl (fun h6 => ?_) (fun h6 => ?_)))))))))))))))))))))
  ·refine kM rfl rfl (i_no rfl rfl (i_no rfl rfl (i_no rfl rfl (i_no rfl rfl (i_no rfl rfl (kO rfl (a_pick_t rfl rfl rfl (i_nil (r_cond_t rfl (rS (kM rfl rfl (i_nil (r_ret (then_r ?_))))))))))))))
   exact end1 rfl (.inr (.inr (.inr ⟨hsys, ⟨hwl0, hwo⟩, (by first | exact (fun q => had2 q.2) | exact (fun q => by have := q.1; omega)), rfl, rfl⟩)))
  ·refine kM rfl rfl (kG rfl rfl (a_lda rfl (by decide) (.next .here) rfl (kG rfl rfl (a_mov rfl (kG rfl rfl (a_lda rfl (by decide) .here rfl (kG rfl rfl (a_call rfl rfl (fun s1 h1 => addsUp_s _ M al cl ls aw cw w ap cp us bd s1 h1.wf (by omega) (hL.ext hs h1.2.1) (hW.ext hs h1.2.1) (hU.ext hs h1.2.1) (by omega) hM hlm (by omega) hwl hwo) (fun v1 A1 q1 => ?_)))))))))
   obtain ⟨q1, rfl⟩ := q1
   rcases q1 with ⟨had, rfl⟩ | ⟨had, rfl⟩
   ·have had1 := had
    refine kG rfl rfl (a_not rfl (kO rfl (a_pick_f rfl rfl rfl (i_nil (r_cond_f rfl (r_skip (then_n (rS (kM rfl rfl (i_nil (r_ret ?_)))))))))))
    exact end1 rfl (.inr (.inr (.inl ⟨hsys, ⟨hwl0, hwo⟩, by omega, had1, rfl, rfl⟩)))
   ·have had2 := had
    refine kG rfl rfl (a_not rfl (kO rfl (a_pick_f rfl rfl rfl (i_nil (r_cond_t rfl (rS (kM rfl rfl (i_nil (r_ret (then_r ?_))))))))))
    exact end1 rfl (.inr (.inr (.inr ⟨hsys, ⟨hwl0, hwo⟩, (by first | exact (fun q => had2 q.2) | exact (fun q => by have := q.1; omega)), rfl, rfl⟩)))
end
end Ev
end Go.Proofs.YtoeklhdklcpllaaGreat
namespace Go.Proofs.YtoeklhdklcpllaaGreat
open Go Go.RowKit
namespace Ev
def ulL (t : Nat -> Int) : Nat -> List (List Int)
 | 0 => []
 | k + 1 => if 0 < t k then ulL t k ++ [[(k : Int), t k]] else ulL t k
theorem ap_old {U : List (List Int)} {x : List Int} {j : Nat} (h : j < U.length) : (U ++ [x]).getD j [] = U.getD j [] := by
 rw [List.getD_eq_getElem?_getD, List.getElem?_append_left h, <- List.getD_eq_getElem?_getD]
theorem ap_new {U : List (List Int)} {x : List Int} : (U ++ [x]).getD U.length [] = x := by
 rw [List.getD_eq_getElem?_getD, List.getElem?_append_right (Nat.le_refl _), Nat.sub_self]; rfl
theorem ap_pf {U : List (List Int)} {x : List Int} {j : Nat} (h : j < U.length) : pf (U ++ [x]) j = pf U j /\ pn (U ++ [x]) j = pn U j := by
 unfold pf pn
 rw [ap_old h]; exact ⟨rfl, rfl⟩
theorem ap_bef {U : List (List Int)} {x : List Int} : ∀ {j : Nat}, j <= U.length -> bef (U ++ [x]) j = bef U j
 | 0, _ => rfl
 | j + 1, h => by
  show ((U ++ [x]).getD j []).getD 0 0 = (U.getD j []).getD 0 0
  rw [ap_old (by omega)]
theorem ul_sum {F : Nat -> Int -> Int} {t : Nat -> Int} (hF : ∀ i, F i 0 = 0) : ∀ {k : Nat}, (∀ i, i < k -> 0 <= t i) -> tot (fun j => F (pf (ulL t k) j) (pn (ulL t k) j)) (ulL t k).length = tot (fun i => F i (t i)) k
 | 0, _ => rfl
 | k + 1, h => by
  have ih := ul_sum hF (t := t) (k := k) (fun i hi => h i (by omega))
  show _ = tot (fun i => F i (t i)) k + F k (t k)
  by_cases c : 0 < t k
  ·rw [show ulL t (k + 1) = ulL t k ++ [[(k : Int), t k]] from if_pos c, List.length_append]
   show tot _ (ulL t k).length + F (pf _ (ulL t k).length) (pn _ (ulL t k).length) = _
   rw [tot_congr (g := fun j => F (pf (ulL t k) j) (pn (ulL t k) j)) (fun j hj => by rw [(ap_pf hj).1, (ap_pf hj).2]), ih]
   congr 1
   have e1 : pf (ulL t k ++ [[(k : Int), t k]]) (ulL t k).length = k := by
    unfold pf
    rw [ap_new]; exact Int.toNat_natCast k
   have e2 : pn (ulL t k ++ [[(k : Int), t k]]) (ulL t k).length = t k := by
    unfold pn
    rw [ap_new]; rfl
   rw [e1, e2]
  ·rw [show ulL t (k + 1) = ulL t k from if_neg c, ih, show t k = 0 from by have := h k (by omega); omega, hF]; omega
theorem ul_uk {ls : List (List Int)} {t : Nat -> Int} (ht : ∀ i, i < ls.length -> 0 <= t i /\ t i <= 3600000000000) (hs : tot t ls.length <= 230400000000000) : ∀ {k : Nat}, k <= ls.length -> UkP ls (ulL t k) (ulL t k).length /\ bef (ulL t k) (ulL t k).length <= (k : Int) - 1 /\ (ulL t k).length <= k
 | 0, _ => ⟨fun j hj => absurd hj (Nat.not_lt_zero j), by show (-1 : Int) <= _; omega, Nat.le_refl _⟩
 | k + 1, hk => by
  obtain ⟨i1, i2, i3⟩ := ul_uk ht hs (k := k) (by omega)
  by_cases c : 0 < t k
  ·rw [show ulL t (k + 1) = ulL t k ++ [[(k : Int), t k]] from if_pos c, List.length_append]
   have e1 : ((ulL t k ++ [[(k : Int), t k]]).getD (ulL t k).length []).getD 0 0 = (k : Int) := by rw [ap_new]; rfl
   have e2 : pn (ulL t k ++ [[(k : Int), t k]]) (ulL t k).length = t k := by
    unfold pn
    rw [ap_new]; rfl
   have e3 : ∀ j, j <= (ulL t k).length -> tot (pn (ulL t k ++ [[(k : Int), t k]])) j = tot (pn (ulL t k)) j := fun j hj => tot_congr (fun i hi => (ap_pf (by omega)).2)
   have e4 := ul_sum (F := fun _ n => n) (t := t) (fun _ => rfl) (k := k) (fun i hi => (ht i (by omega)).1)
   have e4 : tot (pn (ulL t k)) (ulL t k).length = tot t k := e4
   have e5 := tot_part (f := t) (K0 := k + 1) (K := ls.length) hk (fun i hi => (ht i hi).1)
   have e5 : tot t k + t k <= tot t ls.length := e5
   refine ⟨fun j hj => ?_, ?_, by show (ulL t k).length + 1 <= _; omega⟩
   ·have hj : j < (ulL t k).length + 1 := hj
    by_cases e : j = (ulL t k).length
    ·subst e
     rw [e1, e2, ap_bef (Nat.le_refl _)]
     refine ⟨by omega, by have := ht k (by omega); omega, ?_⟩
     show tot (pn (ulL t k ++ [[(k : Int), t k]])) (ulL t k).length + pn (ulL t k ++ [[(k : Int), t k]]) (ulL t k).length <= _
     rw [e2, e3 _ (Nat.le_refl _), e4]; omega
    ·have h1 := i1 j (by omega)
     rw [ap_bef (by omega), ap_old (by omega), (ap_pf (x := [(k : Int), t k]) (show j < (ulL t k).length by omega)).2, e3 (j + 1) (by omega)]
     exact h1
   ·show ((ulL t k ++ [[(k : Int), t k]]).getD (ulL t k).length []).getD 0 0 <= _
    rw [e1]; omega
  ·rw [show ulL t (k + 1) = ulL t k from if_neg c]
   exact ⟨i1, by omega, by omega⟩
theorem ul_ad {ls : List (List Int)} {M : Nat} {w : List Int} {t p : Nat -> Int} (hg : Lg M ls) (h : Opt ls (M + 1) (du0 w M) t p) (ht : ∀ i, i < ls.length -> t i <= 3600000000000) (hs : tot t ls.length <= 230400000000000) : AdP ls (ulL t ls.length) w M (tot (fun i => t i * lw ls i) ls.length) /\ (ulL t ls.length).length <= ls.length := by
 obtain ⟨i1, i2, i3⟩ := ul_uk (ls := ls) (t := t) (fun i hi => ⟨h.nn i hi, ht i hi⟩) hs (Nat.le_refl _)
 have hpf : ∀ j, j < (ulL t ls.length).length -> pf (ulL t ls.length) j < ls.length := fun j hj => by
  have a1 := (i1 j hj).1
  have a2 := (UkP.bef (k := j) (fun i hi => i1 i (by omega))).1
  unfold pf; omega
 refine ⟨⟨i1, ?_, fun v h1 h2 => ?_⟩, i3⟩
 ·exact ul_sum (F := fun i n => n * lw ls i) (t := t) (fun _ => Int.zero_mul _) h.nn
 ·rw [um_net (fun j hj => (hg _ (hpf j hj)).2.2.1)]
  have e1 := ul_sum (F := fun i n => (if lb ls i = v then n else 0) - (if la ls i = v then n else 0)) (t := t) (fun i => by split <;> split <;> rfl) (k := ls.length) h.nn
  have e2 := h.nt v h2
  rw [net_sum] at e2
  have e3 : tot (fun i => t i * ((if lb ls i = v then 1 else 0) - (if la ls i = v then 1 else 0))) ls.length = tot (fun i => (if lb ls i = v then t i else 0) - (if la ls i = v then t i else 0)) ls.length := tot_congr (fun i _ => by
   rw [Int.mul_sub]
   congr 1
   ·split <;> simp
   ·split <;> simp)
  rw [e3] at e2
  have e4 : du0 w M v = w.getD v 0 := updX_ne (x := fun v => w.getD v 0) (z := 0 - pw w M) (by omega)
  have e5 : tot (fun j => (if lb ls (pf (ulL t ls.length) j) = v then pn (ulL t ls.length) j else 0) - (if la ls (pf (ulL t ls.length) j) = v then pn (ulL t ls.length) j else 0)) (ulL t ls.length).length = tot (fun i => (if lb ls i = v then t i else 0) - (if la ls i = v then t i else 0)) ls.length := e1
  rw [e5, e2, e4]
  show w.getD v 0 - w.getD v 0 = 0
  omega
section
variable {X : FuncId -> List Value -> St -> (Value -> St -> Bool) -> Bool}
end
end Ev
end Go.Proofs.YtoeklhdklcpllaaGreat
namespace Go.Proofs.YtoeklhdklcpllaaGreat
open Go Go.RowKit
namespace Ev
def dt (w x : List Int) : Nat -> Int
 | 0 => 0
 | k + 1 => dt w x k + w.getD k 0 * x.getD k 0
theorem prod_bd {a b c : Int} (h : -c <= b /\ b <= c) (hc : 0 <= c) : -(c * max a (-a)) <= a * b /\ a * b <= c * max a (-a) := by
 rcases Int.lt_or_le a 0 with q | q
 ·rw [Int.max_eq_right (by omega)]
  have h1 := Int.mul_le_mul_of_nonneg_left h.1 (show 0 <= -a by omega)
  have h2 := Int.mul_le_mul_of_nonneg_left h.2 (show 0 <= -a by omega)
  rw [Int.neg_mul, Int.neg_mul, Int.mul_neg] at h1
  rw [Int.neg_mul, Int.neg_mul] at h2
  rw [Int.mul_neg, Int.mul_comm c a]
  omega
 ·rw [Int.max_eq_left (by omega)]
  have h1 := Int.mul_le_mul_of_nonneg_left h.1 q
  have h2 := Int.mul_le_mul_of_nonneg_left h.2 q
  rw [Int.mul_neg] at h1
  rw [Int.mul_comm c a]
  omega
theorem dt_bd {w x : List Int} {n : Nat} (hx : inB (-1280000) 1280000 x = true) (hn : n <= x.length) : ∀ {k : Nat}, k <= n -> -(1280000 * szs w k) <= dt w x k /\ dt w x k <= 1280000 * szs w k
 | 0, _ => ⟨by show -(1280000 * (0 : Int)) <= 0; decide, by show (0 : Int) <= 1280000 * 0; decide⟩
 | k + 1, hk => by
  have ih := dt_bd hx hn (w := w) (k := k) (by omega)
  have h1 := in_all hx (k := k) (by omega)
  have h2 := prod_bd (a := w.getD k 0) h1 (by decide)
  show -(1280000 * (szs w k + max (w.getD k 0) (-(w.getD k 0)))) <= dt w x k + w.getD k 0 * x.getD k 0 /\ dt w x k + w.getD k 0 * x.getD k 0 <= 1280000 * (szs w k + max (w.getD k 0) (-(w.getD k 0)))
  omega
theorem in_upto {lo hi : Int} {l : List Int} {k : Nat} (h : ∀ u, u < k -> lo <= l.getD u 0 /\ l.getD u 0 <= hi) (hk : l.length <= k) : inB lo hi l = true := by
 refine List.all_eq_true.2 (fun z hz => ?_)
 obtain ⟨i, hi', rfl⟩ := List.getElem_of_mem hz
 have h4 := h i (by omega)
 rw [List.getD_eq_getElem?_getD, List.getElem?_eq_getElem hi'] at h4
 exact decide_eq_true h4
def VP1 (w : List Int) : Prop := w.length <= 65 /\ WOk w w.length
def VP2 (w x : List Int) : Prop := x.length = w.length /\ inB (-1280000) 1280000 x = true
noncomputable def vc (w x : List Int) : Int := @ite _ (VP1 w) (Classical.propDecidable _) (@ite _ (VP2 w x) (Classical.propDecidable _) 0 25) 27
noncomputable def vv (w x : List Int) : Int := @ite _ (VP1 w) (Classical.propDecidable _) (@ite _ (VP2 w x) (Classical.propDecidable _) (dt w x w.length) 0) 0
theorem v_27 {w x : List Int} (h : ¬ VP1 w) : Value.tuple #[.int .i64 0, .int .i64 27] = .tuple #[.int .i64 (vv w x), .int .i64 (vc w x)] := by unfold vv vc; rw [if_neg h, if_neg h]
theorem v_25 {w x : List Int} (h : VP1 w) (h2 : ¬ VP2 w x) : Value.tuple #[.int .i64 0, .int .i64 25] = .tuple #[.int .i64 (vv w x), .int .i64 (vc w x)] := by unfold vv vc; rw [if_pos h, if_pos h, if_neg h2, if_neg h2]
theorem v_0 {w x : List Int} (h : VP1 w) (h2 : VP2 w x) : Value.tuple #[.int .i64 (dt w x w.length), .int .i64 0] = .tuple #[.int .i64 (vv w x), .int .i64 (vc w x)] := by unfold vv vc; rw [if_pos h, if_pos h, if_pos h2, if_pos h2]
section
variable {X : FuncId -> List Value -> St -> (Value -> St -> Bool) -> Bool}
theorem Value_s (n : Nat) (aw : Option Addr) (cw : Nat) (w : List Int) (ax : Option Addr) (cx : Nat) (x : List Int) (s : St) (hs : Wf s) (hn : 562949953421312 <= n) (hW : IntsE s aw w) (hX : IntsE s ax x) : Spec Tryz.prog (tabK tabw) X (n + 800) 29 [.slice aw w.length cw, .slice ax x.length cx] s (fun v A => v = .tuple #[.int .i64 (vv w x), .int .i64 (vc w x)] /\ A = []) := by
 refine enter bw29_at rfl hs ?_
 unfold bw29
 have hlen := hW.len
 have hlenX := hX.len
 refine rS (kM rfl rfl (kM rfl rfl (i_nil (rQ (rS (kM rfl rfl (kO rfl (a_lenx rfl hW.spot (kO rfl (a_gtr rfl rfl (fun h1 => ?_) (fun h1 => ?_)))))))))))
 ·have hno : ¬ VP1 w := fun q => by have := q.1; omega
  refine kM rfl rfl (i_no rfl rfl (i_no rfl rfl (i_no rfl rfl (kO rfl (a_pick_t rfl rfl rfl (i_nil (r_cond_t rfl (rS (kM rfl rfl (kM rfl rfl (i_nil (r_ret (then_r ?_)))))))))))))
  exact end2 rfl rfl ⟨v_27 hno, rfl⟩
 ·refine kM rfl rfl (kG rfl rfl (a_mov rfl (kG rfl rfl (a_call rfl rfl (fun s1 h1 => weighs_s _ _ _ _ s1 h1.wf (by omega) (hW.ext hs h1.2.1)) (fun v1 A1 q1 => ?_)))))
  obtain ⟨q1, rfl⟩ := q1
  rcases q1 with ⟨hwo, rfl⟩ | ⟨hwo, rfl⟩
  ·have hwo1 := hwo
   refine kG rfl rfl (a_not rfl (kO rfl (a_pick_f rfl rfl rfl (i_nil (r_cond_f rfl (r_skip (then_n (rQ (rS (kM rfl rfl (kO rfl (a_lenx rfl hX.spot (kM rfl rfl (kO rfl (a_lenx rfl hW.spot (kO rfl (a_neq rfl rfl (fun h2 => ?_) (fun h2 => ?_))))))))))))))))))
   ·have hno2 : ¬ VP2 w x := fun q => by have := q.1; omega
    refine kM rfl rfl (i_no rfl rfl (i_no rfl rfl (i_no rfl rfl (kO rfl (a_pick_t rfl rfl rfl (i_nil (r_cond_t rfl (rS (kM rfl rfl (kM rfl rfl (i_nil (r_ret (then_r ?_)))))))))))))
    exact end2 rfl rfl ⟨v_25 ⟨by omega, hwo1⟩ hno2, rfl⟩
   ·refine kM rfl rfl (kG rfl rfl (a_mov rfl (kG rfl rfl (a_callb rfl rfl (fun s1 h1 => allInside_s _ _ _ _ _ s1 h1.wf (by omega) (hX.ext hs h1.2.1) (by omega)) (fun h3 => ?_) (fun h3 => ?_)))))
    ·have hyes : VP2 w x := ⟨by omega, h3⟩
     refine kG rfl rfl (a_not rfl (kO rfl (a_pick_f rfl rfl rfl (i_nil (r_cond_f rfl (r_skip (then_n (rS (kM rfl rfl (i_nil (rQ (rS (kM rfl rfl (kO rfl (a_lenx rfl hW.spot (kM rfl rfl (i_nil (r_block (r_loop (fun j e A => ∃ (k : Nat), e = [(0, .slice aw w.length cw), (1, .slice ax x.length cx), (6, .int .i64 (dt w x k)), (27, .slice aw w.length cw), (28, .int .i64 (w.length : Int)), (29, .int .i64 (k : Int))] /\ A = [] /\ j = w.length - k /\ k <= w.length) 200 0 281474976710656 ?_ (j := _) (env2 := _) (A2 := _) ?_ ?_ ?_ ?_ ⟨0, rfl, rfl, rfl, Nat.zero_le _⟩)))))))))))))))))))
     rotate_left
     ·omega
     ·omega
     ·exact (lc 0 rfl (lc 1 rfl (lc 6 rfl (lc 27 rfl (lc 28 rfl (lc 29 rfl Less.nil))))))
     ·exact .slnil
     rintro n hn j _ _ ⟨k, rfl, rfl, rfl, hk⟩
     refine rS (kO rfl (a_lss rfl rfl (fun h4 => ?_) (fun h4 => ?_)))
     ·have hxb := in_all hyes.2 (k := k) (by omega)
      have hpb := prod_bd (a := w.getD k 0) (b := x.getD k 0) (c := 1280000) (by omega) (by decide)
      have hz1 := szs_pos (w := w) (k := k)
      have hz2 := wok_le hwo1 (k := k + 1) (by omega)
      change szs w k + max (w.getD k 0) (-(w.getD k 0)) <= _ at hz2
      have hdb := dt_bd (w := w) hyes.2 (n := k) (by omega) (Nat.le_refl k)
      refine i_nil (rQ (r_cond_t rfl (r_skip (then_n (rQ (r_block (rS (kM rfl rfl (kO rfl (a_iaI (j := k) hW rfl rfl (by omega) (by first | rfl | omega) (by omega) (fun _ _ a5 => (kO rfl (a_ldr rfl (hW.at a5 (by omega)) (kM rfl rfl (kM rfl rfl (i_nil (rI (kM rfl rfl (kM rfl rfl (kM rfl rfl (kM rfl rfl (kO rfl (a_iaI (j := k) hX rfl rfl (by omega) (by first | rfl | omega) (by omega) (fun _ _ a6 => (kO rfl (a_ldr rfl (hX.at a6 (by omega)) (kO rfl (a_mul rfl rfl (by omega) (kO rfl (a_add rfl rfl (by omega) (kM rfl rfl ?_)))))))))))))))))))))))))))))))
      refine i_nil (block_n (then_n (rI (kO rfl (a_add rfl rfl (by omega) (kM rfl rfl (i_nil (then_n ?_))))))))
      exact ⟨rfl, _, _, _, (show w.length - (k + 1) < w.length - k by omega), (lc 0 rfl (lc 1 rfl (lc 6 rfl (lc 27 rfl (lc 28 rfl (lc 29 rfl Less.nil)))))), .slnil, ⟨k + 1, rfl, rfl, rfl, by omega⟩⟩
     ·refine i_nil (rQ (r_cond_f rfl (r_exit (then_e (then_e (block_hit (then_n (rS (kM rfl rfl (kM rfl rfl (kM rfl rfl (i_nil (r_ret ?_)))))))))))))
      have hkw : k = w.length := by omega
      subst hkw
      exact end2 rfl rfl ⟨v_0 ⟨by omega, hwo1⟩ hyes, rfl⟩
    ·have hno2 : ¬ VP2 w x := fun q => by rw [q.2] at h3; cases h3
     refine kG rfl rfl (a_not rfl (kO rfl (a_pick_f rfl rfl rfl (i_nil (r_cond_t rfl (rS (kM rfl rfl (kM rfl rfl (i_nil (r_ret (then_r ?_)))))))))))
     exact end2 rfl rfl ⟨v_25 ⟨by omega, hwo1⟩ hno2, rfl⟩
  ·have hno : ¬ VP1 w := fun q => hwo q.2
   refine kG rfl rfl (a_not rfl (kO rfl (a_pick_f rfl rfl rfl (i_nil (r_cond_t rfl (rS (kM rfl rfl (kM rfl rfl (i_nil (r_ret (then_r ?_)))))))))))
   exact end2 rfl rfl ⟨v_27 hno, rfl⟩
end
end Ev
end Go.Proofs.YtoeklhdklcpllaaGreat
namespace Go.Proofs.YtoeklhdklcpllaaGreat
open Go Go.RowKit
namespace Ev
theorem endDc1 {s0 : St} {env : List (Nat × Value)} {D : List Nat} {A : List Ob} {a b o m e : Nat} {op : Bool} {l r : List Value} {Q : Value -> List Ob -> Prop} {A2 : List Ob} (ha : look env a = some (.pointer (some ⟨b, o, none⟩))) (h0 : m ≠ 0) (hd : DelD A D A2) (ho : Own A2 b e op l) (hv : segL l o m = some r) (hq : Q (.agg ⟨r⟩) A2) : EndD s0 [.cell a (some m)] Q .ret env D A :=
 ⟨A2, [.agg ⟨r⟩], A2, hd, ⟨b, o, r, [], rfl, ha, h0, ⟨e, op, l, ho, hv⟩, rfl⟩, List.Sublist.refl _, hq⟩
theorem endc2A {s0 : St} {env : List (Nat × Value)} {A A' : List Ob} {a u b o m e : Nat} {op : Bool} {l r : List Value} {w : Value} {Q : Value -> List Ob -> Prop} (ha : look env a = some (.pointer (some ⟨b, o, none⟩))) (h0 : m ≠ 0) (hs : A'.Sublist A) (ho : Own A b e op l) (hv : segL l o m = some r) (hu : look env u = some w) (hq : Q (.tuple #[.agg ⟨r⟩, w]) A') : EndA s0 [.cell a (some m), .tmp u] Q .ret env [] A :=
 ⟨rfl, [.agg ⟨r⟩, w], A', ⟨b, o, r, [w], rfl, ha, h0, ⟨e, op, l, ho, hv⟩, w, [], rfl, hu, rfl⟩, hs, hq⟩
def UlOk (TU : Nat) (a : Option Addr) (n c : Nat) (l : List Value) (UL : List Ob) : Prop := (a = none /\ n = 0 /\ c = 0 /\ l = [] /\ UL = []) ∨ ∃ b op, a = some ⟨b, 0, none⟩ /\ 0 < n /\ l.length = n * 2 /\ Tight op n c /\ UL = [.row b TU op l]
theorem a_appU {P : Program} {C : Nat -> (CF -> Bool) -> Bool} {X : FuncId -> List Value -> St -> (Value -> St -> Bool) -> Bool} {s0 : St} {n nt : Nat} {env : List (Nat × Value)} {A A1 A2 UL : List Ob} {R : Value -> List Ob -> Prop} {TU k c : Nat} {a : Option Addr} {l more z : List Value} {x y : Ev.X} {yv : Value} (hU : UlOk TU a k c l UL) (hA : A = A1 ++ (UL ++ A2)) (hx : xv env x = some (.slice a k c)) (hy : xv env y = some yv) (hsrc : Src s0 A 2 1 more yv) (hm : (1 : Nat) ≠ 0) (hb1 : k + 1 <= 1048576) (hb2 : 16 * (k + 1) <= 1073741824)
 (h : ∀ b, R (.slice (some ⟨b, 0, none⟩) (k + 1) OPEN) (.row b TU true (l ++ more) :: (A1 ++ A2))) : OpA P C X s0 n nt (.app TU 2 16 z false x y) env A R := by
 rcases hU with ⟨rfl, rfl, rfl, rfl, rfl⟩ | ⟨b, op, rfl, h0, hl, ht, rfl⟩
 ·subst hA
  exact a_appn hx hy hsrc hm (by omega) (by omega) (fun b => by have := h b; exact this)
 ·subst hA
  have hd : Del (A1 ++ ([.row b TU op l] ++ A2)) b TU op l (A1 ++ A2) := by
   clear hsrc h
   induction A1 with
   | nil => exact .here
   | cons q A1 ih => exact .next ih
  exact a_app hx hy hsrc hd hl ht hm (by omega) (by omega) h
def ulC (t : Nat -> Int) : Nat -> List Value
 | 0 => []
 | k + 1 => if 0 < t k then ulC t k ++ [.int .i64 (k : Int), .int .i64 (t k)] else ulC t k
theorem ul_yes {t : Nat -> Int} {k : Nat} (h : 0 < t k) : ulC t k ++ [.int .i64 (k : Int), .int .i64 (t k)] = ulC t (k + 1) := (if_pos h).symm
theorem ul_no {t : Nat -> Int} {k : Nat} (h : ¬ 0 < t k) : ulC t k = ulC t (k + 1) := (if_neg h).symm
theorem UlOk.len {TU : Nat} {a : Option Addr} {n c : Nat} {l : List Value} {UL : List Ob} (h : UlOk TU a n c l UL) : l.length = n * 2 := by
 rcases h with ⟨_, rfl, _, rfl, _⟩ | ⟨_, _, _, _, hl, _⟩
 ·rfl
 ·exact hl
section
variable {X : FuncId -> List Value -> St -> (Value -> St -> Bool) -> Bool}
set_option maxRecDepth 100000 in
theorem Prove_s (n : Nat) (m : Int) (al : Option Addr) (cl : Nat) (ls : List (List Int)) (aw : Option Addr) (cw : Nat) (w : List Int) (s : St) (hs : Wf s) (hn : 7318349394477056 <= n) (hL : RowsE s 4 al ls) (hcl : al = none -> cl = 0) (hW : IntsE s aw w) (hCap : CapOk s aw w.length cw) : Spec Tryz.prog (tabK tabw) X (n + 10500) 12 [.agg ⟨[.int .i64 m, .slice al ls.length cl]⟩, .slice aw w.length cw] s (fun v A => (¬ sysE m ls = 0 /\ v = .tuple #[.agg ⟨[.int .i64 0, .slice none 0 0]⟩, .int .i64 (sysE m ls)] /\ A = []) ∨ (sysE m ls = 0 /\ ¬ ((w.length : Int) = m + 1 /\ WOk w w.length) /\ v = .tuple #[.agg ⟨[.int .i64 0, .slice none 0 0]⟩, .int .i64 27] /\ A = []) ∨ (sysE m ls = 0 /\ ((w.length : Int) = m + 1 /\ WOk w w.length) /\ Uns ls (m.toNat + 1) /\ v = .tuple #[.agg ⟨[.int .i64 0, .slice none 0 0]⟩, .int .i64 23] /\ A = []) ∨ (sysE m ls = 0 /\ ((w.length : Int) = m + 1 /\ WOk w w.length) /\ ¬ Uns ls (m.toNat + 1) /\ Opn ls (m.toNat + 1) (du0 w m.toNat) /\ v = .tuple #[.agg ⟨[.int .i64 0, .slice none 0 0]⟩, .int .i64 22] /\ A = []) ∨ (sysE m ls = 0 /\ ((w.length : Int) = m + 1 /\ WOk w w.length) /\ ¬ Uns ls (m.toNat + 1) /\ ∃ t p a n c UL, Opt ls (m.toNat + 1) (du0 w m.toNat) t p /\ (∀ i, i < ls.length -> t i <= 3600000000000) /\ tot t ls.length <= 230400000000000 /\ v = .tuple #[.agg ⟨[.int .i64 (tot (fun i => t i * lw ls i) ls.length), .slice a n c]⟩, .int .i64 0] /\ A = UL /\ n <= ls.length /\ UlOk 76 a n c (ulC t ls.length) UL)) := by
 refine enter bw12_at rfl hs ?_
 unfold bw12
 have hlen := hL.len
 have hlenW := hW.len
 refine rS (kO rfl (a_box rfl rfl rfl (fun b1 => (kO rfl (a_new rfl rfl (fun b2 => (kM rfl rfl (i_nil (rS (kO rfl (a_lda rfl (by decide) (.next .here) rfl (kM rfl rfl (kO rfl (a_call rfl rfl (fun s1 h1 => solve_s _ m al cl ls aw cw w s1 h1.wf (by omega) (hL.ext hs h1.2.1) hcl (hW.ext hs h1.2.1) (hCap.ext hs h1.2.1)) (fun v1 A1 q1 => ?_)))))))))))))))
 rcases q1 with ⟨hsx, rfl, rfl⟩ | ⟨hsys, hww, rfl, rfl⟩ | ⟨hsys, hww, hun, rfl, rfl⟩ | ⟨hsys, hww, hnu, hop, rfl, rfl⟩ | ⟨hsys, hww, hnu, q1⟩
 ·have hsx9 := hsx
  refine kM rfl rfl (kO rfl (a_ext rfl rfl (kO rfl (a_ext rfl rfl (kM rfl rfl (kM rfl rfl (i_nil (rQ (rS (kM rfl rfl (kO rfl (a_neq rfl rfl (fun h6 => ?_) (fun h6 => ?_)))))))))))))
  ·refine i_nil (r_cond_t rfl (rS (kO rfl (a_build rfl rfl (kM rfl rfl (kZ rfl (a_sta rfl rfl .here rfl rfl rfl rfl (kM rfl rfl (i_nil (r_ret (then_r ?_)))))))))))
   exact endc2A rfl (by decide) (List.nil_sublist _) .here rfl rfl (.inl ⟨hsx, rfl, rfl⟩)
  ·exfalso; omega
 ·have hww9 := hww
  refine kM rfl rfl (kO rfl (a_ext rfl rfl (kO rfl (a_ext rfl rfl (kM rfl rfl (kM rfl rfl (i_nil (rQ (rS (kM rfl rfl (kO rfl (a_neq rfl rfl (fun _ => (i_nil (r_cond_t rfl (rS (kO rfl (a_build rfl rfl (kM rfl rfl (kZ rfl (a_sta rfl rfl .here rfl rfl rfl rfl (kM rfl rfl (i_nil (r_ret (then_r ?_))))))))))))) (fun h => absurd h (by decide))))))))))))))
  exact endc2A rfl (by decide) (List.nil_sublist _) .here rfl rfl (.inr (.inl ⟨hsys, hww, rfl, rfl⟩))
 ·have hun9 := hun
  refine kM rfl rfl (kO rfl (a_ext rfl rfl (kO rfl (a_ext rfl rfl (kM rfl rfl (kM rfl rfl (i_nil (rQ (rS (kM rfl rfl (kO rfl (a_neq rfl rfl (fun _ => (i_nil (r_cond_t rfl (rS (kO rfl (a_build rfl rfl (kM rfl rfl (kZ rfl (a_sta rfl rfl .here rfl rfl rfl rfl (kM rfl rfl (i_nil (r_ret (then_r ?_))))))))))))) (fun h => absurd h (by decide))))))))))))))
  exact endc2A rfl (by decide) (List.nil_sublist _) .here rfl rfl (.inr (.inr (.inl ⟨hsys, hww, hun, rfl, rfl⟩)))
 ·have hop9 := hop
  refine kM rfl rfl (kO rfl (a_ext rfl rfl (kO rfl (a_ext rfl rfl (kM rfl rfl (kM rfl rfl (i_nil (rQ (rS (kM rfl rfl (kO rfl (a_neq rfl rfl (fun _ => (i_nil (r_cond_t rfl (rS (kO rfl (a_build rfl rfl (kM rfl rfl (kZ rfl (a_sta rfl rfl .here rfl rfl rfl rfl (kM rfl rfl (i_nil (r_ret (then_r ?_))))))))))))) (fun h => absurd h (by decide))))))))))))))
  exact endc2A rfl (by decide) (List.nil_sublist _) .here rfl rfl (.inr (.inr (.inr (.inl ⟨hsys, hww, hnu, hop, rfl, rfl⟩))))
 ·obtain ⟨hm0, hM, h400, hlm⟩ := sysE_ok hsys
  obtain ⟨M, rfl⟩ : ∃ q : Nat, m = (q : Int) := ⟨m.toNat, by omega⟩
  obtain ⟨t, p, hOp, htb, hts, hpb, bf3, bt4, bn5, O, B, rfl, rfl, hO⟩ := q1
  rw [Int.toNat_natCast, List.append_assoc, List.cons_append, List.cons_append, List.cons_append, List.nil_append]
  have hMM := hM
  change Opt ls (M + 1) (du0 w M) t p at hOp
  change ∀ v, v < M + 1 -> _ at hpb
  have hwl : w.length = M + 1 := by omega
  refine kM rfl rfl (kO rfl (a_ext rfl rfl (kO rfl (a_ext rfl rfl (kM rfl rfl (kM rfl rfl (i_nil (rQ (rS (kM rfl rfl (kO rfl (a_neq rfl rfl (fun h => absurd h (by decide)) (fun _ => (i_nil (r_cond_f rfl (r_skip (then_n (rS (kM rfl rfl (kG rfl rfl (a_inl rfl rfl bw44_at rfl ?_)))))))))))))))))))))
  unfold bw44
  refine rS (kO rfl (a_new rfl rfl (fun b11 => (i_nil (rS (kM rfl rfl (kG rfl rfl (a_inl rfl rfl bw37_at rfl ?_))))))))
  unfold bw37
  refine rS (kM rfl rfl (i_nil (rS (kM rfl rfl (i_nil (rQ (rS (kM rfl rfl (kO rfl (a_nilc rfl (kO rfl (a_fa rfl (kO rfl (a_fa rfl (kO rfl (a_ld rfl (.next (.app .here)) rfl (kO rfl (a_lenx rfl hL.spot (kM rfl rfl (i_nil (r_block ?_)))))))))))))))))))))
  refine r_loop (fun j e A => ∃ (k : Nat), e = [(0, .pointer (some ⟨bf3, 0, none⟩)), (3, .int .i64 (tot (fun i => t i * lw ls i) k)), (10, .slice al ls.length cl), (11, .int .i64 (ls.length : Int)), (12, .int .i64 (k : Int))] /\ A = (.row b11 35 false ([.int .i64 0, .slice none 0 0]) :: (nobj B (nl ls ls.length) O ++ (.row bf3 104 false ([.int .i64 (M : Int), .slice al ls.length cl, .slice (some ⟨bt4, 0, none⟩) ls.length ls.length, .slice (some ⟨bn5, 0, none⟩) (M + 1) (M + 1)]) :: (.row bn5 25 false (nsl B (nl ls ls.length) (M + 1)) :: (.row bt4 3 false (ints (xs t ls.length)) :: (.row b2 35 false ([.int .i64 0, .slice none 0 0]) :: [])))))) /\ j = ls.length - k /\ k <= ls.length) 200 0 281474976710656 ?_ (j := _) (env2 := _) (A2 := _) ?_ ?_ ?_ ?_ ⟨0, rfl, rfl, rfl, Nat.zero_le _⟩
  rotate_left
  ·omega
  ·omega
  ·exact (lc 0 rfl (lc 3 rfl (lc 10 rfl (lc 11 rfl (lc 12 rfl Less.nil)))))
  ·exact (.q (.r (.q (.q (.q (.q (.cons _ .slnil)))))))
  rintro n hn j _ _ ⟨k, rfl, rfl, rfl, hk⟩
  refine rS (kO rfl (a_lss rfl rfl (fun h12 => ?_) (fun h12 => ?_)))
  ·obtain ⟨q4, o4, y0, y1, y2, y3, ahL, hx, hat, i0, i1, i2, i3⟩ := hL.row4 (k := k) (by omega)
   have hat2 := hat
   obtain ⟨d0, d1, d2, d3, _⟩ := hat2
   have := i0.lo; have := i0.hi
   have := i1.lo; have := i1.hi
   have := i2.lo; have := i2.hi
   have := i3.lo; have := i3.hi
   have hlw9 := lw_row hx
   have hsr9 := sum_rng hlm hOp hts (show k < ls.length by omega)
   rw [hlw9] at hsr9
   refine i_nil (rQ (r_cond_t rfl (r_skip (then_n (rQ (r_block (rS (kM rfl rfl (kO rfl (a_iaA (j := k) ahL rfl rfl (by first | rfl | omega) (by first | decide | omega) (kO rfl (a_ldar rfl (by decide) (by assumption) rfl (kO rfl (a_new rfl rfl (fun b13 => (kM rfl rfl (kZ rfl (a_sta rfl rfl .here rfl rfl rfl rfl (i_nil (rI (kM rfl rfl (kM rfl rfl (kO rfl (a_nilc rfl (kO rfl (a_fa rfl (kO rfl (a_ld rfl (.next (.next (.app .here))) rfl (kM rfl rfl (kO rfl (a_ia (j := k) rfl rfl (by omega) (by omega) (kO rfl (a_ldX (x := (t) (k)) rfl (.next (.next (.app (.next (.next .here))))) (by rw [xs_len]; omega) (xs_get (by omega)) ?_)))))))))))))))))))))))))))))))))
   refine kO rfl (a_fa rfl (kO rfl (a_ld rfl .here rfl (kO rfl (a_mul rfl rfl (by omega) (kO rfl (a_add rfl rfl (by omega) (kM rfl rfl (i_nil (block_n (then_n (rI (kO rfl (a_add rfl rfl (by omega) (kM rfl rfl (i_nil (then_n ?_)))))))))))))))))
   exact ⟨rfl, _, _, _, (show ls.length - (k + 1) < ls.length - k by omega), (lc 0 rfl (lc 3 (by show some (Value.int .i64 (_ + t k * y2)) = some (Value.int .i64 (tot (fun i => t i * lw ls i) k + t k * lw ls k)); rw [hlw9]) (lc 10 rfl (lc 11 rfl (lc 12 rfl Less.nil))))), (.cons _ (.q (.r (.q (.q (.q (.q .slnil))))))), ⟨k + 1, rfl, rfl, rfl, by omega⟩⟩
  ·have hkl : k = ls.length := by omega
   subst hkl
   refine i_nil (rQ (r_cond_f rfl (r_exit (then_e (then_e (block_hit (then_n (rS (kM rfl rfl (kM rfl rfl (i_nil (r_ret (endD1 rfl .nil (kO rfl (a_build rfl rfl (kO rfl (a_new rfl rfl (fun b14 => (kZ rfl (a_sta rfl rfl .here rfl rfl rfl rfl (i_nil (rQ (rS (kM rfl rfl (kO rfl (a_nilc rfl (kO rfl (a_fa rfl (kO rfl (a_ld rfl (.next (.next (.app .here))) rfl ?_))))))))))))))))))))))))))))))
   refine kO rfl (a_len rfl (kM rfl rfl (i_nil (r_block ?_))))
   refine r_loop (fun j e A => ∃ (k : Nat) (aU : Option Addr) (n9 cp : Nat) (UL : List Ob), e = [(2, .pointer (some ⟨b11, 0, none⟩)), (3, .pointer (some ⟨b14, 0, none⟩)), (12, .slice (some ⟨bt4, 0, none⟩) ls.length ls.length), (13, .int .i64 (ls.length : Int)), (14, .int .i64 (k : Int))] /\ A = (UL ++ (.row b14 35 false ([.int .i64 (tot (fun i => t i * lw ls i) ls.length), .slice aU n9 cp]) :: (.row b11 35 false ([.int .i64 0, .slice none 0 0]) :: (nobj B (nl ls ls.length) O ++ (.row bf3 104 false ([.int .i64 (M : Int), .slice al ls.length cl, .slice (some ⟨bt4, 0, none⟩) ls.length ls.length, .slice (some ⟨bn5, 0, none⟩) (M + 1) (M + 1)]) :: (.row bn5 25 false (nsl B (nl ls ls.length) (M + 1)) :: (.row bt4 3 false (ints (xs t ls.length)) :: (.row b2 35 false ([.int .i64 0, .slice none 0 0]) :: [])))))))) /\ j = ls.length - k /\ k <= ls.length /\ n9 <= k /\ UlOk 76 aU n9 cp (ulC t k) UL) 300 0 281474976710656 ?_ (j := _) (env2 := _) (A2 := _) ?_ ?_ ?_ ?_ ⟨0, none, 0, 0, [], rfl, rfl, rfl, Nat.zero_le _, Nat.le_refl _, (.inl ⟨rfl, rfl, rfl, rfl, rfl⟩)⟩
   rotate_left
   ·omega
   ·omega
   ·exact (lc 2 rfl (lc 3 rfl (lc 12 rfl (lc 13 rfl (lc 14 rfl Less.nil)))))
   ·exact (.q (.q (.r (.q (.q (.q (.q .slnil)))))))
   rintro n hn j _ _ ⟨k, aU, n9, cp, UL, rfl, rfl, rfl, hk, hn9, hU⟩
   refine rS (kO rfl (a_lss rfl rfl (fun h15 => ?_) (fun h15 => ?_)))
   ·refine i_nil (rQ (r_cond_t rfl (r_skip (then_n (rQ (r_block (rS (kM rfl rfl (kO rfl (a_ia (j := k) rfl rfl (by omega) (by omega) (kO rfl (a_ldX (x := (t) (k)) rfl (.app (.next (.next (.app (.next (.next .here)))))) (by rw [xs_len]; omega) (xs_get (by omega)) (kM rfl rfl (kM rfl rfl (i_nil (rS (kM rfl rfl (kO rfl (a_gtr rfl rfl (fun h16 => ?_) (fun h16 => ?_))))))))))))))))))))
    ·refine i_nil (r_cond_t rfl (rI (kO rfl (a_fa rfl (kO rfl (a_ld rfl (.app .here) rfl (kM rfl rfl (kM rfl rfl (kO rfl (a_build rfl rfl (kO rfl (a_lit rfl rfl rfl (fun b17 => (kO rfl (a_appU (A1 := [_]) hU rfl rfl rfl (Src.own .here rfl (by simp)) (by decide) (by omega) (by omega) (fun b18 => (kO rfl (a_fa rfl (kZ rfl (a_st rfl rfl (.next (.next .here)) rfl rfl (i_nil (block_n (then_n (rI (kO rfl (a_add rfl rfl (by omega) (kM rfl rfl (i_nil (then_n ?_)))))))))))))))))))))))))))))
     exact ⟨rfl, _, _, _, (show ls.length - (k + 1) < ls.length - k by omega), (lc 2 rfl (lc 3 rfl (lc 12 rfl (lc 13 rfl (lc 14 rfl Less.nil))))), (.q (.cons _ (.q (.q (.r (.q (.q (.q (.q .slnil))))))))), ⟨k + 1, some ⟨b18, 0, none⟩, n9 + 1, OPEN, [.row b18 76 true (ulC t k ++ [.int .i64 (k : Int), .int .i64 (t k)])], rfl, rfl, rfl, by omega, by omega, (by rw [<- ul_yes (by assumption)]; exact .inr ⟨_, _, rfl, by omega, by rw [List.length_append, hU.len]; show _ + 2 = _; omega, .inl ⟨rfl, rfl⟩, rfl⟩)⟩⟩
    ·refine i_nil (r_cond_f rfl (r_skip (block_n (then_n (rI (kO rfl (a_add rfl rfl (by omega) (kM rfl rfl (i_nil (then_n ?_))))))))))
     exact ⟨rfl, _, _, _, (show ls.length - (k + 1) < ls.length - k by omega), (lc 2 rfl (lc 3 rfl (lc 12 rfl (lc 13 rfl (lc 14 rfl Less.nil))))), (.r (.q (.q (.r (.q (.q (.q (.q .slnil)))))))), ⟨k + 1, aU, n9, cp, UL, rfl, rfl, rfl, by omega, by omega, (ul_no (t := t) (by assumption) ▸ hU)⟩⟩
   ·have hkl : k = ls.length := by omega
    subst hkl
    refine i_nil (rQ (r_cond_f rfl (r_exit (then_e (then_e (block_hit (then_n (rS (kO rfl (a_lda rfl (by decide) (.app .here) rfl (kZ rfl (a_sta rfl rfl (.app (.next .here)) rfl rfl rfl rfl (i_nil (r_ret (endDc1 rfl (by decide) .nil (.app (.next .here)) rfl (kZ rfl (a_sta rfl rfl (.app (.next (.next (.app (.next (.next (.next .here))))))) rfl rfl rfl rfl (kM rfl rfl (i_nil (r_ret ?_))))))))))))))))))))
    exact endc2A rfl (by decide) (List.sublist_append_left _ _) (.app (.next (.next (.app (.next (.next (.next .here))))))) rfl rfl (.inr (.inr (.inr (.inr ⟨hsys, hww, hnu, t, p, _, _, _, UL, hOp, htb, hts, rfl, rfl, by omega, hU⟩))))
end
end Ev
end Go.Proofs.YtoeklhdklcpllaaGreat
namespace Go.Proofs.YtoeklhdklcpllaaGreat
open Go Go.RowKit
namespace Ev
theorem dt_all {w x : List Int} {M : Nat} (h0 : x.getD 0 0 = 0) : ∀ {k : Nat}, dt w x k = tot (fun v => x.getD v 0 * du0 w M v) k
 | 0 => rfl
 | k + 1 => by
  show dt w x k + w.getD k 0 * x.getD k 0 = tot _ k + x.getD k 0 * du0 w M k
  rw [dt_all h0 (k := k)]
  congr 1
  by_cases e : k = 0
  ·subst e; rw [h0, Int.mul_zero, Int.zero_mul]
  ·rw [show du0 w M k = w.getD k 0 from updX_ne (x := fun v => w.getD v 0) e, Int.mul_comm]
def SmC (D : Nat -> Nat -> Int) (N : Nat) (c : Int) : Prop := ∀ a b, a < N -> b < N -> D a b = 1000000000 ∨ (-c <= D a b /\ D a b <= c)
theorem Pth.bdC {ls : List (List Int)} {c : Int} (hl : ∀ i, i < ls.length -> -c <= lw ls i /\ lw ls i <= c) {a b : Nat} {L : List Nat} {w : Int} (h : Pth ls a L b w) : -(c * ((L.length : Int) + 1)) <= w /\ w <= c * ((L.length : Int) + 1) := by
 induction h with
 | one hi => have := hl _ hi; show -(c * (((0 : Nat) : Int) + 1)) <= _ /\ _ <= c * (((0 : Nat) : Int) + 1); rw [show c * (((0 : Nat) : Int) + 1) = c by omega]; exact this
 | cons hi _ ih =>
  have := hl _ hi
  rw [List.length_cons, Int.natCast_add, show ∀ n : Int, c * (n + ((1 : Nat) : Int) + 1) = c * (n + 1) + c from fun n => by rw [Int.mul_add c (n + ((1 : Nat) : Int)), Int.mul_one]; rfl]
  omega
theorem DT.smC {ls : List (List Int)} {M : Nat} {D : Nat -> Nat -> Int} {y : Nat -> Int} {c : Int} (hl : lmB (M : Int) ls = true) (h : DT ls (M + 1) D) (hy : ∀ i, i < ls.length -> y (lb ls i) <= y (la ls i) + lw ls i) (hc : ∀ i, i < ls.length -> -c <= lw ls i /\ lw ls i <= c) (h0 : 0 <= c) (hM : M <= 6) : SmC D (M + 1) (8 * c) := fun a b ha hb => by
 by_cases q : D a b = 1000000000
 ·exact .inl q
 ·right
  have hd := h a ha
  have hw := hd.way b hb q
  rcases hw.pth with ⟨e1, e2⟩ | ⟨L, hp⟩
  ·omega
  ·obtain ⟨L', w', k1, k2, k3⟩ := hp.short hy
   have k4 := k2.bdC hc
   have k5 := nodup_len k1 (k2.lt hl).2.2
   have hown := hd.own
   have k6 := (hd.walk (k2.wk (.nil (f := a))) (by omega)).2
   have h8 : c * ((L'.length : Int) + 1) <= c * 8 := Int.mul_le_mul_of_nonneg_left (by omega) h0
   omega
theorem lo_bdC {D : Nat -> Nat -> Int} {N n : Nat} {x : List Int} {c d : Int} (hD : SmC D N d) (hn : n < N) (hx : Nb x c) : ∀ {k : Nat}, k <= x.length -> k <= n -> loV D x n k = -1000000000 ∨ (-c - d <= loV D x n k /\ loV D x n k <= c + d)
 | 0, _, _ => .inl rfl
 | k + 1, hk, hkn => by
  have ih := lo_bdC hD hn hx (k := k) (by omega) (by omega)
  have h1 := hD n k hn (by omega)
  have h3 := hx k (by omega)
  show (if D n k = 1000000000 then loV D x n k else max (loV D x n k) (x.getD k 0 - D n k)) = -1000000000 ∨ (-c - d <= (if D n k = 1000000000 then loV D x n k else max (loV D x n k) (x.getD k 0 - D n k)) /\ (if D n k = 1000000000 then loV D x n k else max (loV D x n k) (x.getD k 0 - D n k)) <= c + d)
  split
  ·exact ih
  ·rcases ih with e | e
   ·by_cases e2 : x.getD k 0 - D n k <= -1000000000
    ·left; omega
    ·right; omega
   ·exact .inr (by omega)
theorem hi_bdC {D : Nat -> Nat -> Int} {N n : Nat} {x : List Int} {c d : Int} (hD : SmC D N d) (hn : n < N) (hx : Nb x c) : ∀ {k : Nat}, k <= x.length -> k <= n -> hiV D x n k = 1000000000 ∨ (-c - d <= hiV D x n k /\ hiV D x n k <= c + d)
 | 0, _, _ => .inl rfl
 | k + 1, hk, hkn => by
  have ih := hi_bdC hD hn hx (k := k) (by omega) (by omega)
  have h1 := hD k n (by omega) hn
  have h3 := hx k (by omega)
  show (if D k n = 1000000000 then hiV D x n k else min (hiV D x n k) (x.getD k 0 + D k n)) = 1000000000 ∨ (-c - d <= (if D k n = 1000000000 then hiV D x n k else min (hiV D x n k) (x.getD k 0 + D k n)) /\ (if D k n = 1000000000 then hiV D x n k else min (hiV D x n k) (x.getD k 0 + D k n)) <= c + d)
  split
  ·exact ih
  ·rcases ih with e | e
   ·by_cases e2 : 1000000000 <= x.getD k 0 + D k n
    ·left; omega
    ·right; omega
   ·exact .inr (by omega)
theorem ptL_sm {ls : List (List Int)} {M : Nat} {D : Nat -> Nat -> Int} {ps : List Int} {d : Int} (hD : DT ls (M + 1) D) (hS : Sm D (M + 1)) (hC : SmC D (M + 1) d) (hd : 0 <= d) (hM : M <= 64) : ∀ {w : Nat}, w <= M -> Nb (ptL D ps w) (d * (w : Int))
 | 0, _ => fun i hi => by
  have hi' : i < 1 := hi
  obtain rfl : i = 0 := by omega
  show -(d * ((0 : Nat) : Int)) <= (0 : Int) /\ (0 : Int) <= d * ((0 : Nat) : Int)
  omega
 | w + 1, hw => by
  have h9 := ptL_sm hD hS hC hd hM (ps := ps) (w := w) (by omega)
  obtain ⟨h1, h2, h3⟩ := ptL_ok hD hS hM (ps := ps) (w := w) (by omega)
  have hl : (ptL D ps w).length = w + 1 := ptL_len
  have hlo := lo_Lo hS (show (ptL D ps w).length < M + 1 by omega) h2 (by omega) (Nat.le_refl _)
  have hhi := hi_Hi hS (show (ptL D ps w).length < M + 1 by omega) h2 (by omega) (Nat.le_refl _)
  have blo := lo_bdC hC (n := w + 1) (by omega) h9 (k := w + 1) (by omega) (Nat.le_refl _)
  have bhi := hi_bdC hC (n := w + 1) (by omega) h9 (k := w + 1) (by omega) (Nat.le_refl _)
  have hroom := lo_hi hD (show (ptL D ps w).length < M + 1 by omega) h1 hlo hhi
  rw [hl] at hroom
  have hc := ch_in (p := pkV ps w) hroom
  have hdw : 0 <= d * (w : Int) := Int.mul_nonneg hd (by omega)
  have e1 : d * ((w + 1 : Nat) : Int) = d * (w : Int) + d := by rw [Int.natCast_add, Int.mul_add, Int.natCast_one, Int.mul_one]
  intro i hi
  rw [e1]
  show -(d * (w : Int) + d) <= (ptL D ps w ++ [_]).getD i 0 /\ (ptL D ps w ++ [_]).getD i 0 <= d * (w : Int) + d
  have hi' : i < w + 2 := by rw [ptL_len] at hi; exact hi
  rw [List.getD_eq_getElem?_getD]
  by_cases q : i < w + 1
  ·rw [List.getElem?_append_left (by omega), <- List.getD_eq_getElem?_getD]
   have := h9 i (by omega)
   omega
  ·rw [List.getElem?_append_right (by omega), show i - (ptL D ps w).length = 0 by omega]
   show -(d * (w : Int) + d) <= chZ _ _ _ /\ chZ _ _ _ <= _
   have := hc.2.2
   omega
theorem opt_same {ls : List (List Int)} {N : Nat} {w t p t2 p2 : Nat -> Int} (h : Opt ls N w t p) (h2 : Opt ls N w t2 p2) (hN : ∀ i, i < ls.length -> la ls i < N /\ lb ls i < N) : tot (fun i => t i * lw ls i) ls.length = tot (fun i => t2 i * lw ls i) ls.length := by
 have a1 := h.eq hN
 have a2 := h2.eq hN
 have a3 := h.le hN h2.st
 have a4 := h2.le hN h.st
 omega
theorem hN_of {ls : List (List Int)} {M : Nat} (hl : lmB (M : Int) ls = true) : ∀ i, i < ls.length -> la ls i < M + 1 /\ lb ls i < M + 1 := fun i hi => by
 obtain ⟨h1, h2, _⟩ := lg_of hl i hi
 exact ⟨h1, h2⟩
theorem opt_pt {ls : List (List Int)} {M : Nat} {w t : Nat -> Int} {x : List Int} (hl : lmB (M : Int) ls = true) (h : Opt ls (M + 1) w t (fun v => x.getD v 0)) (hx : x.length = M + 1) (h0 : x.getD 0 0 = 0) (hb : ∀ v, v < M + 1 -> -1280000 <= x.getD v 0 /\ x.getD v 0 <= 1280000) : ptB (M : Int) ls x = true /\ inB (-1280000) 1280000 x = true := by
 have hin : inB (-1280000) 1280000 x = true := in_upto (k := M + 1) hb (by omega)
 refine ⟨pt_yes ⟨by omega, h0⟩ (in_upto (k := M + 1) (fun u hu => by have := hb u hu; omega) (by omega)) ?_, hin⟩
 have key : ∀ d k, k + d = ls.length -> kpB x (ls.drop k) = true := by
  intro d
  induction d with
  | zero => intro k hk; rw [List.drop_eq_nil_of_le (by omega)]; rfl
  | succ d ih =>
   intro k hk
   have hL := lim_of hl (show k < ls.length by omega)
   obtain ⟨y3, e⟩ := hL.row
   rw [kp_step e, ih (k + 1) (by omega), Bool.and_true, Int.toNat_natCast, Int.toNat_natCast]
   refine decide_eq_true ?_
   have := h.st k (by omega)
   have : x.getD (lb ls k) 0 <= x.getD (la ls k) 0 + lw ls k := this
   omega
 exact key ls.length 0 (by omega)
theorem ad_le {ls us : List (List Int)} {w x : List Int} {M : Nat} {bd : Int} (hl : lmB (M : Int) ls = true) (h : AdP ls us w M bd) (hx : x.getD 0 0 = 0) (hk : ∀ i, i < ls.length -> x.getD (lb ls i) 0 <= x.getD (la ls i) 0 + lw ls i) : dt w x (M + 1) <= bd := by
 obtain ⟨h1, h2, h3⟩ := h.tau (lg_of hl)
 have h4 := dual_le (ts := ls) (x := fun v => x.getD v 0) h1 hk
 have e := dot_net (ts := ls) (t := tau us us.length) (x := fun v => x.getD v 0) (N := M + 1) (k := ls.length) (hN_of hl)
 have e2 : tot (fun v => x.getD v 0 * du0 w M v) (M + 1) = tot (fun v => (fun v => x.getD v 0) v * net ls (tau us us.length) ls.length v) (M + 1) := tot_congr (fun v hv => by rw [h2 v hv])
 rw [dt_all hx (M := M), e2, e, <- h3]
 exact h4
theorem ad_opt {ls us : List (List Int)} {w : List Int} {M : Nat} {bd : Int} {t p : Nat -> Int} (hl : lmB (M : Int) ls = true) (h : AdP ls us w M bd) (ho : Opt ls (M + 1) (du0 w M) t p) : tot (fun i => t i * lw ls i) ls.length <= bd := by
 obtain ⟨h1, h2, h3⟩ := h.tau (lg_of hl)
 have h4 := dual_le (ts := ls) (x := p) h1 ho.st
 have e := dot_net (ts := ls) (t := tau us us.length) (x := p) (N := M + 1) (k := ls.length) (hN_of hl)
 have e2 : tot (fun v => p v * du0 w M v) (M + 1) = tot (fun v => p v * net ls (tau us us.length) ls.length v) (M + 1) := tot_congr (fun v hv => by rw [h2 v hv])
 rw [<- ho.eq (hN_of hl), e2, e, <- h3]
 exact h4
theorem ad_opn {ls us : List (List Int)} {w : List Int} {M : Nat} {bd : Int} (hl : lmB (M : Int) ls = true) (h : AdP ls us w M bd) (ho : Opn ls (M + 1) (du0 w M)) : False := by
 obtain ⟨h1, h2, _⟩ := h.tau (lg_of hl)
 exact ho.not (hN_of hl) h1 h2
theorem dt_opt {ls : List (List Int)} {w x : List Int} {M : Nat} {t p : Nat -> Int} (hl : lmB (M : Int) ls = true) (ho : Opt ls (M + 1) (du0 w M) t p) (hx : x.getD 0 0 = 0) (hk : ∀ i, i < ls.length -> x.getD (lb ls i) 0 <= x.getD (la ls i) 0 + lw ls i) : dt w x (M + 1) <= tot (fun i => t i * lw ls i) ls.length := by
 rw [dt_all hx (M := M)]
 exact ho.le (hN_of hl) (x := fun v => x.getD v 0) hk
theorem dt_best {ls : List (List Int)} {w x : List Int} {M : Nat} {t p t2 : Nat -> Int} (hl : lmB (M : Int) ls = true) (ho : Opt ls (M + 1) (du0 w M) t p) (h2 : Opt ls (M + 1) (du0 w M) t2 (fun v => x.getD v 0)) (hx : x.getD 0 0 = 0) : dt w x (M + 1) = tot (fun i => t i * lw ls i) ls.length := by
 rw [dt_all hx (M := M), opt_same ho h2 (hN_of hl)]
 exact h2.eq (hN_of hl)
theorem ulL_row {t : Nat -> Int} : ∀ {k : Nat}, ∀ r ∈ ulL t k, ∃ i : Nat, i < k /\ r = [(i : Int), t i]
 | 0, r, h => by cases h
 | k + 1, r, h => by
  by_cases c : 0 < t k
  ·rw [show ulL t (k + 1) = ulL t k ++ [[(k : Int), t k]] from if_pos c] at h
   rcases List.mem_append.1 h with q | q
   ·obtain ⟨i, hi, e⟩ := ulL_row r q
    exact ⟨i, by omega, e⟩
   ·rw [List.mem_singleton] at q
    exact ⟨k, by omega, q⟩
  ·rw [show ulL t (k + 1) = ulL t k from if_neg c] at h
   obtain ⟨i, hi, e⟩ := ulL_row r h
   exact ⟨i, by omega, e⟩
theorem ulC_len {t : Nat -> Int} : ∀ {k : Nat}, (ulC t k).length = (ulL t k).length * 2
 | 0 => rfl
 | k + 1 => by
  by_cases c : 0 < t k
  ·rw [show ulC t (k + 1) = ulC t k ++ [.int .i64 (k : Int), .int .i64 (t k)] from if_pos c, show ulL t (k + 1) = ulL t k ++ [[(k : Int), t k]] from if_pos c, List.length_append, List.length_append, ulC_len]
   show _ + 2 = (_ + 1) * 2; omega
  ·rw [show ulC t (k + 1) = ulC t k from if_neg c, show ulL t (k + 1) = ulL t k from if_neg c]; exact ulC_len
theorem ulC_get {t : Nat -> Int} : ∀ {k q : Nat}, q < (ulL t k).length -> (ulC t k)[q * 2]? = some (.int .i64 (((ulL t k).getD q []).getD 0 0)) /\ (ulC t k)[q * 2 + 1]? = some (.int .i64 (((ulL t k).getD q []).getD 1 0))
 | 0, q, h => by cases h
 | k + 1, q, h => by
  by_cases c : 0 < t k
  ·rw [show ulC t (k + 1) = ulC t k ++ [.int .i64 (k : Int), .int .i64 (t k)] from if_pos c]
   rw [show ulL t (k + 1) = ulL t k ++ [[(k : Int), t k]] from if_pos c, List.length_append] at *
   have h : q < (ulL t k).length + 1 := h
   by_cases e : q < (ulL t k).length
   ·rw [List.getElem?_append_left (by rw [ulC_len]; omega), List.getElem?_append_left (by rw [ulC_len]; omega), ap_old e]
    exact ulC_get e
   ·obtain rfl : q = (ulL t k).length := by omega
    rw [List.getElem?_append_right (by rw [ulC_len]; omega), List.getElem?_append_right (by rw [ulC_len]; omega), ulC_len, Nat.sub_self, show (ulL t k).length * 2 + 1 - (ulL t k).length * 2 = 1 by omega, ap_new]
    exact ⟨rfl, rfl⟩
  ·rw [show ulC t (k + 1) = ulC t k from if_neg c]
   rw [show ulL t (k + 1) = ulL t k from if_neg c] at *
   exact ulC_get h
theorem UlOk.rows {TU : Nat} {s0 s : St} {a : Option Addr} {n c k : Nat} {t : Nat -> Int} {UL A : List Ob} (h : UlOk TU a n c (ulC t k) UL) (hA : UL.Sublist A) (hs : Hld s0 A s) (hk : k <= 1000000) (ht : ∀ i, i < k -> 0 <= t i /\ t i <= 3600000000000) : RowsE s 2 a (ulL t k) /\ n = (ulL t k).length := by
 have hlen := h.len
 rw [ulC_len] at hlen
 have hn : n = (ulL t k).length := by omega
 refine ⟨?_, hn⟩
 have hf : ∀ r ∈ ulL t k, r.length = 2 /\ ∀ x ∈ r, -9223372036854775808 <= x /\ x < 9223372036854775808 := fun r hr => by
  obtain ⟨i, hi, rfl⟩ := ulL_row r hr
  have := ht i hi
  refine ⟨rfl, fun x hx => ?_⟩
  simp only [List.mem_cons, List.not_mem_nil, or_false] at hx
  omega
 have hL : ∀ {k : Nat}, (ulL t k).length <= k := fun {k} => by
  induction k with
  | zero => exact Nat.le_refl _
  | succ k ih =>
   by_cases c : 0 < t k
   ·rw [show ulL t (k + 1) = ulL t k ++ [[(k : Int), t k]] from if_pos c, List.length_append]; show _ + 1 <= _; omega
   ·rw [show ulL t (k + 1) = ulL t k from if_neg c]; omega
 have hL' := hL (k := k)
 rcases h with ⟨rfl, h0, _, h3, _⟩ | ⟨b, op, rfl, h0, _, _, hU⟩
 ·have e : ulL t k = [] := List.eq_nil_of_length_eq_zero (by omega)
  rw [e]
  exact ⟨fun b hb => (by cases hb), fun q => absurd rfl q, fun b o hb i r hr => (by cases hb), fun r hr => (by cases hr), fun r hr => (by cases hr), (by simp)⟩
 ·refine ⟨fun c hc => (by cases hc; rfl), fun _ => ⟨b, 0, rfl⟩, fun c o hc i r hr => ?_, fun r hr => (hf r hr).1, fun r hr => (hf r hr).2, by omega⟩
  cases hc
  have ho := (hs.sub hA).own (show Own UL b TU op (ulC t k) by rw [hU]; exact .here)
  obtain ⟨hi, e1⟩ := List.getElem?_eq_some_iff.1 hr
  have e2 : (ulL t k).getD i [] = r := by rw [List.getD_eq_getElem?_getD, hr]; rfl
  obtain ⟨g0, g1⟩ := ulC_get (t := t) (k := k) hi
  rw [e2] at g0 g1
  obtain ⟨z, hz, rfl⟩ := ulL_row r (List.mem_of_getElem? hr)
  exact ho.ats (fun j hj => by
   have hj' : j < 2 := hj
   match j, hj' with
   | 0, _ => rw [show 0 + i * 2 + 0 = i * 2 by omega, g0]; rfl
   | 1, _ => rw [show 0 + i * 2 + 1 = i * 2 + 1 by omega, g1]; rfl)
section
variable {X : FuncId -> List Value -> St -> (Value -> St -> Bool) -> Bool}
end
end Ev
end Go.Proofs.YtoeklhdklcpllaaGreat
namespace Go.Proofs.YtoeklhdklcpllaaGreat
open Go Go.RowKit
namespace Ev
def modN (x m : Int) : Int := (x.tmod m + m).tmod m
theorem modN_bd {x m : Int} (h : 0 < m) : 0 <= modN x m /\ modN x m < m := by
 have h1 := tmodP_bd (x := x) h
 unfold modN
 exact ⟨Int.tmod_nonneg m (by omega), Int.tmod_lt_of_pos _ h⟩
theorem modN_sm {x m : Int} (h : 0 <= x) (h2 : x < m) : modN x m = x := by
 unfold modN
 rw [Int.tmod_eq_emod_of_nonneg h, Int.emod_eq_of_lt h h2, Int.tmod_eq_emod_of_nonneg (by omega), Int.add_emod_right, Int.emod_eq_of_lt h h2]
theorem modN_up {x m : Int} (h : m <= x) (h0 : 0 < m) (h2 : x < m + m) : modN x m = x - m := by
 have e1 : x.tmod m = x - m := by
  have e : x = (x - m) + m := by omega
  have e2 : x % m = x - m := by
   rw [e, Int.add_emod_right, Int.emod_eq_of_lt (by omega) (by omega)]; omega
  rw [Int.tmod_eq_emod_of_nonneg (by omega), e2]
 unfold modN
 rw [e1, Int.tmod_eq_emod_of_nonneg (by omega), Int.add_emod_right, Int.emod_eq_of_lt (by omega) (by omega)]
def mdM (r0 : Int) : Nat := (1 + modN r0 6).toNat
theorem mdM_bd {r0 : Int} : 1 <= mdM r0 /\ mdM r0 <= 6 /\ 1 + modN r0 6 = (mdM r0 : Int) := by
 have := modN_bd (x := r0) (m := 6) (by decide)
 unfold mdM; omega
def mdRow (M : Nat) (y0 y1 y2 y3 : Int) : List Int := [modN y0 ((M : Int) + 1), modN (modN y0 ((M : Int) + 1) + 1 + modN y1 (M : Int)) ((M : Int) + 1), modN y2 141 - 40, 1 + modN y3 6]
def mdR (M : Nat) (r : List Int) : List Int := mdRow M (r.getD 0 0) (r.getD 1 0) (r.getD 2 0) (r.getD 3 0)
def mdL (M : Nat) (rs : List (List Int)) : List (List Int) := (rs.take 20).map (mdR M)
def mdK (M : Nat) (rs : List (List Int)) (k : Nat) : List (List Int) := (rs.take k).map (mdR M)
theorem mdK_len {M : Nat} {rs : List (List Int)} {k : Nat} (h : k <= rs.length) : (mdK M rs k).length = k := by unfold mdK; rw [List.length_map, List.length_take]; omega
theorem mdL_len {M : Nat} {rs : List (List Int)} : (mdL M rs).length <= 20 := by unfold mdL; rw [List.length_map, List.length_take]; omega
theorem mdK_step {M : Nat} {rs : List (List Int)} {k : Nat} {y0 y1 y2 y3 : Int} (h : rs[k]? = some [y0, y1, y2, y3]) : mdK M rs (k + 1) = mdK M rs k ++ [mdRow M y0 y1 y2 y3] := by
 unfold mdK
 rw [List.take_add_one, h, List.map_append]; rfl
theorem limC_row {y0 y1 y2 y3 : Int} : limC [[y0, y1, y2, y3]] = [.int .i64 y0, .int .i64 y1, .int .i64 y2, .int .i64 y3] := by kernel_rfl
theorem mdK_app {M : Nat} {rs : List (List Int)} {k : Nat} {y0 y1 y2 y3 : Int} (h : rs[k]? = some [y0, y1, y2, y3]) : limC (mdK M rs k) ++ [.int .i64 (modN y0 ((M : Int) + 1)), .int .i64 (modN (modN y0 ((M : Int) + 1) + 1 + modN y1 (M : Int)) ((M : Int) + 1)), .int .i64 (modN y2 141 - 40), .int .i64 (1 + modN y3 6)] = limC (mdK M rs (k + 1)) := by
 rw [mdK_step h, limC_app]
 congr 1
 exact limC_row.symm
theorem mdK_20 {M : Nat} {rs : List (List Int)} : mdK M rs 20 = mdL M rs := rfl
theorem mdK_all {M : Nat} {rs : List (List Int)} (h : rs.length <= 20) : mdK M rs rs.length = mdL M rs := by
 unfold mdK mdL
 rw [List.take_of_length_le (Nat.le_refl _), List.take_of_length_le h]
theorem md_ok {M : Nat} {r : List Int} (h1 : 1 <= M) (h2 : M <= 6) : ∃ y0 y1 y2 y3 : Int, mdR M r = [y0, y1, y2, y3] /\ ((0 <= (M : Int) /\ (M : Int) <= 64) /\ (0 <= y0 /\ y0 <= M) /\ (0 <= y1 /\ y1 <= M) /\ ¬ y0 = y1 /\ (-20000 <= y2 /\ y2 <= 20000) /\ (1 <= y3 /\ y3 <= 99999)) /\ (-100 <= y2 /\ y2 <= 100) /\ (1 <= y3 /\ y3 <= 6) := by
 have a0 := modN_bd (x := r.getD 0 0) (m := (M : Int) + 1) (by omega)
 have a1 := modN_bd (x := r.getD 1 0) (m := (M : Int)) (by omega)
 have a2 := modN_bd (x := r.getD 2 0) (m := 141) (by decide)
 have a3 := modN_bd (x := r.getD 3 0) (m := 6) (by decide)
 have a4 := modN_bd (x := modN (r.getD 0 0) ((M : Int) + 1) + 1 + modN (r.getD 1 0) (M : Int)) (m := (M : Int) + 1) (by omega)
 have ne : ¬ modN (r.getD 0 0) ((M : Int) + 1) = modN (modN (r.getD 0 0) ((M : Int) + 1) + 1 + modN (r.getD 1 0) (M : Int)) ((M : Int) + 1) := by
  by_cases c : modN (r.getD 0 0) ((M : Int) + 1) + 1 + modN (r.getD 1 0) (M : Int) < (M : Int) + 1
  ·rw [modN_sm (x := modN (r.getD 0 0) ((M : Int) + 1) + 1 + modN (r.getD 1 0) (M : Int)) (by omega) c]; omega
  ·rw [modN_up (x := modN (r.getD 0 0) ((M : Int) + 1) + 1 + modN (r.getD 1 0) (M : Int)) (by omega) (by omega) (by omega)]; omega
 exact ⟨_, _, _, _, rfl, ⟨by omega, by omega, by omega, ne, by omega, by omega⟩, by omega, by omega⟩
theorem mdL_row {M : Nat} {rs : List (List Int)} {k : Nat} {y : List Int} (h : (mdL M rs)[k]? = some y) : ∃ r, y = mdR M r := by
 unfold mdL at h
 rw [List.getElem?_map] at h
 cases q : (rs.take 20)[k]? with
 | none => rw [q] at h; cases h
 | some r => rw [q] at h; cases h; exact ⟨r, rfl⟩
theorem mdL_lm {M : Nat} {rs : List (List Int)} (h1 : 1 <= M) (h2 : M <= 6) : lmB (M : Int) (mdL M rs) = true := by
 have key : ∀ k, k <= (mdL M rs).length -> lmB (M : Int) (mdL M rs) = lmB (M : Int) ((mdL M rs).drop k) := by
  intro k
  induction k with
  | zero => intro _; rfl
  | succ k ih =>
   intro hk
   have hx := List.getElem?_eq_getElem (l := mdL M rs) (i := k) (by omega)
   obtain ⟨r, hr⟩ := mdL_row hx
   obtain ⟨y0, y1, y2, y3, e, hc, _⟩ := md_ok (r := r) h1 h2
   rw [hr, e] at hx
   exact lmB_good hx (ih (by omega)) hc
 exact lmB_end (key _ (Nat.le_refl _)) (Nat.le_refl _)
theorem mdL_w {M : Nat} {rs : List (List Int)} (h1 : 1 <= M) (h2 : M <= 6) : ∀ i, i < (mdL M rs).length -> -100 <= lw (mdL M rs) i /\ lw (mdL M rs) i <= 100 := fun i hi => by
 have hx := List.getElem?_eq_getElem (l := mdL M rs) (i := i) hi
 obtain ⟨r, hr⟩ := mdL_row hx
 obtain ⟨y0, y1, y2, y3, e, hc, hd, _⟩ := md_ok (r := r) h1 h2
 rw [hr, e] at hx
 rw [lw_row hx]; exact hd
theorem mdL_fit {M : Nat} {rs : List (List Int)} (h1 : 1 <= M) (h2 : M <= 6) : ∀ r ∈ mdL M rs, r.length = 4 /\ ∀ x ∈ r, -9223372036854775808 <= x /\ x < 9223372036854775808 := fun r hr => by
 obtain ⟨k, hk, e⟩ := List.mem_iff_getElem.1 hr
 obtain ⟨q, hq⟩ := mdL_row (List.getElem?_eq_getElem hk)
 obtain ⟨y0, y1, y2, y3, e2, hc, _⟩ := md_ok (r := q) h1 h2
 rw [<- e, hq, e2]
 refine ⟨rfl, fun x hx => ?_⟩
 simp only [List.mem_cons, List.not_mem_nil, or_false] at hx
 omega
theorem mdL_sys {M : Nat} {rs : List (List Int)} (h1 : 1 <= M) (h2 : M <= 6) : sysE (M : Int) (mdL M rs) = 0 := by
 have := mdL_len (M := M) (rs := rs)
 unfold sysE
 rw [if_pos (by omega), if_neg (by omega), if_pos (mdL_lm h1 h2)]
def TlR (TT : Nat) (a : Option Addr) (n c : Nat) (ts : List (List Int)) (TL : List Ob) : Prop := (a = none /\ n = 0 /\ c = 0 /\ ts = [] /\ TL = []) ∨ ∃ b op, a = some ⟨b, 0, none⟩ /\ 0 < n /\ ts.length = n /\ Tight op n c /\ TL = [.row b TT op (limC ts)]
theorem TlR.ok {TT : Nat} {a : Option Addr} {n c : Nat} {ts : List (List Int)} {TL : List Ob} (h : TlR TT a n c ts TL) : TlOk TT a ts TL /\ n = ts.length /\ (a = none -> c = 0) := by
 rcases h with ⟨rfl, rfl, rfl, rfl, rfl⟩ | ⟨b, op, rfl, h0, h1, h2, rfl⟩
 ·exact ⟨.inl ⟨rfl, rfl, fun b hb => by cases hb⟩, rfl, fun _ => rfl⟩
 ·exact ⟨.inr ⟨b, op, rfl, rfl⟩, h1.symm, fun q => by cases q⟩
theorem TlR.spot {TT : Nat} {a : Option Addr} {n c : Nat} {ts : List (List Int)} {TL : List Ob} (h : TlR TT a n c ts TL) : ∀ b, a = some b -> b.spot = none := fun b hb => by
 rcases h with ⟨rfl, _⟩ | ⟨b', op, rfl, _⟩
 ·cases hb
 ·cases hb; rfl
theorem a_appT {P : Program} {C : Nat -> (CF -> Bool) -> Bool} {X : FuncId -> List Value -> St -> (Value -> St -> Bool) -> Bool} {s0 : St} {n nt : Nat} {env : List (Nat × Value)} {A A1 A2 UL : List Ob} {R : Value -> List Ob -> Prop} {TU k c : Nat} {a : Option Addr} {ts : List (List Int)} {more z : List Value} {x y : Ev.X} {yv : Value} (hU : TlR TU a k c ts UL) (hA : A = A1 ++ (UL ++ A2)) (hx : xv env x = some (.slice a k c)) (hy : xv env y = some yv) (hsrc : Src s0 A 4 1 more yv) (hm : (1 : Nat) ≠ 0) (hb1 : k + 1 <= 1048576) (hb2 : 32 * (k + 1) <= 1073741824)
 (h : ∀ b, R (.slice (some ⟨b, 0, none⟩) (k + 1) OPEN) (.row b TU true (limC ts ++ more) :: (A1 ++ A2))) : OpA P C X s0 n nt (.app TU 4 32 z false x y) env A R := by
 rcases hU with ⟨rfl, rfl, rfl, rfl, rfl⟩ | ⟨b, op, rfl, h0, hl, ht, rfl⟩
 ·subst hA
  exact a_appn hx hy hsrc hm (by omega) (by omega) (fun b => by have := h b; exact this)
 ·subst hA
  have hd : Del (A1 ++ ([.row b TU op (limC ts)] ++ A2)) b TU op (limC ts) (A1 ++ A2) := by
   clear hsrc h
   induction A1 with
   | nil => exact .here
   | cons q A1 ih => exact .next ih
  exact a_app hx hy hsrc hd (by rw [limC_len, hl]) ht hm (by omega) (by omega) h
def IlR (TT : Nat) (a : Option Addr) (n c : Nat) (l : List Int) (TL : List Ob) : Prop := (a = none /\ n = 0 /\ c = 0 /\ l = [] /\ TL = []) ∨ ∃ b op, a = some ⟨b, 0, none⟩ /\ 0 < n /\ l.length = n /\ Tight op n c /\ TL = [.row b TT op (ints l)]
theorem a_appI {P : Program} {C : Nat -> (CF -> Bool) -> Bool} {X : FuncId -> List Value -> St -> (Value -> St -> Bool) -> Bool} {s0 : St} {n nt : Nat} {env : List (Nat × Value)} {A A1 A2 UL : List Ob} {R : Value -> List Ob -> Prop} {TU k c : Nat} {a : Option Addr} {l : List Int} {more z : List Value} {x y : Ev.X} {yv : Value} (hU : IlR TU a k c l UL) (hA : A = A1 ++ (UL ++ A2)) (hx : xv env x = some (.slice a k c)) (hy : xv env y = some yv) (hsrc : Src s0 A 1 1 more yv) (hm : (1 : Nat) ≠ 0) (hb1 : k + 1 <= 1048576) (hb2 : 8 * (k + 1) <= 1073741824)
 (h : ∀ b, R (.slice (some ⟨b, 0, none⟩) (k + 1) OPEN) (.row b TU true (ints l ++ more) :: (A1 ++ A2))) : OpA P C X s0 n nt (.app TU 1 8 z false x y) env A R := by
 rcases hU with ⟨rfl, rfl, rfl, rfl, rfl⟩ | ⟨b, op, rfl, h0, hl, ht, rfl⟩
 ·subst hA
  exact a_appn hx hy hsrc hm (by omega) (by omega) (fun b => by have := h b; exact this)
 ·subst hA
  have hd : Del (A1 ++ ([.row b TU op (ints l)] ++ A2)) b TU op (ints l) (A1 ++ A2) := by
   clear hsrc h
   induction A1 with
   | nil => exact .here
   | cons q A1 ih => exact .next ih
  exact a_app hx hy hsrc hd (by rw [ints_len, hl, Nat.mul_one]) ht hm (by omega) (by omega) h
def wgV (l : List Int) (i : Nat) : Int := if l.length = 0 then 0 else modN (l.getD (i % l.length) 0) 61 - 30
def wgL (l : List Int) (k : Nat) : List Int := (List.range k).map (wgV l)
theorem wgL_len {l : List Int} {k : Nat} : (wgL l k).length = k := by simp [wgL]
theorem wgL_step {l : List Int} {k : Nat} : wgL l (k + 1) = wgL l k ++ [wgV l k] := by unfold wgL; rw [List.range_succ, List.map_append]; rfl
theorem wgL_app {l : List Int} {k : Nat} {z : Int} (h : z = wgV l k) : ints (wgL l k) ++ [.int .i64 z] = ints (wgL l (k + 1)) := by rw [wgL_step, h]; unfold ints; rw [List.map_append]; rfl
theorem wgV_bd {l : List Int} {i : Nat} : -30 <= wgV l i /\ wgV l i <= 30 := by
 unfold wgV
 split
 ·omega
 ·have := modN_bd (x := l.getD (i % l.length) 0) (m := 61) (by decide)
  omega
theorem wgL_get {l : List Int} {k i : Nat} (h : i < k) : (wgL l k).getD i 0 = wgV l i := by
 unfold wgL
 rw [List.getD_eq_getElem?_getD, List.getElem?_map, List.getElem?_range h]; rfl
theorem wgL_ok {l : List Int} {k : Nat} (hk : k <= 1000000) : WOk (wgL l k) (wgL l k).length := by
 have key : ∀ i, i <= k -> szs (wgL l k) i <= 30 * (i : Int) := by
  intro i
  induction i with
  | zero => intro _; exact Int.le_refl _
  | succ i ih =>
   intro hi
   have a1 := ih (by omega)
   have a2 := wgV_bd (l := l) (i := i)
   show szs (wgL l k) i + max ((wgL l k).getD i 0) (-((wgL l k).getD i 0)) <= _
   rw [wgL_get (by omega)]; omega
 intro i hi
 rw [wgL_len] at hi
 have := key (i + 1) (by omega)
 omega
theorem wgL_fit {l : List Int} {k : Nat} : ∀ z ∈ wgL l k, -9223372036854775808 <= z /\ z < 9223372036854775808 := fun z hz => by
 obtain ⟨i, _, rfl⟩ := List.mem_map.1 hz
 have := wgV_bd (l := l) (i := i)
 omega
section
variable {X : FuncId -> List Value -> St -> (Value -> St -> Bool) -> Bool}
theorem mod_s (n : Nat) (x m : Int) (s : St) (hs : Wf s) (hm : 0 < m /\ m <= 4000000000) : Spec Tryz.prog (tabK tabw) X (n + 60) 31 [.int .i64 x, .int .i64 m] s (fun v A => v = .int .i64 (modN x m) /\ A = []) := by
 refine enter bw31_at rfl hs ?_
 unfold bw31
 have hq := tmodP_bd (x := x) hm.1
 refine rS (kM rfl rfl (i_nil (rS (kM rfl rfl (kM rfl rfl (kO rfl (a_rem rfl rfl (by omega) (kM rfl rfl (kO rfl (a_add rfl rfl (by omega) (kM rfl rfl (kO rfl (a_rem rfl rfl (by omega) (kM rfl rfl (i_nil (r_ret ?_))))))))))))))))
 exact end1 rfl ⟨rfl, rfl⟩
theorem made_s (n : Nat) (r0 : Int) (ar : Option Addr) (cr : Nat) (rs : List (List Int)) (s : St) (hs : Wf s) (hn : 562949953421312 <= n) (hR : RowsE s 4 ar rs) : Spec Tryz.prog (tabK tabw) X (n + 800) 25 [.agg ⟨[.int .i64 r0, .slice ar rs.length cr]⟩] s (fun v A => ∃ al cl TL, v = .agg ⟨[.int .i64 (mdM r0 : Int), .slice al (mdL (mdM r0) rs).length cl]⟩ /\ A = TL /\ TlR 74 al (mdL (mdM r0) rs).length cl (mdL (mdM r0) rs) TL) := by
 refine enter bw25_at rfl hs ?_
 unfold bw25
 have hlen := hR.len
 obtain ⟨hM1, hM6, hMe⟩ := mdM_bd (r0 := r0)
 have hmr := modN_bd (x := r0) (m := 6) (by decide)
 generalize hMg : mdM r0 = M at *
 refine rS (kO rfl (a_box rfl rfl rfl (fun b1 => (kO rfl (a_new rfl rfl (fun b2 => (i_nil (rS (kO rfl (a_fa rfl (kO rfl (a_ld rfl (.next .here) rfl (kO rfl (a_callV rfl rfl (fun s1 h1 => mod_s _ _ _ s1 h1.wf (by omega)) (kO rfl (a_add rfl rfl (by omega) ?_))))))))))))))))
 rw [hMe]
 refine kO rfl (a_build rfl rfl (kO rfl (a_new rfl rfl (fun b3 => (kZ rfl (a_sta rfl rfl .here rfl rfl rfl rfl (i_nil (rQ (rS (kO rfl (a_fa rfl (kO rfl (a_ld rfl (.next (.next .here)) rfl (kO rfl (a_lenx rfl hR.spot (kM rfl rfl (i_nil (r_block ?_))))))))))))))))))
 refine r_loop (fun j e A => ∃ (k : Nat) (aT : Option Addr) (n9 cp : Nat) (TL : List Ob), e = [(2, .pointer (some ⟨b2, 0, none⟩)), (3, .pointer (some ⟨b3, 0, none⟩)), (14, .slice ar rs.length cr), (15, .int .i64 (rs.length : Int)), (16, .int .i64 (k : Int))] /\ A = (TL ++ (.row b3 24 false ([.int .i64 (M : Int), .slice aT n9 cp]) :: (.row b2 24 false ([.int .i64 0, .slice none 0 0]) :: []))) /\ j = rs.length - k /\ k <= rs.length /\ k <= 20 /\ n9 = k /\ TlR 74 aT n9 cp (mdK M rs k) TL) 300 0 281474976710656 ?_ (j := _) (env2 := _) (A2 := _) ?_ ?_ ?_ ?_ ⟨0, none, 0, 0, [], rfl, rfl, rfl, Nat.zero_le _, Nat.zero_le _, rfl, (.inl ⟨rfl, rfl, rfl, rfl, rfl⟩)⟩
 rotate_left
 ·omega
 ·omega
 ·exact (lc 2 rfl (lc 3 rfl (lc 14 rfl (lc 15 rfl (lc 16 rfl Less.nil)))))
 ·exact (.q (.q (.cons _ .slnil)))
 rintro n hn j _ _ ⟨k, aT, n9, cp, TL, rfl, rfl, rfl, hk, hk20, hn9, hU⟩
 have hsp9 := hU.spot
 refine rS (kO rfl (a_lss rfl rfl (fun h4 => ?_) (fun h4 => ?_)))
 ·obtain ⟨q4, o4, y0, y1, y2, y3, ahR, hx, hat, i0, i1, i2, i3⟩ := hR.row4 (k := k) (by omega)
  have hat2 := hat
  obtain ⟨d0, d1, d2, d3, _⟩ := hat2
  have m0 := modN_bd (x := y0) (m := (M : Int) + 1) (by omega)
  have m1 := modN_bd (x := y1) (m := (M : Int)) (by omega)
  have m2 := modN_bd (x := y2) (m := 141) (by decide)
  have m3 := modN_bd (x := y3) (m := 6) (by decide)
  refine i_nil (rQ (r_cond_t rfl (r_skip (then_n (rQ (r_block (rS (kM rfl rfl (kO rfl (a_iaA (j := k) ahR rfl rfl (by first | rfl | omega) (by first | decide | omega) (kO rfl (a_ldar rfl (by decide) (by assumption) rfl (kO rfl (a_new rfl rfl (fun b5 => (kM rfl rfl (kZ rfl (a_sta rfl rfl .here rfl rfl rfl rfl (i_nil (rQ (rS (kM rfl rfl (kO rfl (a_eql rfl rfl (fun h6 => ?_) (fun h6 => ?_)))))))))))))))))))))))))
  ·refine i_nil (r_cond_t rfl (r_exit (then_e (block_miss rfl (then_e (then_e (block_hit (then_n (rS (kO rfl (a_lda rfl (by decide) (.next (.app .here)) rfl (kZ rfl (a_sta rfl rfl (.next (.app (.next .here))) rfl rfl rfl rfl (i_nil (r_ret ?_)))))))))))))))
   have hz9 : mdK M rs k = mdL M rs := by
    first
     | (rw [show k = 20 by omega]; exact mdK_20)
     | (rw [show k = rs.length by omega]; exact mdK_all (by omega))
   rw [hz9] at hU
   obtain ⟨hz1, hz2, hz3⟩ := hU.ok
   exact endcA rfl (by decide) (.cons _ (List.sublist_append_left _ _)) (.next (.app (.next .here))) rfl ⟨aT, cp, TL, by rw [<- hz2], rfl, hz2 ▸ hU⟩
  ·refine i_nil (r_cond_f rfl (r_skip (then_n (rS (kO rfl (a_iaa (j := 0) rfl rfl (by decide) (by decide) (kO rfl (a_ld rfl .here rfl (kO rfl (a_fa rfl (kO rfl (a_ld rfl (.next (.app .here)) rfl (kO rfl (a_add rfl rfl (by omega) (kO rfl (a_callV rfl rfl (fun s1 h1 => mod_s _ _ _ s1 h1.wf (by omega)) (kM rfl rfl (i_nil (rS (kM rfl rfl (kO rfl (a_add rfl rfl (by omega) (kO rfl (a_iaa (j := 1) rfl rfl (by decide) (by decide) (kO rfl (a_ld rfl .here rfl (kO rfl (a_fa rfl (kO rfl (a_ld rfl (.next (.app .here)) rfl (kO rfl (a_fa rfl (kO rfl (a_ld rfl (.next (.app .here)) rfl (kO rfl (a_add rfl rfl (by omega) (kO rfl (a_callV rfl rfl (fun s1 h1 => mod_s _ _ _ s1 h1.wf (by omega)) ?_))))))))))))))))))))))))))))))))))))))
   refine kZ rfl (a_again rfl rfl (.next (.app .here)) rfl (by simp [eqV, eqA, eqL, kindEq, intEq_eq, eqV_sl hR.spot, eqV_sl hsp9]) (kO rfl (a_add rfl rfl (by omega) (kO rfl (a_callV rfl rfl (fun s1 h1 => mod_s _ _ _ s1 h1.wf (by omega)) (kM rfl rfl (i_nil (rI (kO rfl (a_fa rfl (kO rfl (a_ld rfl (.next (.app .here)) rfl (kM rfl rfl (kM rfl rfl (kO rfl (a_iaa (j := 2) rfl rfl (by decide) (by decide) (kO rfl (a_ld rfl .here rfl (kO rfl (a_iaa (j := 3) rfl rfl (by decide) (by decide) (kO rfl (a_ld rfl .here rfl (kO rfl (a_callV rfl rfl (fun s1 h1 => mod_s _ _ _ s1 h1.wf (by omega)) (kZ rfl (a_again rfl rfl .here rfl (by simp [eqV, eqA, eqL, kindEq, intEq_eq, eqV_sl hR.spot, eqV_sl hsp9]) (kZ rfl (a_again rfl rfl (.next (.app .here)) rfl (by simp [eqV, eqA, eqL, kindEq, intEq_eq, eqV_sl hR.spot, eqV_sl hsp9]) (kO rfl (a_sub rfl rfl (by omega) (kO rfl (a_callV rfl rfl (fun s1 h1 => mod_s _ _ _ s1 h1.wf (by omega)) (kZ rfl (a_again rfl rfl (.next (.app .here)) rfl (by simp [eqV, eqA, eqL, kindEq, intEq_eq, eqV_sl hR.spot, eqV_sl hsp9]) (kO rfl (a_add rfl rfl (by omega) (kO rfl (a_build rfl rfl (kO rfl (a_lit rfl rfl rfl (fun b7 => (kO rfl (a_appT (A1 := [_, _]) hU rfl rfl rfl (Src.own .here rfl (by simp)) (by decide) (by omega) (by omega) (fun b8 => ?_))))))))))))))))))))))))))))))))))))))))))))
   refine kO rfl (a_fa rfl (kZ rfl (a_st rfl rfl (.next (.next (.next .here))) rfl rfl (i_nil (block_n (then_n (rI (kO rfl (a_add rfl rfl (by omega) (kM rfl rfl (i_nil (then_n ?_))))))))))))
   exact ⟨rfl, _, _, _, (show rs.length - (k + 1) < rs.length - k by omega), (lc 2 rfl (lc 3 rfl (lc 14 rfl (lc 15 rfl (lc 16 rfl Less.nil))))), (.q (.cons _ (.cons _ (.q (.q .slnil))))), ⟨k + 1, some ⟨b8, 0, none⟩, n9 + 1, OPEN, [.row b8 74 true (limC (mdK M rs (k + 1)))], rfl, (by rw [<- mdK_app hx]; rfl), rfl, by omega, by omega, by omega, (.inr ⟨_, _, rfl, by omega, by rw [mdK_len (by omega)]; omega, .inl ⟨rfl, rfl⟩, rfl⟩)⟩⟩
 ·refine i_nil (rQ (r_cond_f rfl (r_exit (then_e (then_e (block_hit (then_n (rS (kO rfl (a_lda rfl (by decide) (.app .here) rfl (kZ rfl (a_sta rfl rfl (.app (.next .here)) rfl rfl rfl rfl (i_nil (r_ret ?_))))))))))))))
  have hz9 : mdK M rs k = mdL M rs := by
   first
    | (rw [show k = 20 by omega]; exact mdK_20)
    | (rw [show k = rs.length by omega]; exact mdK_all (by omega))
  rw [hz9] at hU
  obtain ⟨hz1, hz2, hz3⟩ := hU.ok
  exact endcA rfl (by decide) (List.sublist_append_left _ _) (.app (.next .here)) rfl ⟨aT, cp, TL, by rw [<- hz2], rfl, hz2 ▸ hU⟩
theorem weights_s (n : Nat) (M : Nat) (al : Option Addr) (cl nl9 : Nat) (a1 : Option Addr) (c1 : Nat) (l : List Int) (s : St) (hs : Wf s) (hn : 562949953421312 <= n) (hI : IntsE s a1 l) (hM : M <= 64) : Spec Tryz.prog (tabK tabw) X (n + 500) 26 [.agg ⟨[.int .i64 (M : Int), .slice al nl9 cl]⟩, .slice a1 l.length c1] s (fun v A => ∃ b op c, v = .slice (some ⟨b, 0, none⟩) (M + 1) c /\ Tight op (M + 1) c /\ A = [.row b 3 op (ints (wgL l (M + 1)))]) := by
 refine enter bw26_at rfl hs ?_
 unfold bw26
 have hlen := hI.len
 refine rS (kO rfl (a_box rfl rfl rfl (fun b1 => (kM rfl rfl (i_nil (rS (kM rfl rfl (i_nil (rQ (rS (kM rfl rfl (i_nil (r_block ?_)))))))))))))
 refine r_loop (fun j e A => ∃ (k : Nat) (aT : Option Addr) (n9 cp : Nat) (TL : List Ob), e = [(1, .slice a1 l.length c1), (2, .pointer (some ⟨b1, 0, none⟩)), (5, .slice aT n9 cp), (6, .int .i64 (k : Int))] /\ A = (TL ++ (.row b1 24 false ([.int .i64 (M : Int), .slice al nl9 cl]) :: [])) /\ j = M + 1 - k /\ k <= M + 1 /\ n9 = k /\ IlR 3 aT n9 cp (wgL l k) TL) 300 0 281474976710656 ?_ (j := _) (env2 := _) (A2 := _) ?_ ?_ ?_ ?_ ⟨0, none, 0, 0, [], rfl, rfl, rfl, Nat.zero_le _, rfl, (.inl ⟨rfl, rfl, rfl, rfl, rfl⟩)⟩
 rotate_left
 ·omega
 ·omega
 ·exact (lc 1 rfl (lc 2 rfl (lc 5 rfl (lc 6 rfl Less.nil))))
 ·exact (.q .slnil)
 rintro n hn j _ _ ⟨k, aT, n9, cp, TL, rfl, rfl, rfl, hk, hn9, hU⟩
 refine rQ (rS (kM rfl rfl (kO rfl (a_fa rfl (kO rfl (a_ld rfl (.app .here) rfl (kO rfl (a_leq rfl rfl (fun h2 => ?_) (fun h2 => ?_)))))))))
 ·refine i_nil (r_cond_t rfl (r_skip (then_n (rQ (r_block (rS (kM rfl rfl (i_nil (rQ (rS (kM rfl rfl (kO rfl (a_lenx rfl hI.spot (kO rfl (a_gtr rfl rfl (fun h3 => ?_) (fun h3 => ?_))))))))))))))))
  ·refine i_nil (r_cond_t rfl (rI (kM rfl rfl (kM rfl rfl (kM rfl rfl (kO rfl (a_lenx rfl hI.spot ?_)))))))
   have hmd9 : k % l.length < l.length := Nat.mod_lt _ (by omega)
   refine kO rfl (a_rem rfl rfl (by omega) (kO rfl (a_iaI (j := k % l.length) hI rfl rfl rfl rfl (by omega) (fun _ _ a99 => (kO rfl (a_ldr rfl (hI.at a99 (by omega)) (kO rfl (a_callV rfl rfl (fun s1 h1 => mod_s _ _ _ s1 h1.wf (by omega)) ?_))))))))
   have m9 := modN_bd (x := l.getD (k % l.length) 0) (m := 61) (by decide)
   refine kO rfl (a_sub rfl rfl (by omega) (kM rfl rfl (i_nil (then_n (rI (kM rfl rfl (kM rfl rfl (kO rfl (a_lit rfl rfl rfl (fun b5 => (kO rfl (a_appI (A1 := [_]) hU rfl rfl rfl (Src.own .here rfl (by simp)) (by decide) (by omega) (by omega) (fun b6 => (kM rfl rfl (i_nil (block_n (then_n (rI (kM rfl rfl (kO rfl (a_add rfl rfl (by omega) (kM rfl rfl (i_nil (then_n ?_))))))))))))))))))))))))
   exact ⟨rfl, _, _, _, (show M + 1 - (k + 1) < M + 1 - k by omega), (lc 1 rfl (lc 2 rfl (lc 5 rfl (lc 6 rfl Less.nil)))), (.q (.cons _ (.q .slnil))), ⟨k + 1, some ⟨b6, 0, none⟩, n9 + 1, OPEN, [.row b6 3 true (ints (wgL l (k + 1)))], rfl, (by rw [<- wgL_app (by first | exact (if_neg (by omega)).symm | exact (if_pos (by omega)).symm)]; rfl), rfl, by omega, by omega, (.inr ⟨_, _, rfl, by omega, by rw [wgL_len]; omega, .inl ⟨rfl, rfl⟩, rfl⟩)⟩⟩
  ·refine i_nil (r_cond_f rfl (r_skip (then_n (rI (kM rfl rfl (kM rfl rfl (kO rfl (a_lit rfl rfl rfl (fun b7 => (kO rfl (a_appI (A1 := [_]) hU rfl rfl rfl (Src.own .here rfl (by simp)) (by decide) (by omega) (by omega) (fun b8 => (kM rfl rfl (i_nil (block_n (then_n (rI (kM rfl rfl (kO rfl (a_add rfl rfl (by omega) (kM rfl rfl (i_nil (then_n ?_)))))))))))))))))))))))
   exact ⟨rfl, _, _, _, (show M + 1 - (k + 1) < M + 1 - k by omega), (lc 1 rfl (lc 2 rfl (lc 5 rfl (lc 6 rfl Less.nil)))), (.q (.cons _ (.q .slnil))), ⟨k + 1, some ⟨b8, 0, none⟩, n9 + 1, OPEN, [.row b8 3 true (ints (wgL l (k + 1)))], rfl, (by rw [<- wgL_app (by first | exact (if_neg (by omega)).symm | exact (if_pos (by omega)).symm)]; rfl), rfl, by omega, by omega, (.inr ⟨_, _, rfl, by omega, by rw [wgL_len]; omega, .inl ⟨rfl, rfl⟩, rfl⟩)⟩⟩
 ·refine i_nil (r_cond_f rfl (r_exit (then_e (then_e (block_hit (then_n (rS (kM rfl rfl (kM rfl rfl (i_nil (r_ret ?_)))))))))))
  have hkM : k = M + 1 := by omega
  subst hkM
  rcases hU with ⟨_, q, _⟩ | ⟨b, op, rfl, h0, h2, h3, rfl⟩
  ·exfalso; omega
  ·exact end1A rfl (List.sublist_append_left _ _) ⟨b, op, cp, by rw [hn9], hn9 ▸ h3, rfl⟩
end
end Ev
end Go.Proofs.YtoeklhdklcpllaaGreat
namespace Go.Proofs.YtoeklhdklcpllaaGreat
open Go Go.RowKit
namespace Ev
theorem Spec.imp {P : Program} {C : Nat -> (CF -> Bool) -> Bool} {X : FuncId -> List Value -> St -> (Value -> St -> Bool) -> Bool} {n : Nat} {f : FuncId} {vs : List Value} {s : St} {Q Q' : Value -> List Ob -> Prop} (h : Spec P C X n f vs s Q) (hq : ∀ v A, Q v A -> Q' v A) : Spec P C X n f vs s Q' := h.mono (fun v s' q => by obtain ⟨A, h1, h2⟩ := q; exact ⟨A, h1, hq v A h2⟩)
theorem cap_tight {s : St} {b n c : Nat} {l : List Value} {op : Bool} (ht : Tight op n c) (h : Obj s b 3 op l) (hn : n <= l.length) : CapOk s (some ⟨b, 0, none⟩) n c := by
 rcases ht with ⟨rfl, rfl⟩ | ⟨rfl, rfl, h2⟩
 ·exact CapOk.own h hn
 ·exact .inl ⟨h2, Nat.le_refl _⟩
theorem fit_in {x : List Int} (h : inB (-1280000) 1280000 x = true) : ∀ z ∈ x, -9223372036854775808 <= z /\ z < 9223372036854775808 := fun z hz => by
 have := List.all_eq_true.1 h z hz
 have := of_decide_eq_true this
 omega
section
variable {X : FuncId -> List Value -> St -> (Value -> St -> Bool) -> Bool}
theorem Most_v (n : Nat) (M : Nat) (al : Option Addr) (cl : Nat) (ls : List (List Int)) (aw : Option Addr) (cw : Nat) (w : List Int) (s : St) (hs : Wf s) (hn : 7318349394477056 <= n) (hL : RowsE s 4 al ls) (hcl : al = none -> cl = 0) (hW : IntsE s aw w) (hCap : CapOk s aw (M + 1) cw) (hsys : sysE (M : Int) ls = 0) (hwl : w.length = M + 1) (hwo : WOk w w.length) : Spec Tryz.prog (tabK tabw) X (n + 10000) 7 [.agg ⟨[.int .i64 (M : Int), .slice al ls.length cl]⟩, .slice aw (M + 1) cw] s (fun v A => (Uns ls (M + 1) /\ v = .tuple #[.int .i64 0, .int .i64 23] /\ A = []) ∨ (¬ Uns ls (M + 1) /\ Opn ls (M + 1) (du0 w M) /\ v = .tuple #[.int .i64 0, .int .i64 22] /\ A = []) ∨ (¬ Uns ls (M + 1) /\ ∃ t p, Opt ls (M + 1) (du0 w M) t p /\ tot t ls.length <= 230400000000000 /\ (∀ v, v < M + 1 -> -1300000 <= p v /\ p v <= 30000000) /\ v = .tuple #[.int .i64 (tot (fun i => t i * lw ls i) ls.length), .int .i64 0] /\ A = [])) := by
 have h := Most_s n (M : Int) al cl ls aw cw w s hs hn hL hcl hW (by rw [hwl]; exact hCap) (X := X)
 rw [hwl] at h
 refine h.imp (fun v A q => ?_)
 rcases q with ⟨q, _⟩ | ⟨_, q, _⟩ | ⟨_, _, q1, q2⟩ | ⟨_, _, q1, q2, q3⟩ | ⟨_, _, q1, q2⟩
 ·exact absurd hsys q
 ·exact absurd ⟨by omega, by rw [<- hwl]; exact hwo⟩ q
 ·exact .inl ⟨q1, q2⟩
 ·exact .inr (.inl ⟨q1, q2, q3⟩)
 ·exact .inr (.inr ⟨q1, q2⟩)
theorem Best_v (n : Nat) (M : Nat) (al : Option Addr) (cl : Nat) (ls : List (List Int)) (aw : Option Addr) (cw : Nat) (w : List Int) (s : St) (hs : Wf s) (hn : 7318349394477056 <= n) (hL : RowsE s 4 al ls) (hcl : al = none -> cl = 0) (hW : IntsE s aw w) (hCap : CapOk s aw (M + 1) cw) (hsys : sysE (M : Int) ls = 0) (hwl : w.length = M + 1) (hwo : WOk w w.length) : Spec Tryz.prog (tabK tabw) X (n + 10500) 11 [.agg ⟨[.int .i64 (M : Int), .slice al ls.length cl]⟩, .slice aw (M + 1) cw] s (fun v A => (Uns ls (M + 1) /\ v = .tuple #[.slice none 0 0, .int .i64 23] /\ A = []) ∨ (¬ Uns ls (M + 1) /\ Opn ls (M + 1) (du0 w M) /\ v = .tuple #[.slice none 0 0, .int .i64 22] /\ A = []) ∨ (¬ Uns ls (M + 1) /\ ∃ t b x, Opt ls (M + 1) (du0 w M) t (fun v => x.getD v 0) /\ tot t ls.length <= 230400000000000 /\ x.length = M + 1 /\ x.getD 0 0 = 0 /\ (∀ v, v < M + 1 -> -1280000 <= x.getD v 0 /\ x.getD v 0 <= 1280000) /\ v = .tuple #[.slice (some ⟨b, 0, none⟩) (M + 1) (M + 1), .int .i64 0] /\ A = [.row b 3 false (ints x)])) := by
 have h := Best_s n (M : Int) al cl ls aw cw w s hs hn hL hcl hW (by rw [hwl]; exact hCap) (X := X)
 rw [hwl] at h
 refine h.imp (fun v A q => ?_)
 rcases q with ⟨q, _⟩ | ⟨_, q, _⟩ | ⟨_, _, q1, q2⟩ | ⟨_, _, q1, q2, q3⟩ | ⟨_, _, q1, q2⟩
 ·exact absurd hsys q
 ·exact absurd ⟨by omega, by rw [<- hwl]; exact hwo⟩ q
 ·exact .inl ⟨q1, q2⟩
 ·exact .inr (.inl ⟨q1, q2, q3⟩)
 ·exact .inr (.inr ⟨q1, q2⟩)
theorem Prove_v (n : Nat) (M : Nat) (al : Option Addr) (cl : Nat) (ls : List (List Int)) (aw : Option Addr) (cw : Nat) (w : List Int) (s : St) (hs : Wf s) (hn : 7318349394477056 <= n) (hL : RowsE s 4 al ls) (hcl : al = none -> cl = 0) (hW : IntsE s aw w) (hCap : CapOk s aw (M + 1) cw) (hsys : sysE (M : Int) ls = 0) (hwl : w.length = M + 1) (hwo : WOk w w.length) : Spec Tryz.prog (tabK tabw) X (n + 10500) 12 [.agg ⟨[.int .i64 (M : Int), .slice al ls.length cl]⟩, .slice aw (M + 1) cw] s (fun v A => (Uns ls (M + 1) /\ v = .tuple #[.agg ⟨[.int .i64 0, .slice none 0 0]⟩, .int .i64 23] /\ A = []) ∨ (¬ Uns ls (M + 1) /\ Opn ls (M + 1) (du0 w M) /\ v = .tuple #[.agg ⟨[.int .i64 0, .slice none 0 0]⟩, .int .i64 22] /\ A = []) ∨ (¬ Uns ls (M + 1) /\ ∃ t p a n c UL, Opt ls (M + 1) (du0 w M) t p /\ (∀ i, i < ls.length -> t i <= 3600000000000) /\ tot t ls.length <= 230400000000000 /\ v = .tuple #[.agg ⟨[.int .i64 (tot (fun i => t i * lw ls i) ls.length), .slice a n c]⟩, .int .i64 0] /\ A = UL /\ n <= ls.length /\ UlOk 76 a n c (ulC t ls.length) UL)) := by
 have h := Prove_s n (M : Int) al cl ls aw cw w s hs hn hL hcl hW (by rw [hwl]; exact hCap) (X := X)
 rw [hwl] at h
 refine h.imp (fun v A q => ?_)
 rcases q with ⟨q, _⟩ | ⟨_, q, _⟩ | ⟨_, _, q1, q2⟩ | ⟨_, _, q1, q2, q3⟩ | ⟨_, _, q1, q2⟩
 ·exact absurd hsys q
 ·exact absurd ⟨by omega, by rw [<- hwl]; exact hwo⟩ q
 ·exact .inl ⟨q1, q2⟩
 ·exact .inr (.inl ⟨q1, q2, q3⟩)
 ·exact .inr (.inr ⟨q1, q2⟩)
theorem CheckProof_v (n : Nat) (M : Nat) (al : Option Addr) (cl : Nat) (ls : List (List Int)) (aw : Option Addr) (cw : Nat) (w : List Int) (ap : Option Addr) (cp nu : Nat) (us : List (List Int)) (bd : Int) (s : St) (hs : Wf s) (hn : 2814749767106560 <= n) (hL : RowsE s 4 al ls) (hW : IntsE s aw w) (hnu : nu = us.length) (hU : RowsE s 2 ap us) (hsys : sysE (M : Int) ls = 0) (hwl : w.length = M + 1) (hwo : WOk w w.length) : Spec Tryz.prog (tabK tabw) X (n + 2500) 28 [.agg ⟨[.int .i64 (M : Int), .slice al ls.length cl]⟩, .slice aw (M + 1) cw, .agg ⟨[.int .i64 bd, .slice ap nu cp]⟩] s (fun v A => (us.length <= 400 /\ AdP ls us w M bd /\ v = .int .i64 0 /\ A = []) ∨ (¬ (us.length <= 400 /\ AdP ls us w M bd) /\ v = .int .i64 24 /\ A = [])) := by
 subst hnu
 have h := CheckProof_s n (M : Int) al cl ls aw cw w ap cp us bd s hs (by omega) hL hW hU (X := X)
 rw [hwl] at h
 refine h.imp (fun v A q => ?_)
 rcases q with ⟨q, _⟩ | ⟨_, q, _⟩ | ⟨_, _, q1, q2, q3⟩ | ⟨_, _, q1, q2⟩
 ·exact absurd hsys q
 ·exact absurd ⟨by omega, by rw [<- hwl]; exact hwo⟩ q
 ·exact .inl ⟨q1, q2, q3⟩
 ·exact .inr ⟨q1, q2⟩
theorem CheckProof_k (n : Nat) (M : Nat) (al : Option Addr) (cl : Nat) (ls : List (List Int)) (aw : Option Addr) (cw : Nat) (w : List Int) (ap : Option Addr) (cp nu : Nat) (us : List (List Int)) (bd : Int) (s : St) (hs : Wf s) (hn : 2814749767106560 <= n) (hL : RowsE s 4 al ls) (hW : IntsE s aw w) (hnu : nu = us.length) (hU : RowsE s 2 ap us) (hsys : sysE (M : Int) ls = 0) (hwl : w.length = M + 1) (hwo : WOk w w.length) (h4 : us.length <= 400) (ha : AdP ls us w M bd) : Spec Tryz.prog (tabK tabw) X (n + 2500) 28 [.agg ⟨[.int .i64 (M : Int), .slice al ls.length cl]⟩, .slice aw (M + 1) cw, .agg ⟨[.int .i64 bd, .slice ap nu cp]⟩] s (fun v A => v = .int .i64 0 /\ A = []) :=
 (CheckProof_v n M al cl ls aw cw w ap cp nu us bd s hs hn hL hW hnu hU hsys hwl hwo (X := X)).imp (fun v A q => by
  rcases q with ⟨_, _, q⟩ | ⟨q, _⟩
  ·exact q
  ·exact absurd ⟨h4, ha⟩ q)
theorem Value_k (n M : Nat) (aw : Option Addr) (cw : Nat) (w : List Int) (ax : Option Addr) (cx nx : Nat) (x : List Int) (s : St) (hs : Wf s) (hn : 2814749767106560 <= n) (hM : M <= 64) (hW : IntsE s aw w) (hX : IntsE s ax x) (hwl : w.length = M + 1) (hwo : WOk w w.length) (hxl : x.length = M + 1) (hnx : nx = M + 1) (hxb : inB (-1280000) 1280000 x = true) : Spec Tryz.prog (tabK tabw) X (n + 800) 29 [.slice aw (M + 1) cw, .slice ax nx cx] s (fun v A => v = .tuple #[.int .i64 (dt w x (M + 1)), .int .i64 0] /\ A = []) := by
 subst hnx
 have h := Value_s n aw cw w ax cx x s hs (by omega) hW hX (X := X)
 have e := v_0 (w := w) (x := x) ⟨by omega, hwo⟩ ⟨by omega, hxb⟩
 rw [<- e, hwl, hxl] at h
 exact h
end
end Ev
end Go.Proofs.YtoeklhdklcpllaaGreat
