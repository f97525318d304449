import Derived.Test.YtoeklhdklcpllaaZd15
import Derived.Test.YtoeklhdklcpllaaZd09
import Derived.Test.YtoeklhdklcpllaaProg
import Derived.KernelRfl
import Derived.Test.YtoeklhdklcpllaaZd08
import Derived.Test.YtoeklhdklcpllaaZd06
set_option linter.unusedVariables false
set_option linter.unusedSimpArgs false
namespace Go.Proofs.Ytoeklhdklcpllaa
open Go Go.RowKit
namespace Ev
theorem best_ex {ls : List (List Int)} {M : Nat} {w t p : Nat -> Int} (hl : lmB (M : Int) ls = true) (hM : M <= 64) (h : Opt ls (M + 1) w t p) : ∃ x : List Int, x.length = M + 1 /\ x.getD 0 0 = 0 /\ Opt ls (M + 1) w t (fun v => x.getD v 0) /\ ∀ v, v < M + 1 -> -1280000 <= x.getD v 0 /\ x.getD v 0 <= 1280000 := by
 have hg := lg_of hl
 have he := stb_end hg h.nn h.st h.ti
 have hb := rb_bd (st_rnd hg h.nn (r := M)).1 hg (stb_neg hg h.nn (r := M)) (rl_pot (t := t) h.st h.ti) (fun i hi => lw_bd' hl hi) hM
 refine ⟨_, best_fin (k := 0) (x := (List.range (M + 1)).map fun v => (stB ls t (M + 1) (M + 1)).x v + -((stB ls t (M + 1) (M + 1)).x 0)) hg h hb he ⟨by simp [xs_len], fun i hi => ?_⟩⟩
 rw [xs_len] at hi
 rw [xs_get hi, List.getD_eq_getElem?_getD, List.getElem?_map, List.getElem?_range hi]; rfl
theorem sum_small {ls : List (List Int)} {M : Nat} {w : List Int} {t p : Nat -> Int} (hl : lmB (M : Int) ls = true) (hM : M <= 64) (h : Opt ls (M + 1) (du0 w M) t p) (hz : szs w (M + 1) <= 210) : -268800000 <= tot (fun i => t i * lw ls i) ls.length /\ tot (fun i => t i * lw ls i) ls.length <= 268800000 := by
 obtain ⟨x, x1, x2, x3, x4⟩ := best_ex hl hM h
 have e := dt_best hl h x3 x2
 have := dt_bd2 (w := w) (n := M + 1) x4 (k := M + 1) (Nat.le_refl _)
 omega
theorem pw_ng {w : List Int} : ∀ {k : Nat}, pw (NG w) k = - pw w k
 | 0 => rfl
 | k + 1 => by
  show pw (NG w) k + ((NG w).drop 1).getD k 0 = -(pw w k + (w.drop 1).getD k 0)
  rw [pw_ng, drop_get, drop_get, ng_get]; omega
theorem du_ng {w : List Int} {M v : Nat} : du0 (NG w) M v = - du0 w M v := by
 unfold du0
 by_cases e : v = 0
 ·subst e; rw [updX_eq, updX_eq, pw_ng]; omega
 ·rw [updX_ne e, updX_ne e]; exact ng_get
theorem tot_neg {f : Nat -> Int} : ∀ {N : Nat}, tot (fun i => - f i) N = - tot f N
 | 0 => rfl
 | N + 1 => by show tot (fun i => - f i) N + - f N = -(tot f N + f N); rw [tot_neg]; omega
theorem lo_le {ls : List (List Int)} {M : Nat} {w : List Int} {t p t2 p2 : Nat -> Int} (hl : lmB (M : Int) ls = true) (h : Opt ls (M + 1) (du0 w M) t p) (h2 : Opt ls (M + 1) (du0 (NG w) M) t2 p2) : -(tot (fun i => t2 i * lw ls i) ls.length) <= tot (fun i => t i * lw ls i) ls.length := by
 have a1 := h.eq (hN_of hl)
 have a2 := h2.le (hN_of hl) h.st
 have e : tot (fun v => p v * du0 (NG w) M v) (M + 1) = - tot (fun v => p v * du0 w M v) (M + 1) := by
  rw [<- tot_neg]
  exact tot_congr (fun v _ => by rw [du_ng, Int.mul_neg])
 omega
theorem dt_low {ls : List (List Int)} {w x : List Int} {M : Nat} {t2 : Nat -> Int} (hl : lmB (M : Int) ls = true) (h2 : Opt ls (M + 1) (du0 (NG w) M) t2 (fun v => x.getD v 0)) (hx : x.getD 0 0 = 0) : dt w x (M + 1) = -(tot (fun i => t2 i * lw ls i) ls.length) := by
 have a := h2.eq (hN_of hl)
 have e : tot (fun v => x.getD v 0 * du0 (NG w) M v) (M + 1) = - tot (fun v => x.getD v 0 * du0 w M v) (M + 1) := by
  rw [<- tot_neg]
  exact tot_congr (fun v _ => by rw [du_ng, Int.mul_neg])
 rw [dt_all hx (M := M)]
 omega
theorem mul_sz {u v U V : Int} (hu : -U <= u /\ u <= U) (hv : -V <= v /\ v <= V) : -(U * V) <= u * v /\ u * v <= U * V := by
 have hU : 0 <= U := by omega
 have hV : 0 <= V := by omega
 have h1 := prod_bd (a := u) hv hV
 have h2 : V * max u (-u) <= V * U := Int.mul_le_mul_of_nonneg_left (by omega) hV
 rw [Int.mul_comm V U] at h2
 omega
theorem mix {d a x1 x2 y1 y2 m : Int} (h0 : 0 <= a) (h1 : a <= d) (hu : x2 - x1 <= m) (hv : y2 - y1 <= m) : d * x2 + a * (y2 - x2) - (d * x1 + a * (y1 - x1)) <= d * m := by
 have e1 := Int.mul_le_mul_of_nonneg_left hu (show 0 <= d - a by omega)
 have e2 := Int.mul_le_mul_of_nonneg_left hv h0
 rw [Int.sub_mul, Int.sub_mul, Int.mul_sub, Int.mul_sub] at e1
 rw [Int.mul_sub] at e2
 rw [Int.mul_sub, Int.mul_sub]
 omega
theorem wayS {d a p q w x y : Int} : d * p + a * (q - p) + w * (d * x + a * (y - x)) = d * (p + w * x) + a * (q + w * y - (p + w * x)) := by
 have e1 : w * (d * x) = d * (w * x) := Int.mul_left_comm ..
 have e2 : w * (a * y) = a * (w * y) := Int.mul_left_comm ..
 have e3 : w * (a * x) = a * (w * x) := Int.mul_left_comm ..
 rw [Int.mul_add w, Int.mul_sub a y x, Int.mul_sub w, e1, e2, e3, Int.mul_add d, Int.mul_sub a q p, Int.mul_sub a (q + w * y), Int.mul_add a, Int.mul_add a]
 omega
theorem wayE {lo hi x y d a z : Int} (hx : x = lo) (hy : y = hi) (hd : d = max (hi - lo) 1) (ha : a = z - lo) (h1 : lo <= z) (h2 : z <= hi) : d * x + a * (y - x) = d * z := by
 subst hx hy
 by_cases c : x < y
 ·have e : d = y - x := by omega
  rw [e, ha, Int.mul_comm (z - x), <- Int.mul_add]; congr 1; omega
 ·have e : z = x := by omega
  rw [ha, e, Int.sub_self, Int.zero_mul, Int.add_zero]
theorem wgL_szs {l : List Int} {k : Nat} : ∀ {i : Nat}, i <= k -> szs (wgL l k) i <= 30 * (i : Int)
 | 0, _ => Int.le_refl _
 | i + 1, hi => by
  have a1 := wgL_szs (l := l) (k := k) (i := i) (by omega)
  have a2 := wgV_bd (l := l) (i := i)
  show szs (wgL l k) i + max ((wgL l k).getD i 0) (-((wgL l k).getD i 0)) <= _
  rw [wgL_get (by omega)]; omega
theorem szs_le0 {w : List Int} {n : Nat} : ∀ {d k : Nat}, k + d = n -> szs w k <= szs w n
 | 0, k, h => by rw [show k = n by omega]; exact Int.le_refl _
 | d + 1, k, h => by
  have := szs_le0 (w := w) (n := n) (d := d) (k := k + 1) (by omega)
  have e : szs w (k + 1) = szs w k + max (w.getD k 0) (-(w.getD k 0)) := rfl
  omega
theorem szs_le {w : List Int} {k n : Nat} (h : k <= n) : szs w k <= szs w n := szs_le0 (d := n - k) (by omega)
section
variable {X : FuncId -> List Value -> St -> (Value -> St -> Bool) -> Bool}
theorem Range_v (n : Nat) (M : Nat) (al : Option Addr) (cl : Nat) (ls : List (List Int)) (aw : Option Addr) (cw : Nat) (w : List Int) (s : St) (hs : Wf s) (hn : 7318349394477056 <= n) (hL : RowsE s 4 al ls) (hcl : al = none -> cl = 0) (hW : IntsE s aw w) (hCap : CapOk s aw (M + 1) cw) (hsys : sysE (M : Int) ls = 0) (hwl : w.length = M + 1) (hwo : WOk w w.length) : Spec Try.prog (tabK tabw) X (n + 11000) 13 [.agg ⟨[.int .i64 (M : Int), .slice al ls.length cl]⟩, .slice aw (M + 1) cw] s (fun v A => (Uns ls (M + 1) /\ v = .tuple #[.int .i64 0, .int .i64 0, .int .i64 23] /\ A = []) ∨ (¬ Uns ls (M + 1) /\ (Opn ls (M + 1) (du0 w M) ∨ Opn ls (M + 1) (du0 (NG w) M)) /\ v = .tuple #[.int .i64 0, .int .i64 0, .int .i64 22] /\ A = []) ∨ (¬ Uns ls (M + 1) /\ ∃ t p t2 p2, Opt ls (M + 1) (du0 w M) t p /\ Opt ls (M + 1) (du0 (NG w) M) t2 p2 /\ tot t ls.length <= 230400000000000 /\ tot t2 ls.length <= 230400000000000 /\ v = .tuple #[.int .i64 (-(tot (fun i => t2 i * lw ls i) ls.length)), .int .i64 (tot (fun i => t i * lw ls i) ls.length), .int .i64 0] /\ A = [])) := by
 have h := Range_s n (M : Int) al cl ls aw cw w s hs hn hL hcl hW (by rw [hwl]; exact hCap) (X := X)
 rw [hwl] at h
 have hww : (((M + 1 : Nat) : Int) = (M : Int) + 1 /\ WOk w (M + 1)) := ⟨by omega, by rw [<- hwl]; exact hwo⟩
 refine h.imp (fun v A q => ?_)
 rcases q with ⟨e, _, _, q1, _, _, q2⟩ | ⟨_, _, q1, q2⟩ | ⟨_, _, q1, q2⟩
 ·obtain ⟨rfl, q3⟩ := q1 hsys hww
  exact .inl ⟨q3, q2⟩
 ·exact .inr (.inl ⟨q1, q2⟩)
 ·exact .inr (.inr ⟨q1, q2⟩)
theorem Between_v (n : Nat) (M : Nat) (al : Option Addr) (cl : Nat) (ls : List (List Int)) (aw : Option Addr) (cw : Nat) (w : List Int) (sum : Int) (s : St) (hs : Wf s) (hn : 7318349394477056 <= n) (hL : RowsE s 4 al ls) (hcl : al = none -> cl = 0) (hW : IntsE s aw w) (hCap : CapOk s aw (M + 1) cw) (hsys : sysE (M : Int) ls = 0) (hwl : w.length = M + 1) (hwo : WOk w w.length) : Spec Try.prog (tabK tabw) X (n + 11500) 15 [.agg ⟨[.int .i64 (M : Int), .slice al ls.length cl]⟩, .slice aw (M + 1) cw, .int .i64 sum] s (fun v A => (Uns ls (M + 1) /\ v = .tuple #[.slice none 0 0, .slice none 0 0, .int .i64 0, .int .i64 0, .int .i64 23] /\ A = []) ∨ (¬ Uns ls (M + 1) /\ (Opn ls (M + 1) (du0 w M) ∨ Opn ls (M + 1) (du0 (NG w) M)) /\ v = .tuple #[.slice none 0 0, .slice none 0 0, .int .i64 0, .int .i64 0, .int .i64 22] /\ A = []) ∨ (¬ Uns ls (M + 1) /\ ∃ t p t2 p2, Opt ls (M + 1) (du0 w M) t p /\ Opt ls (M + 1) (du0 (NG w) M) t2 p2 /\ ((¬ ((-(tot (fun i => t2 i * lw ls i) ls.length)) <= sum /\ sum <= (tot (fun i => t i * lw ls i) ls.length)) /\ v = .tuple #[.slice none 0 0, .slice none 0 0, .int .i64 0, .int .i64 0, .int .i64 3] /\ A = []) ∨ (((-(tot (fun i => t2 i * lw ls i) ls.length)) <= sum /\ sum <= (tot (fun i => t i * lw ls i) ls.length)) /\ ∃ b b2 x x2, Opt ls (M + 1) (du0 w M) t (fun v => x.getD v 0) /\ Opt ls (M + 1) (du0 (NG w) M) t2 (fun v => x2.getD v 0) /\ (x.length = M + 1 /\ x.getD 0 0 = 0 /\ ∀ v, v < M + 1 -> -1280000 <= x.getD v 0 /\ x.getD v 0 <= 1280000) /\ (x2.length = M + 1 /\ x2.getD 0 0 = 0 /\ ∀ v, v < M + 1 -> -1280000 <= x2.getD v 0 /\ x2.getD v 0 <= 1280000) /\ v = .tuple #[.slice (some ⟨b2, 0, none⟩) (M + 1) (M + 1), .slice (some ⟨b, 0, none⟩) (M + 1) (M + 1), .int .i64 (sum - (-(tot (fun i => t2 i * lw ls i) ls.length))), .int .i64 (max ((tot (fun i => t i * lw ls i) ls.length) - (-(tot (fun i => t2 i * lw ls i) ls.length))) 1), .int .i64 0] /\ A = [.row b 3 false (ints x), .row b2 3 false (ints x2)])))) := by
 have h := Between_s n M al cl ls aw cw w sum s hs hn hL hcl hW (by rw [hwl]; exact hCap) hsys ⟨by omega, hwo⟩ (X := X)
 rw [hwl] at h
 exact h
set_option maxHeartbeats 2000000 in
set_option maxRecDepth 100000 in
theorem BoundWhole_s (n : Nat) (r0 : Int) (ar : Option Addr) (cr : Nat) (rs : List (List Int)) (a1 : Option Addr) (c1 : Nat) (l1 : List Int) (w0 : Int) (s : St) (hs : Wf s) (hn : 16888498602639360 <= n) (hR : RowsE s 4 ar rs) (hI1 : IntsE s a1 l1) : Spec Try.prog (tabK tabw) (knownX 12) (n + 13000) 4 [.agg ⟨[.int .i64 r0, .slice ar rs.length cr]⟩, .slice a1 l1.length c1, .int .i64 w0] s (fun v A => v = .bool true /\ A = []) := by
 refine enter bw4_at rfl hs ?_
 unfold bw4
 have hlen := hR.len
 have hlen1 := hI1.len
 refine rS (kO rfl (a_box rfl rfl rfl (fun b1 => (kM rfl rfl (i_nil (rS (kO rfl (a_lda rfl (by decide) .here rfl (kO rfl (a_call rfl rfl (fun s1 h1 => made_s _ r0 ar cr rs s1 h1.wf (by omega) (hR.ext hs h1.2.1)) (fun v1 A1 q1 => ?_)))))))))))
 obtain ⟨aT, cT, TL, rfl, hA9, hTR⟩ := q1
 rw [hA9]
 obtain ⟨hM1, hM6, hMe⟩ := mdM_bd (r0 := r0)
 generalize mdM r0 = M at *
 have hlm := mdL_lm (rs := rs) hM1 hM6
 have hlw := mdL_w (rs := rs) hM1 hM6
 have hft := mdL_fit (rs := rs) hM1 hM6
 have hsys := mdL_sys (rs := rs) hM1 hM6
 have hl20 := mdL_len (M := M) (rs := rs)
 generalize mdL M rs = ls at *
 obtain ⟨hTL, _, hcl⟩ := hTR.ok
 have hLg := lg_of hlm
 have h400 : ls.length <= 400 := by omega
 have hM : M <= 64 := by omega
 refine kO rfl (a_new rfl rfl (fun b2 => (kZ rfl (a_sta rfl rfl .here rfl rfl rfl rfl (i_nil (rS (kO rfl (a_lda rfl (by decide) .here rfl (kM rfl rfl (kO rfl (a_call rfl rfl (fun s1 h1 => weights_s _ M aT cT _ a1 c1 l1 s1 h1.wf (by omega) (hI1.ext hs h1.2.1) hM) (fun v1 A1 q1 => ?_))))))))))))
 obtain ⟨bw4, opw, cW, rfl, hTw, rfl⟩ := q1
 rw [List.singleton_append]
 have hwl : (wgL l1 (M + 1)).length = M + 1 := wgL_len
 have hwo : WOk (wgL l1 (M + 1)) (wgL l1 (M + 1)).length := wgL_ok (by omega)
 have hwf : ∀ z ∈ wgL l1 (M + 1), -9223372036854775808 <= z /\ z < 9223372036854775808 := wgL_fit
 have hwz : szs (wgL l1 (M + 1)) (M + 1) <= 210 := by have := wgL_szs (l := l1) (k := M + 1) (i := M + 1) (Nat.le_refl _); omega
 have hwb : ∀ v, v < M + 1 -> -30 <= (wgL l1 (M + 1)).getD v 0 /\ (wgL l1 (M + 1)).getD v 0 <= 30 := fun v hv => by rw [wgL_get hv]; exact wgV_bd
 generalize wgL l1 (M + 1) = w at *
 refine kM rfl rfl (i_nil (rS (kO rfl (a_lda rfl (by decide) (.next .here) rfl (kM rfl rfl (kO rfl (a_call rfl rfl (fun s1 h1 => Range_v _ M aT cT ls _ _ w s1 h1.wf (by omega) (hTL.rows (.cons _ (.cons _ (List.sublist_append_left _ _))) h1 hLg (by omega) (by omega) hft) hcl (IntsE.own (h1.own .here) hwf (by omega)) (cap_tight hTw (h1.own .here) (by rw [ints_len]; omega)) hsys hwl hwo) (fun v1 A1 q1 => ?_))))))))
 rcases q1 with ⟨hz1, rfl, rfl⟩ | ⟨hz1, hz2, rfl, rfl⟩ | ⟨hz1, q1⟩
 ·refine kM rfl rfl (kO rfl (a_ext rfl rfl (kO rfl (a_ext rfl rfl (kO rfl (a_ext rfl rfl (kM rfl rfl (kM rfl rfl (kM rfl rfl (i_nil (rQ (rS (kM rfl rfl (kO rfl (a_neq rfl rfl (fun _ => (i_nil (r_cond_t rfl (rS (kM rfl rfl (kO rfl (a_eql rfl rfl (fun _ => (kM rfl rfl (i_no rfl rfl (i_no rfl rfl (kO rfl (a_pick_t rfl rfl rfl (kM rfl rfl (kG rfl rfl (a_callV rfl rfl (fun s1 h1 => known_s _ s1 h1.wf) (kO rfl (a_pick_t rfl rfl rfl ?_))))))))))) (fun h => absurd h (by decide))))))))) (fun h => absurd h (by decide)))))))))))))))))
  refine kM rfl rfl (i_nil (r_ret (then_r ?_)))
  exact end1 rfl ⟨rfl, rfl⟩
 ·refine kM rfl rfl (kO rfl (a_ext rfl rfl (kO rfl (a_ext rfl rfl (kO rfl (a_ext rfl rfl (kM rfl rfl (kM rfl rfl (kM rfl rfl (i_nil (rQ (rS (kM rfl rfl (kO rfl (a_neq rfl rfl (fun _ => (i_nil (r_cond_t rfl (rS (kM rfl rfl (kO rfl (a_eql rfl rfl (fun h => absurd h (by decide)) (fun _ => (kM rfl rfl (kG rfl rfl (a_mov rfl (kG rfl rfl (a_eql rfl rfl (fun _ => (kO rfl (a_pick_f rfl rfl rfl (kM rfl rfl (kG rfl rfl (a_callV rfl rfl (fun s1 h1 => known_s _ s1 h1.wf) (kO rfl (a_pick_t rfl rfl rfl ?_)))))))) (fun h => absurd h (by decide))))))))))))))) (fun h => absurd h (by decide)))))))))))))))))
  refine kM rfl rfl (i_nil (r_ret (then_r ?_)))
  exact end1 rfl ⟨rfl, rfl⟩
 ·obtain ⟨t, p, t2, p2, hOp, hOp2, hts, hts2, rfl, rfl⟩ := q1
  have hlh := lo_le hlm hOp hOp2
  have hsb := sum_small hlm hM hOp hwz
  have hsb2 := sum_small hlm hM hOp2 (by rw [ng_szs]; exact hwz)
  refine kM rfl rfl (kO rfl (a_ext rfl rfl (kO rfl (a_ext rfl rfl (kO rfl (a_ext rfl rfl (kM rfl rfl (kM rfl rfl (kM rfl rfl (i_nil (rQ (rS (kM rfl rfl (kO rfl (a_neq rfl rfl (fun h => absurd h (by decide)) (fun _ => (i_nil (r_cond_f rfl (r_skip (then_n (rQ (rS (kM rfl rfl (kM rfl rfl (kO rfl (a_gtr rfl rfl (fun h11 => ?_) (fun h11 => ?_)))))))))))))))))))))))))))
  ·exfalso; omega
  ·refine i_nil (r_cond_f rfl (r_skip (then_n (rS (kM rfl rfl (kM rfl rfl (kM rfl rfl (kM rfl rfl (kO rfl (a_sub rfl rfl (by omega) (kO rfl (a_add rfl rfl (by omega) (kO rfl (a_callV rfl rfl (fun s1 h1 => mod_s _ _ _ s1 h1.wf (by omega)) ?_))))))))))))))
   have hmd9 := modN_bd (x := w0) (m := tot (fun i => t i * lw ls i) ls.length - -(tot (fun i => t2 i * lw ls i) ls.length) + 1) (by omega)
   refine kO rfl (a_add rfl rfl (by omega) (kM rfl rfl (i_nil (rS (kO rfl (a_lda rfl (by decide) (.next .here) rfl (kM rfl rfl (kM rfl rfl (kO rfl (a_call rfl rfl (fun s1 h1 => Between_v _ M aT cT ls _ _ w _ s1 h1.wf (by omega) (hTL.rows (.cons _ (.cons _ (List.sublist_append_left _ _))) h1 hLg (by omega) (by omega) hft) hcl (IntsE.own (h1.own .here) hwf (by omega)) (cap_tight hTw (h1.own .here) (by rw [ints_len]; omega)) hsys hwl hwo) (fun v1 A1 q1 => ?_)))))))))))
   rcases q1 with ⟨hz1, rfl, rfl⟩ | ⟨hz3, hz2, rfl, rfl⟩ | ⟨hz3, u, q, u2, q2, hOu, hOu2, ⟨hno9, rfl, rfl⟩ | q3⟩
   ·exact absurd hz1 (by assumption)
   ·rcases hz2 with hz2 | hz2 <;> first | exact (hz2.not (hN_of hlm) hOp.nn hOp.nt).elim | exact (hz2.not (hN_of hlm) hOp2.nn hOp2.nt).elim
   ·exfalso; have e1 := opt_same hOp hOu (hN_of hlm); have e2 := opt_same hOp2 hOu2 (hN_of hlm); omega
   ·obtain ⟨hin9, bh12, bl13, yv, xv, hOy, hOx, ⟨hyl, hy0, hyb⟩, ⟨hxl, hx0, hxb⟩, rfl, rfl⟩ := q3
    have e1 := opt_same hOp hOu (hN_of hlm)
    have e2 := opt_same hOp2 hOu2 (hN_of hlm)
    rw [List.cons_append, List.singleton_append]
    have hdx := dt_low (w := w) hlm hOx hx0
    have hdy := dt_best hlm hOu hOy hy0
    generalize hat9 : -(tot (fun i => t2 i * lw ls i) ls.length) + modN w0 (tot (fun i => t i * lw ls i) ls.length - -(tot (fun i => t2 i * lw ls i) ls.length) + 1) = at9 at *
    generalize hd9 : max (tot (fun i => u i * lw ls i) ls.length - -(tot (fun i => u2 i * lw ls i) ls.length)) 1 = d9
    generalize ha9 : at9 - -(tot (fun i => u2 i * lw ls i) ls.length) = a9
    have hd1 : 1 <= d9 /\ d9 <= 537600001 /\ 0 <= a9 /\ a9 <= d9 := by omega
    refine kM rfl rfl (kO rfl (a_ext rfl rfl (kO rfl (a_ext rfl rfl (kO rfl (a_ext rfl rfl (kO rfl (a_ext rfl rfl (kO rfl (a_ext rfl rfl (kM rfl rfl (kM rfl rfl (kM rfl rfl (kM rfl rfl (kM rfl rfl (i_nil (rQ (rS (kM rfl rfl (kO rfl (a_neq rfl rfl (fun h => absurd h (by decide)) (fun _ => (kM rfl rfl (kG rfl rfl (a_mov rfl (kG rfl rfl (a_len rfl (kG rfl rfl (a_fa rfl (kG rfl rfl (a_ld rfl (.next (.next (.next .here))) rfl (kG rfl rfl (a_add rfl rfl (by omega) (kG rfl rfl (a_neq rfl rfl (fun h15 => ?_) (fun h15 => ?_))))))))))))))))))))))))))))))))))))
    ·exfalso; omega
    ·refine kO rfl (a_pick_f rfl rfl rfl (kM rfl rfl (kG rfl rfl (a_mov rfl (kG rfl rfl (a_len rfl (kG rfl rfl (a_mov rfl (kG rfl rfl (a_len rfl (kG rfl rfl (a_neq rfl rfl (fun h16 => ?_) (fun h16 => ?_)))))))))))))
     ·exfalso; omega
     ·refine kO rfl (a_pick_f rfl rfl rfl (kM rfl rfl (kG rfl rfl (a_mov rfl (kG rfl rfl (a_lss rfl rfl (fun h17 => ?_) (fun h17 => ?_)))))))
      ·exfalso; omega
      ·refine kO rfl (a_pick_f rfl rfl rfl (kM rfl rfl (kG rfl rfl (a_mov rfl (kG rfl rfl (a_lss rfl rfl (fun h18 => ?_) (fun h18 => ?_)))))))
       ·exfalso; omega
       ·refine kO rfl (a_pick_f rfl rfl rfl (kM rfl rfl (kG rfl rfl (a_mov rfl (kG rfl rfl (a_mov rfl (kG rfl rfl (a_gtr rfl rfl (fun h19 => ?_) (fun h19 => ?_)))))))))
        ·exfalso; omega
        ·refine kO rfl (a_pick_f rfl rfl rfl (i_nil (r_cond_f rfl (r_skip (then_n (rQ (rS (kO rfl (a_fa rfl (kO rfl (a_ld rfl (.next (.next (.next .here))) rfl (kO rfl (a_lenx rfl (by first | exact hR.spot | exact hI1.spot | exact hTR.spot) (kM rfl rfl (i_nil (r_block ?_))))))))))))))))
         refine r_loop (fun j e A => ∃ (k : Nat), e = [(8, .slice (some ⟨bw4, 0, none⟩) (M + 1) cW), (12, .int .i64 at9), (13, .slice (some ⟨bl13, 0, none⟩) (M + 1) (M + 1)), (14, .slice (some ⟨bh12, 0, none⟩) (M + 1) (M + 1)), (15, .int .i64 a9), (16, .int .i64 d9), (99, .slice aT ls.length cT), (100, .int .i64 (ls.length : Int)), (101, .int .i64 (k : Int))] /\ A = (.row bh12 3 false (ints yv) :: (.row bl13 3 false (ints xv) :: (.row bw4 3 opw (ints w) :: (.row b2 29 false ([.int .i64 (M : Int), .slice aT ls.length cT]) :: (TL ++ (.row b1 24 false ([.int .i64 r0, .slice ar rs.length cr]) :: [])))))) /\ j = ls.length - k /\ k <= ls.length) 300 0 281474976710656 ?_ (j := _) (env2 := _) (A2 := _) ?_ ?_ ?_ ?_ ⟨0, rfl, rfl, rfl, Nat.zero_le _⟩
         rotate_left
         ·omega
         ·omega
         ·exact (lc 8 rfl (lc 12 rfl (lc 13 rfl (lc 14 rfl (lc 15 rfl (lc 16 rfl (lc 99 rfl (lc 100 rfl (lc 101 rfl Less.nil)))))))))
         ·exact (.q (.q (.q (.q (.r (.q .slnil))))))
         rintro n hn j _ _ ⟨k, rfl, rfl, rfl, hk⟩
         refine rS (kO rfl (a_lss rfl rfl (fun h20 => ?_) (fun h20 => ?_)))
         ·obtain ⟨bT, oT9, hat2, how9⟩ := hTL.own (show 0 < ls.length by omega)
          obtain ⟨hg1, hg2, hg3, hg4, hg5, y9, hx9⟩ := hLg k (by omega)
          refine i_nil (rQ (r_cond_t rfl (r_skip (then_n (rQ (r_block (rS (kO rfl (a_iaA (j := k) hat2 rfl rfl (by first | rfl | omega) (by first | decide | omega) (kO rfl (a_lda rfl (by decide) (.next (.next (.next (.next (how9 _))))) (limC_seg hx9) (kO rfl (a_new rfl rfl (fun b21 => (kZ rfl (a_sta rfl rfl .here rfl rfl rfl rfl (i_nil (rS ?_))))))))))))))))))
          have hx9 := hxb (la ls k) (by omega)
          have hy9 := hyb (la ls k) (by omega)
          have := mul_sz (u := d9) (v := xv.getD (la ls k) 0) (U := 537600001) (V := 1280000) (by omega) (by omega)
          have := mul_sz (u := a9) (v := yv.getD (la ls k) 0 - xv.getD (la ls k) 0) (U := 537600001) (V := 2560000) (by omega) (by omega)
          refine kM rfl rfl (kM rfl rfl (kO rfl (a_fa rfl (kO rfl (a_ld rfl .here rfl (kO rfl (a_ia (j := (la ls k)) rfl rfl (by omega) (by omega) (kO rfl (a_ldI rfl (.next (.next .here)) (by first | omega | (simp; done) | (simp; omega)) (kO rfl (a_mul rfl rfl (by omega) (kM rfl rfl (kM rfl rfl (kO rfl (a_fa rfl (kO rfl (a_ld rfl .here rfl (kO rfl (a_ia (j := (la ls k)) rfl rfl (by omega) (by omega) (kO rfl (a_ldI rfl (.next .here) (by first | omega | (simp; done) | (simp; omega)) (kM rfl rfl (kO rfl (a_fa rfl (kO rfl (a_ld rfl .here rfl (kO rfl (a_ia (j := (la ls k)) rfl rfl (by omega) (by omega) (kO rfl (a_ldI rfl (.next (.next .here)) (by first | omega | (simp; done) | (simp; omega)) (kO rfl (a_sub rfl rfl (by omega) (kO rfl (a_mul rfl rfl (by omega) (kO rfl (a_add rfl rfl (by omega) (kM rfl rfl (i_nil (rS ?_)))))))))))))))))))))))))))))))))))))))
          have hx9 := hxb (lb ls k) (by omega)
          have hy9 := hyb (lb ls k) (by omega)
          have := mul_sz (u := d9) (v := xv.getD (lb ls k) 0) (U := 537600001) (V := 1280000) (by omega) (by omega)
          have := mul_sz (u := a9) (v := yv.getD (lb ls k) 0 - xv.getD (lb ls k) 0) (U := 537600001) (V := 2560000) (by omega) (by omega)
          refine kM rfl rfl (kM rfl rfl (kO rfl (a_fa rfl (kO rfl (a_ld rfl .here rfl (kO rfl (a_ia (j := (lb ls k)) rfl rfl (by omega) (by omega) (kO rfl (a_ldI rfl (.next (.next .here)) (by first | omega | (simp; done) | (simp; omega)) (kO rfl (a_mul rfl rfl (by omega) (kM rfl rfl (kM rfl rfl (kO rfl (a_fa rfl (kO rfl (a_ld rfl .here rfl (kO rfl (a_ia (j := (lb ls k)) rfl rfl (by omega) (by omega) (kO rfl (a_ldI rfl (.next .here) (by first | omega | (simp; done) | (simp; omega)) (kM rfl rfl (kO rfl (a_fa rfl (kO rfl (a_ld rfl .here rfl (kO rfl (a_ia (j := (lb ls k)) rfl rfl (by omega) (by omega) (kO rfl (a_ldI rfl (.next (.next .here)) (by first | omega | (simp; done) | (simp; omega)) (kO rfl (a_sub rfl rfl (by omega) (kO rfl (a_mul rfl rfl (by omega) (kO rfl (a_add rfl rfl (by omega) (kM rfl rfl (i_nil (rS ?_)))))))))))))))))))))))))))))))))))))))
          refine kM rfl rfl (kM rfl rfl (kO rfl (a_sub rfl rfl (by omega) ?_)))
          have hlw9 := hlw k (by omega)
          have := mul_sz (u := d9) (v := lw ls k) (U := 537600001) (V := 20000) (by omega) (by omega)
          refine kM rfl rfl (kO rfl (a_fa rfl (kO rfl (a_ld rfl .here rfl (kO rfl (a_mul rfl rfl (by omega) (kO rfl (a_gtr rfl rfl (fun h22 => ?_) (fun h22 => ?_)))))))))
          ·exfalso; have hxk := hOx.st k (by omega); have hyk := hOy.st k (by omega); have hmx := mix (d := d9) (a := a9) (m := lw ls k) (x1 := xv.getD (la ls k) 0) (x2 := xv.getD (lb ls k) 0) (y1 := yv.getD (la ls k) 0) (y2 := yv.getD (lb ls k) 0) (by omega) (by omega) (by omega) (by omega); omega
          ·refine i_nil (r_cond_f rfl (r_skip (block_n (then_n (rI (kO rfl (a_add rfl rfl (by omega) (kM rfl rfl (i_nil (then_n ?_))))))))))
           exact ⟨rfl, _, _, _, (show ls.length - (k + 1) < ls.length - k by omega), (lc 8 rfl (lc 12 rfl (lc 13 rfl (lc 14 rfl (lc 15 rfl (lc 16 rfl (lc 99 rfl (lc 100 rfl (lc 101 rfl Less.nil))))))))), (.cons _ (.q (.q (.q (.q (.r (.q .slnil))))))), ⟨k + 1, rfl, rfl, rfl, by omega⟩⟩
         ·refine i_nil (rQ (r_cond_f rfl (r_exit (then_e (then_e (block_hit (then_n (rS (kM rfl rfl (i_nil (rQ (rS (kM rfl rfl (kO rfl (a_len rfl (kM rfl rfl (i_nil (r_block (r_loop (fun j e A => ∃ (k : Nat), e = [(8, .slice (some ⟨bw4, 0, none⟩) (M + 1) cW), (12, .int .i64 at9), (13, .slice (some ⟨bl13, 0, none⟩) (M + 1) (M + 1)), (14, .slice (some ⟨bh12, 0, none⟩) (M + 1) (M + 1)), (15, .int .i64 a9), (16, .int .i64 d9), (22, .int .i64 (d9 * dt w xv k + a9 * (dt w yv k - dt w xv k))), (157, .int .i64 ((M + 1 : Nat) : Int)), (158, .int .i64 (k : Int))] /\ A = (.row bh12 3 false (ints yv) :: (.row bl13 3 false (ints xv) :: (.row bw4 3 opw (ints w) :: []))) /\ j = M + 1 - k /\ k <= M + 1) 300 0 281474976710656 ?_ (j := _) (env2 := _) (A2 := _) ?_ ?_ ?_ ?_ ⟨0, rfl, rfl, rfl, Nat.zero_le _⟩)))))))))))))))))))
          rotate_left
          ·omega
          ·omega
          ·exact (lc 8 rfl (lc 12 rfl (lc 13 rfl (lc 14 rfl (lc 15 rfl (lc 16 rfl (lc 22 (by show some (Value.int .i64 0) = some (Value.int .i64 (d9 * 0 + a9 * (0 - 0))); simp) (lc 157 rfl (lc 158 rfl Less.nil)))))))))
          ·exact (.q (.q (.q (.cons _ (List.sublist_append_of_sublist_right (.cons _ .slnil))))))
          rintro n hn j _ _ ⟨k, rfl, rfl, rfl, hk⟩
          have hdb1 := dt_bd2 (w := w) (n := M + 1) hxb (k := k) hk
          have hdb2 := dt_bd2 (w := w) (n := M + 1) hyb (k := k) hk
          have hsz1 := szs_pos (w := w) (k := k)
          have hsz2 := szs_le (w := w) hk
          have hp1 := mul_sz (u := d9) (v := dt w xv k) (U := 537600001) (V := 268800000) (by omega) (by omega)
          have hp2 := mul_sz (u := a9) (v := dt w yv k - dt w xv k) (U := 537600001) (V := 537600000) (by omega) (by omega)
          refine rS (kO rfl (a_lss rfl rfl (fun h23 => ?_) (fun h23 => ?_)))
          ·refine i_nil (rQ (r_cond_t rfl (r_skip (then_n (rQ (r_block (rS (kM rfl rfl (kM rfl rfl (i_nil (rI ?_)))))))))))
           have hx9 := hxb k (by omega)
           have hy9 := hyb k (by omega)
           have := mul_sz (u := d9) (v := xv.getD k 0) (U := 537600001) (V := 1280000) (by omega) (by omega)
           have := mul_sz (u := a9) (v := yv.getD k 0 - xv.getD k 0) (U := 537600001) (V := 2560000) (by omega) (by omega)
           have hwb9 := hwb k (by omega)
           have := mul_sz (u := w.getD k 0) (v := d9 * xv.getD k 0 + a9 * (yv.getD k 0 - xv.getD k 0)) (U := 30) (V := 2064384003840000) (by omega) (by omega)
           refine kM rfl rfl (kM rfl rfl (kM rfl rfl (kO rfl (a_ia (j := k) rfl rfl (by omega) (by omega) (kO rfl (a_ldI rfl (.next (.next .here)) (by first | omega | (simp; done) | (simp; omega)) (kM rfl rfl (kM rfl rfl (kM rfl rfl (kO rfl (a_ia (j := k) rfl rfl (by omega) (by omega) (kO rfl (a_ldI rfl (.next .here) (by first | omega | (simp; done) | (simp; omega)) (kO rfl (a_mul rfl rfl (by omega) (kM rfl rfl (kM rfl rfl (kM rfl rfl (kO rfl (a_ia (j := k) rfl rfl (by omega) (by omega) (kO rfl (a_ldI rfl .here (by first | omega | (simp; done) | (simp; omega)) (kM rfl rfl (kM rfl rfl (kO rfl (a_ia (j := k) rfl rfl (by omega) (by omega) (kO rfl (a_ldI rfl (.next .here) (by first | omega | (simp; done) | (simp; omega)) (kO rfl (a_sub rfl rfl (by omega) (kO rfl (a_mul rfl rfl (by omega) (kO rfl (a_add rfl rfl (by omega) (kO rfl (a_mul rfl rfl (by omega) ?_))))))))))))))))))))))))))))))))))))
           refine kO rfl (a_add rfl rfl (by omega) (kM rfl rfl (i_nil (block_n (then_n (rI (kO rfl (a_add rfl rfl (by omega) (kM rfl rfl (i_nil (then_n ?_)))))))))))
           exact ⟨rfl, _, _, _, (show M + 1 - (k + 1) < M + 1 - k by omega), (lc 8 rfl (lc 12 rfl (lc 13 rfl (lc 14 rfl (lc 15 rfl (lc 16 rfl (lc 22 (by show some (Value.int .i64 (_ + _ * _)) = some (Value.int .i64 (d9 * (dt w xv k + w.getD k 0 * xv.getD k 0) + a9 * (dt w yv k + w.getD k 0 * yv.getD k 0 - (dt w xv k + w.getD k 0 * xv.getD k 0)))); rw [wayS]) (lc 157 rfl (lc 158 rfl Less.nil))))))))), (.q (.q (.q .slnil))), ⟨k + 1, rfl, rfl, rfl, by omega⟩⟩
          ·have hkM : k = M + 1 := by omega
           subst hkM
           rw [wayE hdx hdy hd9.symm ha9.symm (by omega) (by omega)]
           refine i_nil (rQ (r_cond_f rfl (r_exit (then_e (then_e (block_hit (then_n (rS (kM rfl rfl (kM rfl rfl (kM rfl rfl ?_)))))))))))
           have hp9 := mul_sz (u := d9) (v := at9) (U := 537600001) (V := 268800000) (by omega) (by omega)
           refine kO rfl (a_mul rfl rfl (by omega) (kO rfl (a_eql rfl rfl (fun h24 => ?_) (fun h24 => ?_))))
           ·refine kM rfl rfl (kG rfl rfl (a_mov rfl (kG rfl rfl (a_ia (j := 0) rfl rfl (by omega) (by omega) (kG rfl rfl (a_ldI rfl (.next .here) (by first | omega | (simp; done) | (simp; omega)) (kG rfl rfl (a_eql rfl rfl (fun h25 => ?_) (fun h25 => ?_)))))))))
            ·refine kO rfl (a_pick_t rfl rfl rfl (kM rfl rfl (kG rfl rfl (a_mov rfl (kG rfl rfl (a_ia (j := 0) rfl rfl (by omega) (by omega) (kG rfl rfl (a_ldI rfl .here (by first | omega | (simp; done) | (simp; omega)) (kG rfl rfl (a_eql rfl rfl (fun h26 => ?_) (fun h26 => ?_)))))))))))
             ·refine kO rfl (a_pick_t rfl rfl rfl (kM rfl rfl (kG rfl rfl (a_callV rfl rfl (fun s1 h1 => known_s _ s1 h1.wf) (kO rfl (a_pick_t rfl rfl rfl (kM rfl rfl (i_nil (r_ret ?_)))))))))
              exact end1 rfl ⟨rfl, rfl⟩
             ·exfalso; omega
            ·exfalso; omega
           ·exact absurd rfl h24
end
end Ev
end Go.Proofs.Ytoeklhdklcpllaa
namespace Go.Proofs.Ytoeklhdklcpllaa.Ev
open Go Go.RowKit Go.ChangeShapes Go.WideShapes Go.ChangeAt Go.Joins
set_option linter.unusedVariables false
noncomputable section
theorem ints_of {s : St} {a : Option Addr} {rs : List (List Int)} (h : RowsE s 1 a rs) : IntsE s a (rs.map fun r => r.getD 0 0) := by
 have hr : ∀ r ∈ rs, r = [r.getD 0 0] := fun r hr => by
  have := h.width r hr
  match r, this with
  | [z], _ => rfl
 refine ⟨h.spot, fun hn => h.addr (by rintro rfl; exact hn rfl), fun b o ha => ?_, fun x hx => ?_, by rw [List.length_map]; exact h.len⟩
 ·have key : ∀ (l : List (List Int)) (k : Nat), (∀ i r, l[i]? = some r -> Ats s b (o + (k + i) * 1) (r.map (.int .i64))) -> (∀ r ∈ l, r = [r.getD 0 0]) -> Ats s b (o + k) (ints (l.map fun r => r.getD 0 0)) := by
   intro l
   induction l with
   | nil => intro k _ _; exact trivial
   | cons r l ih =>
    intro k h1 h2
    have q := h1 0 r rfl
    rw [h2 r (by simp)] at q
    refine ⟨?_, ?_⟩
    ·have := q.1; simpa using this
    ·have := ih (k + 1) (fun i r' hr' => by have := h1 (i + 1) r' (by simpa using hr'); rwa [show k + (i + 1) = k + 1 + i by omega] at this) (fun r' hr' => h2 r' (by simp [hr']))
     rwa [show o + (k + 1) = o + k + 1 by omega] at this
  have := key rs 0 (fun i r hr' => by rw [Nat.zero_add]; exact h.cells b o ha i r hr') hr
  simpa using this
 ·obtain ⟨r, h1, rfl⟩ := List.mem_map.1 hx
  have h2 := h.fit r h1
  rw [hr r h1] at h2 ⊢
  exact h2 _ (by simp)
set_option maxRecDepth 100000 in
theorem open_int {H : Type} {enc : TypeId × Value -> H} {W : World} {r : Reach} {b0 : Nat} {v : Value} {d : DataW H} {p : List MemPlace} (h : DataW.Trod enc Try.prog W 0 (fun _ => true) true 3 v d p) (hv : Value.okWide Try.prog W r b0 3 v) : ∃ z, v = .int .i64 z := by
 obtain ⟨fuel, hf⟩ := h
 have hk : v.cells.toList = [v] := by
  simp only [Value.okWide, Try.underlying3] at hv
  unfold Cell.okWide at hv
  rw [Try.underlying3] at hv
  unfold Cell.ok at hv
  rw [Try.underlying3] at hv
  cases v <;> first | rfl | exact absurd hv id
 rw [hk] at hf
 obtain ⟨l, q, ql, _⟩ := intCells_int (P := Try.prog) Try.underlying3 hf
 match l, ql with
 | [z], _ => exact ⟨z, by simpa using q⟩
set_option maxRecDepth 100000 in
theorem open_islice {H : Type} {enc : TypeId × Value -> H} {W : World} {r : Reach} {b0 : Nat} {v : Value} {d : DataW H} {p : List MemPlace} (hv : Value.okWide Try.prog W r b0 25 v) (h : DataW.Trod enc Try.prog W 0 (fun _ => true) true 25 v d p) (hz : ∀ x ∈ DataW.weights Try.prog 25 d, x <= reachBytes) :
 ∃ a n c r, v = .slice a n c /\ r.length = n /\ NiceS W a n c /\ RowsE (wst W) 1 a r := by
 obtain ⟨fuel, hf⟩ := h
 simp only [Value.okWide, Try.underlying25] at hv
 obtain ⟨a, n, c, rfl, hN⟩ := cell_niceS Try.underlying25 hv
 obtain ⟨rs, f, k, _⟩ := rowsW (w := 1) (bytes := 8) Try.underlying25 (by kernel_rfl) (by decide) (by kernel_rfl) (by decide) (intCells_int Try.underlying3) hN (by simpa [Value.cells] using hf) hz
 exact ⟨a, n, c, rs, rfl, f, hN, k⟩
end
end Go.Proofs.Ytoeklhdklcpllaa.Ev
namespace Go.Proofs.Ytoeklhdklcpllaa.Ev
open Go Go.RowKit Go.ChangeShapes Go.WideShapes Go.ChangeAt Go.Joins
set_option linter.unusedVariables false
noncomputable section
set_option maxRecDepth 100000 in
theorem int_four {H : Type} {enc : TypeId × Value -> H} {W : World} : IntCells H Try.prog enc W 26 4 := by
 intro base fuel sp held cs x h
 obtain ⟨xs, m, _, _, hl, hxl, hxi⟩ := DataW.trod_array Try.underlying26 h
 have e3 : Try.prog.cellsOf 26 = 4 := by kernel_rfl
 have e4 : Try.prog.cellsOf 3 = 1 := by kernel_rfl
 rw [e3] at hl
 match cs, hl with
 | [c0, c1, c2, c3], _ =>
  have g0 := hxi 0 (by omega)
  rw [e4] at g0
  have g1 := hxi 1 (by omega)
  rw [e4] at g1
  have g2 := hxi 2 (by omega)
  rw [e4] at g2
  have g3 := hxi 3 (by omega)
  rw [e4] at g3
  match xs, hxl with
  | [y0, y1, y2, y3], _ =>
   obtain ⟨z0, q0, _, w0⟩ := DataW.trod_int Try.underlying3 (show DataW.trod enc Try.prog W base sp held m 3 [c0] = some y0 from g0)
   obtain ⟨z1, q1, _, w1⟩ := DataW.trod_int Try.underlying3 (show DataW.trod enc Try.prog W base sp held m 3 [c1] = some y1 from g1)
   obtain ⟨z2, q2, _, w2⟩ := DataW.trod_int Try.underlying3 (show DataW.trod enc Try.prog W base sp held m 3 [c2] = some y2 from g2)
   obtain ⟨z3, q3, _, w3⟩ := DataW.trod_int Try.underlying3 (show DataW.trod enc Try.prog W base sp held m 3 [c3] = some y3 from g3)
   simp at q0 q1 q2 q3
   subst q0; subst q1; subst q2; subst q3
   exact ⟨[z0, z1, z2, z3], rfl, rfl, fun z hz => by simp at hz; rcases hz with rfl | rfl | rfl | rfl <;> first | exact wf_I64 w0 | exact wf_I64 w1 | exact wf_I64 w2 | exact wf_I64 w3⟩
set_option maxRecDepth 100000 in
set_option maxHeartbeats 2000000 in
theorem open_raw {H : Type} {enc : TypeId × Value -> H} {W : World} {r : Reach} {b0 : Nat} {v : Value} {d : DataW H} {p : List MemPlace} (hv : Value.okWide Try.prog W r b0 24 v) (h : DataW.Trod enc Try.prog W 0 (fun _ => true) true 24 v d p) (hz : ∀ x ∈ DataW.weights Try.prog 24 d, x <= reachBytes) :
 ∃ z0 a1 n1 c1 r1, v = .agg #[.int .i64 z0, .slice a1 n1 c1] /\ r1.length = n1 /\ NiceS W a1 n1 c1 /\ RowsE (wst W) 4 a1 r1 := by
 obtain ⟨fuel, hf⟩ := h
 simp only [Value.okWide, Try.underlying24] at hv
 obtain ⟨cs, rfl, hsz, ts, hts, _, hc⟩ := hv
 have e2 : Try.prog.cellTypes Try.prog.depth 24 = some [3, 22] := by kernel_rfl
 rw [e2] at hts
 cases hts
 have e3 : Try.prog.cellsOf 24 = 2 := by kernel_rfl
 rw [e3] at hsz
 obtain ⟨l⟩ := cs
 match l, hsz with
 | [x0, x1], _ =>
  have u0 : ∃ t, [3, 22][0]? = some t /\ Cell.okWide Try.prog W r b0 t x0 := by
   obtain ⟨t, h1, h2⟩ := hc 0 x0 rfl
   exact ⟨t, h1, h2⟩
  obtain ⟨t0, e0, w0⟩ := u0
  have : t0 = 3 := by simpa using e0.symm
  subst this
  have u1 : ∃ t, [3, 22][1]? = some t /\ Cell.okWide Try.prog W r b0 t x1 := by
   obtain ⟨t, h1, h2⟩ := hc 1 x1 rfl
   exact ⟨t, h1, h2⟩
  obtain ⟨t1, e1, w1⟩ := u1
  have : t1 = 22 := by simpa using e1.symm
  subst this
  obtain ⟨xs, m, _, hx, _, hlen, hfs⟩ := DataW.trod_struct Try.underlying24 hf
  have hd : d = .agg (xs.map (·.1)) := by simpa using congrArg Prod.fst hx
  have g_0 : ∃ y, xs[0]? = some y /\ DataW.trod enc Try.prog W 0 (fun _ => true) true m 3 [x0] = some y := by
   have hy : ∃ y, xs[0]? = some y := ⟨xs[0]'(by rw [hlen]; decide), List.getElem?_eq_getElem _⟩
   obtain ⟨y, hy⟩ := hy
   have h4 := hfs 0 _ rfl
   rw [hy] at h4
   have e4 : Try.prog.cellsOf 3 = 1 := by kernel_rfl
   exact ⟨y, hy, by simpa [e4, Value.cells] using h4⟩
  obtain ⟨⟨d_0, p_0⟩, gy_0, g_0⟩ := g_0
  obtain ⟨l_0, q_0, ql_0, _⟩ := intCells_int (P := Try.prog) Try.underlying3 g_0
  obtain ⟨z0, rfl⟩ : ∃ z, l_0 = [z] := by
   match l_0, ql_0 with
   | [z], _ => exact ⟨z, rfl⟩
  simp at q_0
  subst q_0
  have g_1 : ∃ y, xs[1]? = some y /\ DataW.trod enc Try.prog W 0 (fun _ => true) true m 22 [x1] = some y := by
   have hy : ∃ y, xs[1]? = some y := ⟨xs[1]'(by rw [hlen]; decide), List.getElem?_eq_getElem _⟩
   obtain ⟨y, hy⟩ := hy
   have h4 := hfs 1 _ rfl
   rw [hy] at h4
   have e4 : Try.prog.cellsOf 22 = 1 := by kernel_rfl
   exact ⟨y, hy, by simpa [e4, Value.cells] using h4⟩
  obtain ⟨⟨d_1, p_1⟩, gy_1, g_1⟩ := g_1
  obtain ⟨a1, n1, c1, rfl, hN1⟩ := cell_niceS Try.underlying22 w1
  have hz_1 : ∀ x ∈ DataW.weights Try.prog 22 d_1, x <= reachBytes := fun x hx' => hz x (by
   rw [hd]
   simp only [DataW.weights, Try.underlying24]
   exact DataW.weights_mem_each (j := 1) (t := 22) rfl (by rw [List.getElem?_map, gy_1]; rfl) x hx')
  obtain ⟨r1, f1, k1, _⟩ := rowsW (w := 4) (bytes := 32) Try.underlying22 (by kernel_rfl) (by decide) (by kernel_rfl) (by decide) int_four hN1 g_1 hz_1
  exact ⟨z0, a1, n1, c1, r1, rfl, f1, hN1, k1⟩
end
end Go.Proofs.Ytoeklhdklcpllaa.Ev
namespace Go.Proofs.Ytoeklhdklcpllaa
open Go Go.RowKit
namespace Ev
set_option maxRecDepth 1000000 in
theorem sane_yes : yesK Try.prog tabw 3000 12 = true := by kernel_rfl
end Ev
theorem sane_w (w : World) : Calls Try.prog 12 #[] w fun e w' => e = .returned (.bool true) /\ Below w.heap.size w w' := Ev.yes_ok Ev.tabw_holds Ev.sane_yes w
end Go.Proofs.Ytoeklhdklcpllaa
