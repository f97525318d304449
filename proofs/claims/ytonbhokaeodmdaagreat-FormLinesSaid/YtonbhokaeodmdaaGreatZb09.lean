import Derived.Test.YtonbhokaeodmdaaGreatZb08
import Derived.Test.YtonbhokaeodmdaaGreatZb04
import Derived.ProofKit
import Derived.OpenShut
set_option linter.unusedVariables false
set_option linter.unusedSimpArgs false
/- Contracts: points and values of hulls. -/
namespace Go.Proofs.YtonbhokaeodmdaaGreat
open Go Go.RowKit
namespace Ev
theorem resW_ln {wk ws ww : Int} {l1 l2 : List Int} : (resW wk ws ww l1 l2).length = l2.length * l1.length + 1 := gpre_len
theorem resW_bd {wk : Int} {ws ww : Nat} {l1 l2 : List Int} (hp1 : Plc 9 100000 l1) (hp2 : Plc 9 100000 l2) (h15 : l2.getD (l2.length - 1) 0 ≤ 15000) (h1 : wk = 1 → 0 < ww) (hs : ws < l1.length) (hw : ww < l2.length) (hk : 1 ≤ wk ∧ wk ≤ 4) : tobP (resW wk ws ww l1 l2) (l2.length * l1.length + 1) ≤ 3600000000000 := by
  have hn := hp2.h2
  unfold resW
  rw [gpre_tob (by omega)]
  obtain ⟨_, t1⟩ := wts_sums hp1
  obtain ⟨_, t2⟩ := wts_sums hp2
  have a0 := hp1.lo 0
  have a1 := hp1.lo (l1.length - 1)
  have b0 := hp2.lo 0
  have e1 : tobP (resA wk (ws : Int).toNat l1) l1.length ≤ 4800000 := by
    unfold resA
    split
    · omega
    · rw [Int.toNat_natCast, only_tob hs]; decide
  have e2 : tobP (resU wk (ww : Int).toNat l2) l2.length ≤ 720000 := by
    unfold resU
    rw [Int.toNat_natCast]
    split
    · rename_i hk1
      have hq := plc_take hp2 (k := ww + 1) (by have := h1 hk1; omega) (by omega)
      have hl : (l2.take (ww + 1)).length = ww + 1 := by rw [List.length_take]; omega
      obtain ⟨_, t3⟩ := wts_sums hq
      have hw3 := wts_len (l := l2.take (ww + 1))
      rw [tobP_far (by omega), hw3]
      have z0 := hq.lo 0
      have z1 : (l2.take (ww + 1)).getD ((l2.take (ww + 1)).length - 1) 0 ≤ 15000 := by
        rw [hl, List.getD_eq_getElem?_getD, List.getElem?_take, if_pos (by omega), ← List.getD_eq_getElem?_getD]
        exact Int.le_trans (plc_last hp2 (l2.length - 1 - ww) ww (by omega)) h15
      omega
    · split
      · omega
      · rw [only_tob hw]; decide
  have f1 : 0 ≤ tobP (resA wk (ws : Int).toNat l1) l1.length := tob_nn
  have f2 : 0 ≤ tobP (resU wk (ww : Int).toNat l2) l2.length := tob_nn
  exact Int.le_trans (Int.mul_le_mul e1 e2 f2 (by decide)) (by decide)
def resV (wk ws ww : Int) (l1 l2 : List Int) (M : List (List Int)) : Int := flr (dotP (resW wk ws ww l1 l2) (hpt M l2.length (l2.length * l1.length)) (l2.length * l1.length + 1)) (resD wk)
theorem resD_pos {wk : Int} : 0 < resD wk ∧ resD wk ≤ 648000000 := by unfold resD; split <;> (try split) <;> decide
theorem hp2m {l1 l2 : List Int} (h : planB l1 l2 = true) : (l2.length : Int) ≤ 7 := by
  unfold planB at h
  rw [Bool.and_eq_true] at h
  have h2 := h.2
  unfold plcB at h2
  rw [Bool.and_eq_true, Bool.and_eq_true] at h2
  exact (of_decide_eq_true h2.1.1).2
theorem h15 {l1 l2 : List Int} (h : planB l1 l2 = true) : l2.getD (l2.length - 1) 0 ≤ 15000 := ((plan_q2 h).lo _).2
theorem hpt_w {M : List (List Int)} {wk ws ww : Int} {l1 l2 : List Int} : (hpt M l2.length (l2.length * l1.length)).length = (resW wk ws ww l1 l2).length := by rw [hpt_len, resW_ln]
theorem resW_fit {wk : Int} {ws ww : Nat} {l1 l2 : List Int} (h : tobP (resW wk ws ww l1 l2) (l2.length * l1.length + 1) ≤ 3600000000000) : ∀ x ∈ resW wk ws ww l1 l2, -9223372036854775808 ≤ x ∧ x < 9223372036854775808 := by
  intro x hx
  obtain ⟨k, hk, rfl⟩ := List.getElem_of_mem hx
  have hl := resW_ln (wk := wk) (ws := ws) (ww := ww) (l1 := l1) (l2 := l2)
  have h1 : tobP (resW wk ws ww l1 l2) (k + 1) ≤ tobP (resW wk ws ww l1 l2) (l2.length * l1.length + 1) := tob_le (by omega)
  have h2 : tobP (resW wk ws ww l1 l2) (k + 1) = tobP (resW wk ws ww l1 l2) k + iab ((resW wk ws ww l1 l2).getD k 0) := rfl
  have h3 : (resW wk ws ww l1 l2).getD k 0 = (resW wk ws ww l1 l2)[k] := by rw [List.getD_eq_getElem?_getD, List.getElem?_eq_getElem hk]; rfl
  have h4 := tob_nn (w := resW wk ws ww l1 l2) (a := k)
  rw [h3] at h2
  unfold iab at h2
  omega
theorem in_fit {l : List Int} (h : inB (-1280000) 1280000 l = true) : ∀ x ∈ l, -9223372036854775808 ≤ x ∧ x < 9223372036854775808 := by
  intro x hx
  unfold inB at h
  have := List.all_eq_true.1 h x hx
  simp at this
  omega

section
variable {X : FuncId → List Value → St → (Value → St → Bool) → Bool}
theorem pointOf_s (n : Nat) (d r al up : Int) (a1 a2 : Option Addr) (c1 c2 : Nat) (l1 l2 : List Int) (a : Option Addr) (cap : Nat) (M : List (List Int)) (s : St) (hs : Wf s) (hn : 1688849860263936 ≤ n) (hl1 : IntsE s a1 l1) (hl2 : IntsE s a2 l2) (hT : TblE s a M) (hp1 : Plc 9 100000 l1) (hp2 : Plc 9 100000 l2) (hTl : M.length = l1.length) (hall : allB l2.length M = true) : Spec Tryz.prog (tabK tabw) X (n + 2500) 34 [.agg ⟨[.int .i64 d, .int .i64 r, .slice a1 l1.length c1, .slice a2 l2.length c2, .int .i64 al, .int .i64 up]⟩, .agg ⟨[.slice a M.length cap]⟩] s (fun v A => ∃ b, v = .slice (some ⟨b, 0, none⟩) (l2.length * l1.length + 1) OPEN ∧ A = [.row b 3 true (ints (hpt M l2.length (l2.length * l1.length)))]) := by
 refine enterD bw34_at rfl hs ?_
 unfold bw34
 have hlen1 := hl1.len
 have hlen2 := hl2.len
 have hlenT := hT.len
 have hm1 := hp1.hm
 have hm2 := hp2.hm
 have h21 := hp1.h2
 have h22 := hp2.h2
 refine rS (kO rfl (a_box rfl rfl rfl (fun b1 => (kO rfl (a_box rfl rfl rfl (fun b2 => (kM rfl rfl (i_nil (rS (kO rfl (a_lit rfl rfl rfl (fun b3 => (kO rfl (a_new rfl rfl (fun b4 => (kZ rfl (a_st rfl rfl .here rfl rfl (i_nil (rQ (rS (kO rfl (a_lda rfl (by decide) (.next (.next (.next .here))) rfl (kG rfl rfl (a_inl rfl rfl bw71_at rfl ?_))))))))))))))))))))))))
 unfold bw71
 refine rS (kO rfl (a_box rfl rfl rfl (fun b5 => (kM rfl rfl (i_nil (rS (kO rfl (a_fn rfl rfl (kM rfl rfl (i_nil (r_ret (endD1 rfl .nil (i_nil (r_block (r_rangeV rfl bw112_at rfl (fun q6 l7 LO8 BO9 hLO8 hBO9 => ?_))))))))))))))))
 unfold bw112
 refine r_front (.next (.next (.next (.next .here)))) (rS (kM rfl rfl (i_nil (rS (kO rfl (a_fa rfl (kO rfl (a_ld rfl (.next (.next (.next .here))) rfl (kO rfl (a_lenx rfl hl1.spot (kM rfl rfl (i_nil (r_block (r_loop (fun j e A => ∃ (i b cp : Nat) (op : Bool), e = [(0, .func (.yield l7) ⟨[]⟩ ⟨[]⟩), (1, .pointer (some ⟨b5, 0, none⟩)), (3, .int .i64 ((l2.length * i : Nat) : Int)), (8, .int .i64 (l1.length : Int)), (9, .int .i64 (i : Int))] ∧ A = (.row b 3 op (ints (hpt M l2.length (l2.length * i))) :: (LO8 :: (.dfr q6 :: (.row b5 36 false ([.int .i64 d, .int .i64 r, .slice a1 l1.length c1, .slice a2 l2.length c2, .int .i64 al, .int .i64 up]) :: (.row b4 22 false ([.slice (some ⟨b, 0, none⟩) (l2.length * i + 1) cp]) :: (.row b2 30 false ([.slice a M.length cap]) :: [])))))) ∧ j = l1.length - i ∧ i ≤ l1.length ∧ FT op cp (l2.length * i)) 700 281474976710656 281474976710656 ?_ (j := _) (env2 := _) (A2 := _) ?_ ?_ ?_ ?_ ⟨0, b3, 1, false, rfl, rfl, rfl, by omega, (.inr ⟨rfl, rfl, rfl⟩)⟩))))))))))))))
 rotate_left
 ·omega
 ·omega
 ·exact (lc 0 rfl (lc 1 rfl (lc 3 rfl (lc 8 rfl (lc 9 rfl Less.nil)))))
 ·exact (.cons_cons _ (.cons_cons _ (.cons_cons _ (.cons_cons _ (.cons_cons _ (.cons_cons _ (.cons _ .slnil)))))))
 rintro n hn j _ _ ⟨i, b, cp, op, rfl, rfl, rfl, hi, hT1⟩
 have hq9 := mul_sm (x := (l2.length : Int)) (y := (i : Int)) (by omega) (by omega)
 have hq8 : ((l2.length * i : Nat) : Int) = (l2.length : Int) * (i : Int) := by simp
 refine rS (kO rfl (a_lss rfl rfl (fun h10 => ?_) (fun h10 => ?_)))
 ·refine i_nil (rQ (r_cond_t rfl (r_skip (then_n (rQ (r_block (rS (kM rfl rfl (kM rfl rfl (i_nil (rS (kO rfl (a_fa rfl (kO rfl (a_ld rfl (.next (.next (.next .here))) rfl (kO rfl (a_lenx rfl hl2.spot (kM rfl rfl (i_nil (r_block (r_loop (fun j e A => ∃ (k b cp : Nat) (op : Bool), e = [(0, .func (.yield l7) ⟨[]⟩ ⟨[]⟩), (1, .pointer (some ⟨b5, 0, none⟩)), (3, .int .i64 ((l2.length * i + k : Nat) : Int)), (4, .int .i64 (i : Int)), (8, .int .i64 (l1.length : Int)), (9, .int .i64 (i : Int)), (14, .int .i64 (l2.length : Int)), (15, .int .i64 (k : Int))] ∧ A = (.row b 3 op (ints (hpt M l2.length (l2.length * i + k))) :: (LO8 :: (.dfr q6 :: (.row b5 36 false ([.int .i64 d, .int .i64 r, .slice a1 l1.length c1, .slice a2 l2.length c2, .int .i64 al, .int .i64 up]) :: (.row b4 22 false ([.slice (some ⟨b, 0, none⟩) (l2.length * i + k + 1) cp]) :: (.row b2 30 false ([.slice a M.length cap]) :: [])))))) ∧ j = l2.length - k ∧ k ≤ l2.length ∧ FT op cp (l2.length * i + k)) 500 0 281474976710656 ?_ (j := _) (env2 := _) (A2 := _) ?_ ?_ ?_ ?_ ⟨0, b, cp, op, rfl, rfl, rfl, by omega, hT1⟩)))))))))))))))))))))
  rotate_left
  ·omega
  ·omega
  ·exact (lc 0 rfl (lc 1 rfl (lc 3 rfl (lc 4 rfl (lc 8 rfl (lc 9 rfl (lc 14 rfl (lc 15 rfl Less.nil))))))))
  ·exact (.cons_cons _ (.cons_cons _ (.cons_cons _ (.cons_cons _ (.cons_cons _ (.cons_cons _ .slnil))))))
  rintro n hn j _ _ ⟨k, b, cp, op, rfl, rfl, rfl, hk, hT2⟩
  obtain ⟨q8, o8, ai, ci, ahT, hat8, hli⟩ := hT.row i (by omega)
  have hlli := hli.len
  obtain ⟨hrl, hri⟩ := all_row hall (k := i) (by omega)
  refine rS (kO rfl (a_lss rfl rfl (fun h11 => ?_) (fun h11 => ?_)))
  ·refine i_nil (rQ (r_cond_t rfl (r_skip (then_n (rQ (r_block (rS (kM rfl rfl (kM rfl rfl (i_nil (rS (kM rfl rfl (kO rfl (a_add rfl rfl (by omega) (kM rfl rfl (i_nil (rS (kM rfl rfl (kM rfl rfl (kM rfl rfl (kM rfl rfl (kO rfl (a_build rfl rfl (kG rfl rfl (a_yieldV rfl rfl hLO8 hBO9 (by simp) rfl rfl (rI ?_))))))))))))))))))))))))))
   refine kO rfl (a_new rfl rfl (fun b12 => (kZ rfl (a_sta rfl rfl .here rfl rfl rfl rfl (i_nil (⟨_, (.next (.next .here)), (r_block (rI (kO rfl (a_ld rfl (.next (.next (.next (.next (.next .here))))) rfl (kO rfl (a_fa rfl (kO rfl (a_ld rfl (.next (.next (.next (.next (.next (.next .here)))))) rfl (kO rfl (a_fa rfl (kO rfl (a_ld rfl .here rfl (kO rfl (a_iaA (j := i) ahT rfl rfl (by first | rfl | omega) (by first | decide | omega) (kO rfl (a_ldr rfl (by assumption) (kO rfl (a_fa rfl (kO rfl (a_ld rfl .here rfl (kO rfl (a_iaI (j := k) hli rfl rfl (by omega) (by simp) (by omega) (fun _ _ a13 => (kO rfl (a_ldr rfl (hli.at a13 (by omega)) (kO rfl (a_lit rfl rfl rfl (fun b14 => (kO rfl (a_app rfl rfl (Src.own .here rfl (by simp)) (.next (.next .here)) (by rw [ints_len, hpt_len, Nat.mul_one]) (tight_of hT2) (by decide) (by omega) (by omega) (fun b15 => (kZ rfl (a_st rfl rfl (.next (.next (.next (.next (.next (.next .here)))))) rfl rfl (i_nil (block_n (⟨_, (.next (.next (.next .here))), (kO rfl (a_not rfl ?_))⟩))))))))))))))))))))))))))))))))))))⟩))))))
   refine i_nil (r_cond_f rfl (r_skip (block_n (then_n (rI (kO rfl (a_add rfl rfl (by omega) (kM rfl rfl (i_nil (then_n ?_))))))))))
   exact ⟨rfl, _, _, _, (show l2.length - (k + 1) < l2.length - k by omega), (lc 0 rfl (lc 1 rfl (lc 3 rfl (lc 4 rfl (lc 8 rfl (lc 9 rfl (lc 14 rfl (lc 15 rfl Less.nil)))))))), (.cons_cons _ (.cons _ (.cons _ (.cons_cons _ (.cons_cons _ (.cons_cons _ (.cons_cons _ (.cons_cons _ .slnil)))))))), ⟨k + 1, b15, _, _, rfl, (by simp only [List.set_cons_zero]; rw [hpt_add (n := l2.length) (i := i) (y := k) (by omega)]; first | done | rfl), rfl, by omega, (.inl ⟨rfl, rfl⟩)⟩⟩
  ·refine i_nil (rQ (r_cond_f rfl (r_exit (then_e (then_e (block_hit (block_n (then_n (rI (kO rfl (a_add rfl rfl (by omega) (kM rfl rfl (i_nil (then_n ?_))))))))))))))
   have hyl : k = l2.length := (by omega)
   subst hyl
   exact ⟨rfl, _, _, _, (show l1.length - (i + 1) < l1.length - i by omega), (lc 0 rfl (lc 1 rfl (lc 3 rfl (lc 8 rfl (lc 9 rfl Less.nil))))), (.cons_cons _ (.cons_cons _ (.cons_cons _ (.cons_cons _ (.cons_cons _ (.cons_cons _ .slnil)))))), ⟨i + 1, b, _, _, rfl, rfl, rfl, by omega, hT2⟩⟩
 ·refine i_nil (rQ (r_cond_f rfl (r_exit (then_e (then_e (block_hit (endD0n .nil (.inl ⟨_, (.next .here), (block_n (then_n (rS (kO rfl (a_ld rfl (.next (.next (.next .here))) rfl (kM rfl rfl (i_nil (r_ret ?_))))))))⟩))))))))
  have hil : i = l1.length := by omega
  subst hil
  obtain ⟨rfl, rfl⟩ := ft_pos hT1 (Nat.mul_pos (by omega) (by omega))
  exact endD1A rfl (.cons (.next .here) .nil) (.cons_cons _ (.cons _ (.cons _ (.cons _ .slnil)))) ⟨b, rfl, rfl⟩

theorem bValue_n (n : Nat) (a1 a2 : Option Addr) (c1 c2 : Nat) (w x : List Int) (nw nx : Nat) (s : St) (hs : Wf s) (hn : 562949953421312 ≤ n) (hnw : nw = w.length) (hnx : nx = x.length) (hl1 : IntsE s a1 w) (hl2 : IntsE s a2 x) : Spec Tryz.prog (tabK tabw) X (n + 400) 33 [.slice a1 nw c1, .slice a2 nx c2] s (fun v A => (((w.length : Int) ≤ 65 ∧ wgB w = true) ∧ (x.length = w.length ∧ inB (-1280000) 1280000 x = true) ∧ v = .tuple #[.int .i64 (dotP w x w.length), .int .i64 0] ∧ A = []) ∨ (¬ ((w.length : Int) ≤ 65 ∧ wgB w = true) ∧ v = .tuple #[.int .i64 0, .int .i64 27] ∧ A = []) ∨ (((w.length : Int) ≤ 65 ∧ wgB w = true) ∧ ¬ (x.length = w.length ∧ inB (-1280000) 1280000 x = true) ∧ v = .tuple #[.int .i64 0, .int .i64 25] ∧ A = [])) := by
  subst hnw; subst hnx
  exact bValue_s n _ _ _ _ w x s hs hn hl1 hl2

theorem oValue_s (n : Nat) (d r al up : Int) (a1 a2 : Option Addr) (c1 c2 : Nat) (l1 l2 : List Int) (wk ws ww : Int) (a : Option Addr) (cap : Nat) (M : List (List Int)) (s : St) (hs : Wf s) (hn : 2814749767106560 ≤ n) (hl1 : IntsE s a1 l1) (hl2 : IntsE s a2 l2) (hT : TblE s a M) (hcp : CapOk s a2 l2.length c2) : Spec Tryz.prog (tabK tabw) X (n + 3200) 11 [.agg ⟨[.int .i64 d, .int .i64 r, .slice a1 l1.length c1, .slice a2 l2.length c2, .int .i64 al, .int .i64 up]⟩, .agg ⟨[.slice a M.length cap]⟩, .agg ⟨[.int .i64 wk, .int .i64 ws, .int .i64 ww]⟩] s (fun v A => (¬ ((1 ≤ d ∧ d ≤ 99999) ∧ (1 ≤ r ∧ r ≤ 99999) ∧ (0 ≤ al ∧ al ≤ 100000) ∧ (0 ≤ up ∧ up ≤ 100000) ∧ planB l1 l2 = true) ∧ v = .tuple #[.int .i64 0, .int .i64 30] ∧ A = []) ∨ (((1 ≤ d ∧ d ≤ 99999) ∧ (1 ≤ r ∧ r ≤ 99999) ∧ (0 ≤ al ∧ al ≤ 100000) ∧ (0 ≤ up ∧ up ≤ 100000) ∧ planB l1 l2 = true) ∧ ¬ (M.length = l1.length ∧ allB l2.length M = true) ∧ v = .tuple #[.int .i64 0, .int .i64 34] ∧ A = []) ∨ ((((1 ≤ d ∧ d ≤ 99999) ∧ (1 ≤ r ∧ r ≤ 99999) ∧ (0 ≤ al ∧ al ≤ 100000) ∧ (0 ≤ up ∧ up ≤ 100000) ∧ planB l1 l2 = true) ∧ M.length = l1.length ∧ allB l2.length M = true) ∧ ¬ ((wk = 1 ∧ ws = 0 ∧ (0 ≤ ww ∧ ww ≤ (l2.length : Int) - 1) ∧ 0 < ww) ∨ (wk = 2 ∧ ws = 0 ∧ (0 ≤ ww ∧ ww ≤ (l2.length : Int) - 1)) ∨ (wk = 3 ∧ (0 ≤ ws ∧ ws ≤ (l1.length : Int) - 1) ∧ ww = 0) ∨ (wk = 4 ∧ (0 ≤ ws ∧ ws ≤ (l1.length : Int) - 1) ∧ (0 ≤ ww ∧ ww ≤ (l2.length : Int) - 1))) ∧ v = .tuple #[.int .i64 0, .int .i64 33] ∧ A = []) ∨ ((((1 ≤ d ∧ d ≤ 99999) ∧ (1 ≤ r ∧ r ≤ 99999) ∧ (0 ≤ al ∧ al ≤ 100000) ∧ (0 ≤ up ∧ up ≤ 100000) ∧ planB l1 l2 = true) ∧ M.length = l1.length ∧ allB l2.length M = true) ∧ ((wk = 1 ∧ ws = 0 ∧ (0 ≤ ww ∧ ww ≤ (l2.length : Int) - 1) ∧ 0 < ww) ∨ (wk = 2 ∧ ws = 0 ∧ (0 ≤ ww ∧ ww ≤ (l2.length : Int) - 1)) ∨ (wk = 3 ∧ (0 ≤ ws ∧ ws ≤ (l1.length : Int) - 1) ∧ ww = 0) ∨ (wk = 4 ∧ (0 ≤ ws ∧ ws ≤ (l1.length : Int) - 1) ∧ (0 ≤ ww ∧ ww ≤ (l2.length : Int) - 1))) ∧ v = .tuple #[.int .i64 (resV wk ws ww l1 l2 M), .int .i64 0] ∧ A = [])) := by
 refine enter bw11_at rfl hs ?_
 unfold bw11
 have hlen1 := hl1.len
 have hlen2 := hl2.len
 have hlenT := hT.len
 refine rS (kO rfl (a_box rfl rfl rfl (fun b1 => (kO rfl (a_box rfl rfl rfl (fun b2 => (kO rfl (a_box rfl rfl rfl (fun b3 => (kM rfl rfl (kM rfl rfl (i_nil (rQ (rS (kO rfl (a_lda rfl (by decide) (.next (.next .here)) rfl (kO rfl (a_callE rfl rfl (fun s1 h1 => CheckSpace_s _ _ _ _ _ _ _ _ _ _ _ s1 h1.wf (by omega) (hl1.ext hs h1.2.1) (hl2.ext hs h1.2.1)) (fun h4 => ?_) (fun h4 => ?_)))))))))))))))))))
 ·have hsp := h4
  have hpl := h4.2.2.2.2
  have hp1 := plan_p1 hpl
  have hp2 := plan_p2 hpl
  have hm1 := hp1.hm
  have hm2 := hp2.hm
  have h22 := hp2.h2
  have h21 := hp1.h2
  have hm7 := hp2m hpl
  have hmn : l2.length * l1.length ≤ 63 := Nat.mul_le_mul (show l2.length ≤ 7 by omega) (show l1.length ≤ 9 by omega)
  refine kM rfl rfl (i_nil (rS (kM rfl rfl (kO rfl (a_neq rfl rfl (fun h => absurd h (by decide)) (fun _ => (i_nil (r_cond_f rfl (r_skip (then_n (rQ (rS (kO rfl (a_lda rfl (by decide) (.next (.next .here)) rfl (kO rfl (a_lda rfl (by decide) (.next .here) rfl (kO rfl (a_callb rfl rfl (fun s1 h1 => isHull_s _ _ _ _ _ _ _ _ _ _ _ _ _ _ s1 h1.wf (by omega) (hl1.ext hs h1.2.1) (hl2.ext hs h1.2.1) (hT.ext hs h1.2.1)) (fun h6 => ?_) (fun h6 => ?_)))))))))))))))))))
  ·have hih := h6
   rw [Bool.and_eq_true] at hih
   have hTl : M.length = l1.length := of_decide_eq_true hih.1
   have hall := hih.2
   have hin := hpt_in (n := l2.length) (m := l1.length) (by omega) hTl hall
   refine kO rfl (a_not rfl (i_nil (r_cond_f rfl (r_skip (then_n (rS (kO rfl (a_lda rfl (by decide) (.next (.next .here)) rfl (kO rfl (a_lda rfl (by decide) .here rfl (kO rfl (a_call rfl rfl (fun s1 h1 => oweightsOf_s _ _ _ _ _ _ _ _ _ _ _ _ _ _ s1 h1.wf (by omega) (hl1.ext hs h1.2.1) (hl2.ext hs h1.2.1) hp1 hp2 (hcp.ext hs h1.2.1)) (fun v1 A1 q1 => ?_)))))))))))))
   rcases q1 with ⟨hw, b9, rfl, rfl⟩ | ⟨hw, rfl, rfl⟩
   ·obtain ⟨ws, rfl⟩ : ∃ q : Nat, ws = (q : Int) := ⟨ws.toNat, by omega⟩
    obtain ⟨ww, rfl⟩ : ∃ q : Nat, ww = (q : Int) := ⟨ww.toNat, by omega⟩
    have hrb := resW_bd (wk := wk) hp1 hp2 (h15 hpl) (fun h => by omega) (show ws < l1.length by omega) (show ww < l2.length by omega) (by omega)
    refine kM rfl rfl (kO rfl (a_ext rfl rfl (kO rfl (a_ext rfl rfl (kO rfl (a_ext rfl rfl (kM rfl rfl (kM rfl rfl (kM rfl rfl (i_nil (rQ (rS (kM rfl rfl (kO rfl (a_neq rfl rfl (fun h => absurd h (by decide)) (fun _ => (i_nil (r_cond_f rfl (r_skip (then_n (rS (kM rfl rfl (kO rfl (a_lda rfl (by decide) (.next (.next (.next .here))) rfl (kO rfl (a_lda rfl (by decide) (.next (.next .here)) rfl (kO rfl (a_call rfl rfl (fun s1 h1 => pointOf_s _ _ _ _ _ _ _ _ _ _ _ _ _ _ s1 h1.wf (by omega) (hl1.ext hs h1.2.1) (hl2.ext hs h1.2.1) (hT.ext hs h1.2.1) (by assumption) (by assumption) (by omega) hall) (fun v1 A1 q1 => ?_)))))))))))))))))))))))))))))
    obtain ⟨bp8, rfl, rfl⟩ := q1
    have hwgr : wgB (resW wk ws ww l1 l2) = true := (by unfold wgB; rw [resW_ln]; exact decide_eq_true hrb)
    have hdb := dot_bd (w := resW wk ws ww l1 l2) hin hpt_w (k := (resW wk ws ww l1 l2).length) (Nat.le_refl _)
    have hrb2 : tobP (resW wk ws ww l1 l2) (resW wk ws ww l1 l2).length ≤ 3600000000000 := (by rw [resW_ln]; exact hrb)
    have hrd := resD_pos (wk := wk)
    refine kO rfl (a_call rfl rfl (fun s1 h1 => bValue_n _ _ _ _ _ _ (hpt M l2.length (l2.length * l1.length)) _ _ s1 h1.wf (by omega) resW_ln.symm hpt_len.symm (IntsE.own (h1.own (.next .here)) (resW_fit hrb) (by rw [resW_ln]; omega)) (IntsE.own (h1.own .here) (in_fit hin) (by rw [hpt_len]; omega))) (fun v1 A1 q1 => ?_))
    rcases q1 with ⟨hwo, hxo, rfl, rfl⟩ | ⟨hwo, rfl, rfl⟩ | ⟨hwo, hxo, rfl, rfl⟩
    ·refine kM rfl rfl (kO rfl (a_ext rfl rfl (kO rfl (a_ext rfl rfl (kM rfl rfl (kM rfl rfl (i_nil (rS (kM rfl rfl (kM rfl rfl (kO rfl (a_callV rfl rfl (fun s1 h1 => floor_s _ _ _ s1 h1.wf (by omega) (by omega)) (kM rfl rfl (kM rfl rfl (kM rfl rfl (i_nil (r_ret (end2 rfl rfl (.inr (.inr (.inr ⟨⟨hsp, hTl, hall⟩, hw, ?_, rfl⟩)))))))))))))))))))))
     show _ = Value.tuple #[.int .i64 (flr _ _), .int .i64 0]
     rw [show (resW wk ws ww l1 l2).length = l2.length * l1.length + 1 from resW_ln]; first | done | rfl
    ·exact absurd ⟨by rw [resW_ln]; omega, hwgr⟩ hwo
    ·exact absurd ⟨hpt_w, hin⟩ hxo
   ·refine kM rfl rfl (kO rfl (a_ext rfl rfl (kO rfl (a_ext rfl rfl (kO rfl (a_ext rfl rfl (kM rfl rfl (kM rfl rfl (kM rfl rfl (i_nil (rQ (rS (kM rfl rfl (kO rfl (a_neq rfl rfl (fun _ => (i_nil (r_cond_t rfl (rS (kM rfl rfl (kM rfl rfl (kM rfl rfl (i_nil (r_ret (then_r ?_)))))))))) (fun h => absurd h (by decide)))))))))))))))))
    exact end2 rfl rfl (.inr (.inr (.inl ⟨⟨hsp, hTl, hall⟩, hw, rfl, rfl⟩)))
  ·have hih := h6
   refine kO rfl (a_not rfl (i_nil (r_cond_t rfl (rS (kM rfl rfl (kM rfl rfl (i_nil (r_ret (then_r ?_)))))))))
   exact end2 rfl rfl (.inr (.inl ⟨hsp, (fun q => by (rw [decide_eq_true q.1, q.2] at hih; cases hih)), rfl, rfl⟩))
 ·refine kM rfl rfl (i_nil (rS (kM rfl rfl (kO rfl (a_neq rfl rfl (fun _ => (i_nil (r_cond_t rfl (rS (kM rfl rfl (kM rfl rfl (kM rfl rfl (i_nil (r_ret (then_r ?_)))))))))) (fun h => absurd h (by decide)))))))
  exact end2 rfl rfl (.inl ⟨by assumption, rfl, rfl⟩)

end
end Ev
end Go.Proofs.YtonbhokaeodmdaaGreat

/- Contracts: hulls that are made. -/
namespace Go.Proofs.YtonbhokaeodmdaaGreat
open Go Go.RowKit
namespace Ev
def rowX (x : List Int) (n i k : Nat) : List Int := (List.range k).map fun y => x.getD (n * i + y + 1) 0
def hullR (x : List Int) (n m : Nat) : List (List Int) := (List.range m).map fun i => rowX x n i n
theorem rowX_succ {x : List Int} {n i k : Nat} : ints (rowX x n i (k + 1)) = ints (rowX x n i k) ++ [.int .i64 (x.getD (n * i + k + 1) 0)] := by
  unfold rowX ints; rw [List.range_succ]; simp
theorem rowX_len {x : List Int} {n i k : Nat} : (rowX x n i k).length = k := by simp [rowX]
theorem hullR_succ {x : List Int} {n m : Nat} : hullR x n (m + 1) = hullR x n m ++ [rowX x n m n] := by unfold hullR; rw [List.range_succ]; simp
theorem hullR_len {x : List Int} {n m : Nat} : (hullR x n m).length = m := by simp [hullR]
theorem rowX_fit {x : List Int} {n i k : Nat} (h : ∀ z ∈ x, -9223372036854775808 ≤ z ∧ z < 9223372036854775808) : ∀ z ∈ rowX x n i k, -9223372036854775808 ≤ z ∧ z < 9223372036854775808 := by
  intro z hz
  obtain ⟨y, _, rfl⟩ := List.mem_map.1 hz
  rcases Nat.lt_or_ge (n * i + y + 1) x.length with q | q
  · exact h _ (getD_mem q)
  · rw [getD_out q]; decide
/-- Rows of the call's own, and the slices that lead to them. -/
def RowsOf (T : List Ob) (sl : List Value) (M : List (List Int)) : Prop := sl.length = M.length ∧ ∀ base s, AOk base s T → ∀ k, k < M.length → ∃ ai ci, sl[k]? = some (.slice ai (M.getD k []).length ci) ∧ IntsE s ai (M.getD k [])
theorem RowsOf.add {T : List Ob} {sl : List Value} {M : List (List Int)} {b n : Nat} {l : List Int} (h : RowsOf T sl M) (hn : l.length = n) (hf : ∀ z ∈ l, -9223372036854775808 ≤ z ∧ z < 9223372036854775808) (hl : l.length < 140737488355328) : RowsOf (.row b 3 true (ints l) :: T) (sl ++ [.slice (some ⟨b, 0, none⟩) n OPEN]) (M ++ [l]) := by
  subst hn
  refine ⟨by simp [h.1], fun base s hA k hk => ?_⟩
  obtain ⟨h1, h2, h3, h4⟩ := hA
  rw [List.length_append] at hk
  by_cases hk' : k < M.length
  · obtain ⟨ai, ci, e1, e2⟩ := h.2 base s h4 k hk'
    have e3 : (M ++ [l]).getD k [] = M.getD k [] := by rw [List.getD_eq_getElem?_getD, List.getD_eq_getElem?_getD, List.getElem?_append_left hk']
    rw [e3, List.getElem?_append_left (by rw [h.1]; exact hk')]
    exact ⟨ai, ci, e1, e2⟩
  · have ek : k = M.length := by simp at hk; omega
    subst ek
    have e3 : (M ++ [l]).getD M.length [] = l := by rw [List.getD_eq_getElem?_getD, List.getElem?_append_right (Nat.le_refl _)]; simp
    rw [e3, ← h.1, List.getElem?_append_right (Nat.le_refl _)]
    exact ⟨some ⟨b, 0, none⟩, OPEN, by simp, IntsE.own h2 hf hl⟩
theorem RowsOf.nil : RowsOf [] [] [] := ⟨rfl, fun _ _ _ k hk => absurd hk (Nat.not_lt_zero k)⟩
/-- Objects that are a table. -/
def TabO (T : List Ob) (a : Option Addr) (M : List (List Int)) : Prop := ∀ base s, AOk base s T → TblE s a M
theorem tab_of {T : List Ob} {sl : List Value} {M : List (List Int)} {b : Nat} (h : RowsOf T sl M) (hM : M.length < 140737488355328) : TabO (.row b 22 true sl :: (T ++ [])) (some ⟨b, 0, none⟩) M := by
  intro base s hA
  rw [List.append_nil] at hA
  obtain ⟨h1, h2, h3, h4⟩ := hA
  refine ⟨fun c hc => by cases hc; rfl, fun k hk => ?_, hM⟩
  obtain ⟨ai, ci, e1, e2⟩ := h.2 base s h4 k hk
  exact ⟨b, 0, ai, ci, rfl, Obj.at h2 (by rw [Nat.zero_add, Nat.mul_one]; exact e1), e2⟩
theorem TabO.get {T A : List Ob} {a : Option Addr} {M : List (List Int)} {s0 s : St} (h : TabO T a M) (hs : Hld s0 A s) (hT : T.Sublist A) : TblE s a M := h s0.n s (hs.2.2.sub hT)
theorem idx_lt {n m i y : Nat} (hy : y < n) (hi : i < m) : n * i + y < n * m := by
  have : n * (i + 1) ≤ n * m := Nat.mul_le_mul_left _ hi
  rw [Nat.mul_add, Nat.mul_one] at this
  omega
def ff (bv : Int) (N k : Nat) : List Int := List.replicate k bv ++ List.replicate (N - k) 0
theorem ff_len {bv : Int} {N k : Nat} (h : k ≤ N) : (ff bv N k).length = N := by simp [ff]; omega
theorem ff_set {bv : Int} {N k : Nat} (h : k < N) : (ff bv N k).set k bv = ff bv N (k + 1) := by
  unfold ff
  refine List.ext_getElem? (fun j => ?_)
  rw [List.getElem?_set]
  by_cases hj : k = j
  · subst hj
    rw [if_pos rfl, if_pos (by simp; omega), List.getElem?_append_left (by simp)]
    simp
  · rw [if_neg hj]
    by_cases h1 : j < k
    · rw [List.getElem?_append_left (by simp; omega), List.getElem?_append_left (by simp; omega)]
      simp [h1, show j < k + 1 by omega]
    · rw [List.getElem?_append_right (by simp; omega), List.getElem?_append_right (by simp; omega)]
      simp only [List.length_replicate, List.getElem?_replicate]
      by_cases h2 : j < N
      · rw [if_pos (by omega), if_pos (by omega)]
      · rw [if_neg (by omega), if_neg (by omega)]
theorem ff_get {bv : Int} {N j : Nat} (h : j < N) : (ff bv N N).getD j 0 = bv := by
  unfold ff
  rw [List.getD_eq_getElem?_getD, List.getElem?_append_left (by simpa using h), List.getElem?_replicate, if_pos h]; rfl
theorem ff_fit {bv : Int} {N k : Nat} (h : 0 ≤ bv ∧ bv ≤ 20000) : ∀ z ∈ ff bv N k, -9223372036854775808 ≤ z ∧ z < 9223372036854775808 := by
  intro z hz
  rcases List.mem_append.1 hz with hz | hz
  · rw [(List.mem_replicate.1 hz).2]; omega
  · rw [(List.mem_replicate.1 hz).2]; decide
theorem ff_zero {bv : Int} {N : Nat} : ff bv N 0 = List.replicate N 0 := rfl
/-- A table all of whose numbers are one. -/
structure Flt (M : List (List Int)) (m n : Nat) (bv : Int) : Prop where
  len : M.length = m
  row : ∀ i, i < m → (M.getD i []).length = n
  at_ : ∀ i k, i < m → k < n → (M.getD i []).getD k 0 = bv
theorem flt_of {n m : Nat} {bv : Int} : Flt (hullR (ff bv (n * m + 1) (n * m + 1)) n m) m n bv := by
  have e : ∀ i, i < m → (hullR (ff bv (n * m + 1) (n * m + 1)) n m).getD i [] = rowX (ff bv (n * m + 1) (n * m + 1)) n i n := fun i hi => by
    unfold hullR
    rw [List.getD_eq_getElem?_getD, List.getElem?_map, List.getElem?_range hi]; rfl
  refine ⟨hullR_len, fun i hi => by rw [e i hi, rowX_len], fun i k hi hk => ?_⟩
  rw [e i hi]
  unfold rowX
  rw [List.getD_eq_getElem?_getD, List.getElem?_map, List.getElem?_range hk]
  exact ff_get (by have := idx_lt hk hi; omega)
theorem Flt.all {M : List (List Int)} {m n : Nat} {bv : Int} (h : Flt M m n bv) (hb : 0 ≤ bv ∧ bv ≤ 20000) : allB n M = true := by
  unfold allB
  rw [List.all_eq_true]
  intro r hr
  obtain ⟨i, hi, rfl⟩ := List.getElem_of_mem hr
  have e : M.getD i [] = M[i] := by rw [List.getD_eq_getElem?_getD, List.getElem?_eq_getElem hi]; rfl
  have h1 := h.row i (by rw [← h.len]; exact hi)
  rw [e] at h1
  rw [Bool.and_eq_true]
  refine ⟨decide_eq_true h1, ?_⟩
  unfold inB
  rw [List.all_eq_true]
  intro z hz
  obtain ⟨k, hk, rfl⟩ := List.getElem_of_mem hz
  have h2 := h.at_ i k (by rw [← h.len]; exact hi) (by omega)
  rw [e, List.getD_eq_getElem?_getD, List.getElem?_eq_getElem hk] at h2
  have h3 : M[i][k] = bv := h2
  rw [h3]; simpa using hb
theorem Flt.hpf {M : List (List Int)} {m n : Nat} {bv : Int} (h : Flt M m n bv) (hn : 0 < n) {t : Nat} (ht : t < n * m) : (hpt M n (n * m)).getD (t + 1) 0 = bv := by
  rw [hpt_get ht]
  exact h.at_ _ _ (Nat.div_lt_of_lt_mul ht) (Nat.mod_lt _ hn)
theorem flr_div {a b c q : Int} (h : a = 648 * c) (hc : 0 ≤ c) (hb : b = 648 * q) (hq : 0 < q) : flr a b = c.tdiv q := by
  subst h; subst hb
  unfold flr
  have h1 : ¬ (648 * c).tmod (648 * q) < 0 := by
    have := Int.tmod_nonneg (a := 648 * c) (648 * q) (by omega); omega
  rw [if_neg h1, Int.tdiv_eq_ediv_of_nonneg (by omega), Int.tdiv_eq_ediv_of_nonneg hc, Int.mul_ediv_mul_of_pos _ _ (by decide)]
theorem flr_div2 {a b c q : Int} (h : a = 18 * c) (hc : 0 ≤ c) (hb : b = 18 * q) (hq : 0 < q) : flr a b = c.tdiv q := by
  subst h; subst hb
  unfold flr
  have h1 : ¬ (18 * c).tmod (18 * q) < 0 := by
    have := Int.tmod_nonneg (a := 18 * c) (18 * q) (by omega); omega
  rw [if_neg h1, Int.tdiv_eq_ediv_of_nonneg (by omega), Int.tdiv_eq_ediv_of_nonneg hc, Int.mul_ediv_mul_of_pos _ _ (by decide)]
theorem res_1 {l1 l2 : List Int} {M : List (List Int)} {bv : Int} {k : Nat} (hp1 : Plc 9 100000 l1) (hp2 : Plc 9 100000 l2) (hF : Flt M l1.length l2.length bv) (hb : 0 ≤ bv) (hk : 0 < k) (hk2 : k < l2.length) :
    resV 1 0 (k : Int) l1 l2 M = (2 * bv * (l1.getD (l1.length - 1) 0 - l1.getD 0 0) * (l2.getD k 0 - l2.getD 0 0)).tdiv 1000000 := by
  have h2 := hp2.h2
  have h1 := hp1.h2
  have hq := plc_take hp2 (k := k + 1) (by omega) (by omega)
  have hl : (l2.take (k + 1)).length = k + 1 := by rw [List.length_take]; omega
  obtain ⟨t1, _⟩ := wts_sums hp1
  obtain ⟨t2, _⟩ := wts_sums hq
  have hw := wts_len (l := l2.take (k + 1))
  have g : ∀ j, j < k + 1 → (l2.take (k + 1)).getD j 0 = l2.getD j 0 := fun j hj => by rw [List.getD_eq_getElem?_getD, List.getD_eq_getElem?_getD, List.getElem?_take, if_pos hj]
  have t3 : totP (wts (l2.take (k + 1))) l2.length = 36 * (l2.getD k 0 - l2.getD 0 0) := by
    rw [totP_far (by omega), hw, t2, hl, Nat.add_sub_cancel, g k (by omega), g 0 (by omega)]
  have e : dotP (resW 1 0 (k : Int) l1 l2) (hpt M l2.length (l2.length * l1.length)) (l2.length * l1.length + 1) = 36 * (l1.getD (l1.length - 1) 0 - l1.getD 0 0) * (36 * (l2.getD k 0 - l2.getD 0 0)) * bv := by
    have := gpre_dot (al := wts l1) (up := wts (l2.take (k + 1))) (x := hpt M l2.length (l2.length * l1.length)) (n := l2.length) (m := l1.length) (c := bv) (by omega) (fun t ht => hF.hpf (by omega) ht)
    rw [t1, t3] at this
    exact this
  have a1 := plc_last hp1 (l1.length - 1) 0 (by omega)
  have a2 := plc_last hq k 0 (by omega)
  rw [hl, Nat.add_sub_cancel, g k (by omega), g 0 (by omega)] at a2
  have n1 : 0 ≤ bv * (l1.getD (l1.length - 1) 0 - l1.getD 0 0) := Int.mul_nonneg hb (by omega)
  have n2 : 0 ≤ bv * (l1.getD (l1.length - 1) 0 - l1.getD 0 0) * (l2.getD k 0 - l2.getD 0 0) := Int.mul_nonneg n1 (by omega)
  unfold resV
  rw [e]
  refine flr_div (q := 1000000) ?_ ?_ rfl (by decide)
  · have e1 : 2 * bv * (l1.getD (l1.length - 1) 0 - l1.getD 0 0) * (l2.getD k 0 - l2.getD 0 0) = 2 * (bv * (l1.getD (l1.length - 1) 0 - l1.getD 0 0) * (l2.getD k 0 - l2.getD 0 0)) := by simp only [Int.mul_assoc]
    have e2 : 36 * (l1.getD (l1.length - 1) 0 - l1.getD 0 0) * (36 * (l2.getD k 0 - l2.getD 0 0)) * bv = 1296 * (bv * (l1.getD (l1.length - 1) 0 - l1.getD 0 0) * (l2.getD k 0 - l2.getD 0 0)) := by
      rw [Int.mul_assoc 36, Int.mul_left_comm _ 36, ← Int.mul_assoc 36 36, Int.mul_assoc (36 * 36), Int.mul_comm _ bv, Int.mul_assoc bv]; rfl
    rw [e1, e2]; omega
  · have e1 : 2 * bv * (l1.getD (l1.length - 1) 0 - l1.getD 0 0) * (l2.getD k 0 - l2.getD 0 0) = 2 * (bv * (l1.getD (l1.length - 1) 0 - l1.getD 0 0) * (l2.getD k 0 - l2.getD 0 0)) := by simp only [Int.mul_assoc]
    rw [e1]; omega
theorem res_23 {a b c bv x : Int} (e : c = a * b * bv) (h36 : (a = 36 * x ∧ b = 1) ∨ (a = 1 ∧ b = 36 * x)) (hb : 0 ≤ bv) (hx : 0 ≤ x) : flr c 180000 = (2 * bv * x).tdiv 10000 := by
  have n1 : 0 ≤ bv * x := Int.mul_nonneg hb hx
  have e1 : 2 * bv * x = 2 * (bv * x) := Int.mul_assoc _ _ _
  refine flr_div2 (q := 10000) ?_ (by omega) rfl (by decide)
  rw [e, e1]
  rcases h36 with ⟨rfl, rfl⟩ | ⟨rfl, rfl⟩
  · rw [Int.mul_one, Int.mul_assoc, Int.mul_comm x bv]; omega
  · rw [Int.one_mul, Int.mul_assoc, Int.mul_comm x bv]; omega
theorem res_2 {l1 l2 : List Int} {M : List (List Int)} {bv : Int} {k : Nat} (hp1 : Plc 9 100000 l1) (hp2 : Plc 9 100000 l2) (hF : Flt M l1.length l2.length bv) (hb : 0 ≤ bv) (hk2 : k < l2.length) : resV 2 0 (k : Int) l1 l2 M = (2 * bv * (l1.getD (l1.length - 1) 0 - l1.getD 0 0)).tdiv 10000 := by
  have h1 := hp1.h2
  obtain ⟨t1, _⟩ := wts_sums hp1
  have a1 := plc_last hp1 (l1.length - 1) 0 (by omega)
  have := gpre_dot (al := wts l1) (up := onlyL k) (x := hpt M l2.length (l2.length * l1.length)) (n := l2.length) (m := l1.length) (c := bv) (by omega) (fun t ht => hF.hpf (by omega) ht)
  exact res_23 this (.inl ⟨t1, only_tot hk2⟩) hb (by omega)
theorem res_3 {l1 l2 : List Int} {M : List (List Int)} {bv : Int} {k : Nat} (hp1 : Plc 9 100000 l1) (hp2 : Plc 9 100000 l2) (hF : Flt M l1.length l2.length bv) (hb : 0 ≤ bv) (hk2 : k < l1.length) : resV 3 (k : Int) 0 l1 l2 M = (2 * bv * (l2.getD (l2.length - 1) 0 - l2.getD 0 0)).tdiv 10000 := by
  have h1 := hp2.h2
  obtain ⟨t1, _⟩ := wts_sums hp2
  have a1 := plc_last hp2 (l2.length - 1) 0 (by omega)
  have := gpre_dot (al := onlyL k) (up := wts l2) (x := hpt M l2.length (l2.length * l1.length)) (n := l2.length) (m := l1.length) (c := bv) (by omega) (fun t ht => hF.hpf (by omega) ht)
  exact res_23 this (.inr ⟨only_tot hk2, t1⟩) hb (by omega)

section
variable {X : FuncId → List Value → St → (Value → St → Bool) → Bool}
theorem Rows_s (n : Nat) (d r al up : Int) (a1 a2 : Option Addr) (c1 c2 : Nat) (l1 l2 : List Int) (ax : Option Addr) (cx : Nat) (x : List Int) (s : St) (hs : Wf s) (hn : 844424930131968 ≤ n) (hl1 : IntsE s a1 l1) (hl2 : IntsE s a2 l2) (hX : IntsE s ax x) (hm1 : 2 ≤ l1.length ∧ l1.length ≤ 9) (hm2 : 2 ≤ l2.length ∧ l2.length ≤ 9) (hxl : x.length = l2.length * l1.length + 1) : Spec Tryz.prog (tabK tabw) X (n + 2600) 8 [.agg ⟨[.int .i64 d, .int .i64 r, .slice a1 l1.length c1, .slice a2 l2.length c2, .int .i64 al, .int .i64 up]⟩, .slice ax (l2.length * l1.length + 1) cx] s (fun v A => ∃ b T, v = .agg ⟨[.slice (some ⟨b, 0, none⟩) l1.length OPEN]⟩ ∧ A = T ∧ TabO T (some ⟨b, 0, none⟩) (hullR x l2.length l1.length)) := by
 refine enter bw8_at rfl hs ?_
 unfold bw8
 have hlen1 := hl1.len
 have hlen2 := hl2.len
 have hlenX := hX.len
 have hs9 := mul_sm (x := (l1.length : Int)) (y := (l2.length : Int)) (by omega) (by omega)
 have hN : ((l2.length * l1.length : Nat) : Int) = (l1.length : Int) * (l2.length : Int) := by rw [Int.natCast_mul, Int.mul_comm]
 refine rS (kO rfl (a_box rfl rfl rfl (fun b1 => (kO rfl (a_new rfl rfl (fun b2 => (i_nil (rS (kO rfl (a_new rfl rfl (fun b3 => (i_nil (rQ (rS (kM rfl rfl (i_nil (r_block (r_unroll (rQ (rS (kM rfl rfl (kO rfl (a_fa rfl (kO rfl (a_ld rfl (.next (.next .here)) rfl (kO rfl (a_lenx rfl hl1.spot (kO rfl (a_lss rfl rfl (fun h4 => ?_) (fun h4 => ?_))))))))))))))))))))))))))))))
 ·refine i_nil (r_cond_t rfl (r_skip (then_n (rQ (r_block (rS (kM rfl rfl (i_nil (rQ (rS (kM rfl rfl (i_nil (r_block (r_unroll (rQ (rS (kM rfl rfl (kO rfl (a_fa rfl (kO rfl (a_ld rfl (.next (.next .here)) rfl (kO rfl (a_lenx rfl hl2.spot (kO rfl (a_lss rfl rfl (fun h5 => ?_) (fun h5 => ?_))))))))))))))))))))))))))
  ·refine i_nil (r_cond_t rfl (r_skip (then_n (rQ (r_block (rI (kM rfl rfl (kM rfl rfl (kO rfl (a_lda rfl (by decide) (.next (.next .here)) rfl (kM rfl rfl (kM rfl rfl (kO rfl (a_callV rfl rfl (fun s1 h1 => number_s _ _ _ _ _ _ _ _ _ _ _ _ _ s1 h1.wf (by omega) (hl1.ext hs h1.2.1) (hl2.ext hs h1.2.1) (by omega) (by omega) (by omega)) ?_))))))))))))))
   have hj9 := idx_lt (n := l2.length) (m := l1.length) (i := 0) (y := 0) (by omega) (by omega)
   refine kO rfl (a_iaI (j := l2.length * 0 + 0 + 1) hX rfl rfl (by omega) (by first | rfl | omega) (by omega) (fun _ _ a6 => (kO rfl (a_ldr rfl (hX.at a6 (by omega)) (kO rfl (a_lit rfl rfl rfl (fun b7 => (kO rfl (a_appn rfl rfl (Src.own .here rfl (by simp)) (by decide) (by omega) (by omega) (fun b8 => (kM rfl rfl (i_nil (block_n (then_n (rI (kM rfl rfl (kO rfl (a_add rfl rfl (by decide) (kM rfl rfl (i_nil (then_n (r_loop (fun j e A => ∃ (k bl : Nat), e = [(1, .slice ax (l2.length * l1.length + 1) cx), (2, .pointer (some ⟨b1, 0, none⟩)), (4, .pointer (some ⟨b2, 0, none⟩)), (5, .pointer (some ⟨b3, 0, none⟩)), (6, .int .i64 ((0 : Nat) : Int)), (7, .slice (some ⟨bl, 0, none⟩) k OPEN), (8, .int .i64 (k : Int))] ∧ A = (.row bl 3 true (ints (rowX x l2.length 0 k)) :: (.row b3 30 false ([.slice none 0 0]) :: (.row b2 30 false ([.slice none 0 0]) :: (.row b1 36 false ([.int .i64 d, .int .i64 r, .slice a1 l1.length c1, .slice a2 l2.length c2, .int .i64 al, .int .i64 up]) :: [])))) ∧ j = l2.length - k ∧ k ≤ l2.length) 600 0 281474976710656 ?_ (j := _) (env2 := _) (A2 := _) ?_ ?_ ?_ ?_ ⟨1, b8, rfl, rfl, rfl, (by omega)⟩))))))))))))))))))))))
   rotate_left
   ·omega
   ·omega
   ·exact (lc 1 rfl (lc 2 rfl (lc 4 rfl (lc 5 rfl (lc 6 rfl (lc 7 rfl (lc 8 rfl Less.nil)))))))
   ·exact (.cons_cons _ (.cons _ (.cons_cons _ (.cons_cons _ (.cons_cons _ .slnil)))))
   rintro n hn j _ _ ⟨k, bl, rfl, rfl, rfl, hk⟩
   have hc9 : ((l2.length * 0 : Nat) : Int) = ((0 : Nat) : Int) * (l2.length : Int) := by rw [Int.natCast_mul, Int.mul_comm]
   refine rQ (rS (kM rfl rfl (kO rfl (a_fa rfl (kO rfl (a_ld rfl (.next (.next (.next .here))) rfl (kO rfl (a_lenx rfl hl2.spot (kO rfl (a_lss rfl rfl (fun h9 => ?_) (fun h9 => ?_)))))))))))
   ·refine i_nil (r_cond_t rfl (r_skip (then_n (rQ (r_block (rI (kM rfl rfl (kM rfl rfl (kO rfl (a_lda rfl (by decide) (.next (.next (.next .here))) rfl (kM rfl rfl (kM rfl rfl (kO rfl (a_callV rfl rfl (fun s1 h1 => number_s _ _ _ _ _ _ _ _ _ _ _ _ _ s1 h1.wf (by omega) (hl1.ext hs h1.2.1) (hl2.ext hs h1.2.1) (by omega) (by omega) (by omega)) ?_))))))))))))))
    have hj9 := idx_lt (n := l2.length) (m := l1.length) (i := 0) (y := k) (by omega) (by omega)
    refine kO rfl (a_iaI (j := l2.length * 0 + k + 1) hX rfl rfl (by omega) (by first | rfl | omega) (by omega) (fun _ _ a10 => (kO rfl (a_ldr rfl (hX.at a10 (by omega)) (kO rfl (a_lit rfl rfl rfl (fun b11 => (kO rfl (a_app rfl rfl (Src.own .here rfl (by simp)) (.next .here) (by rw [ints_len, rowX_len, Nat.mul_one]) (.inl ⟨rfl, rfl⟩) (by decide) (by omega) (by omega) (fun b12 => (kM rfl rfl (i_nil (block_n (then_n (rI (kM rfl rfl (kO rfl (a_add rfl rfl (by omega) (kM rfl rfl (i_nil (then_n ?_)))))))))))))))))))))
    exact ⟨rfl, _, _, _, (show l2.length - (k + 1) < l2.length - k by omega), (lc 1 rfl (lc 2 rfl (lc 4 rfl (lc 5 rfl (lc 6 rfl (lc 7 rfl (lc 8 rfl Less.nil))))))), (.cons_cons _ (.cons _ (.cons_cons _ (.cons_cons _ (.cons_cons _ .slnil))))), ⟨k + 1, b12, rfl, (by rw [rowX_succ]; rfl), rfl, by omega⟩⟩
   ·refine i_nil (r_cond_f rfl (r_exit (then_e (then_e (block_hit (then_n (rI (kO rfl (a_fa rfl (kO rfl (a_ld rfl (.next .here) rfl (kM rfl rfl (kO rfl (a_lit rfl rfl rfl (fun b13 => (kO rfl (a_appn rfl rfl (Src.own .here rfl (by simp)) (by decide) (by omega) (by omega) (fun b14 => (kO rfl (a_fa rfl (kZ rfl (a_st rfl rfl (.next (.next (.next .here))) rfl rfl (i_nil (block_n (then_n (rI (kM rfl rfl (kO rfl (a_add rfl rfl (by decide) (kM rfl rfl (i_nil (then_n ?_))))))))))))))))))))))))))))))))
    have hkl : k = l2.length := by omega
    subst hkl
    refine r_loop (fun j e A => ∃ (i bh : Nat) (sl : List Value) (T : List Ob), e = [(1, .slice ax (l2.length * l1.length + 1) cx), (2, .pointer (some ⟨b1, 0, none⟩)), (4, .pointer (some ⟨b2, 0, none⟩)), (5, .pointer (some ⟨b3, 0, none⟩)), (6, .int .i64 (i : Int))] ∧ A = (.row bh 22 true (sl) :: (T ++ (.row b3 30 false ([.slice (some ⟨bh, 0, none⟩) i OPEN]) :: (.row b2 30 false ([.slice none 0 0]) :: (.row b1 36 false ([.int .i64 d, .int .i64 r, .slice a1 l1.length c1, .slice a2 l2.length c2, .int .i64 al, .int .i64 up]) :: []))))) ∧ j = l1.length - i ∧ i ≤ l1.length ∧ 1 ≤ i ∧ sl.length = i ∧ RowsOf T sl (hullR x l2.length i)) 900 281474976710656 281474976710656 ?_ (j := _) (env2 := _) (A2 := _) ?_ ?_ ?_ ?_ ⟨1, b14, [.slice (some ⟨bl, 0, none⟩) l2.length OPEN], [.row bl 3 true (ints (rowX x l2.length 0 l2.length))], rfl, rfl, rfl, (by omega), (by omega), rfl, (RowsOf.nil.add rowX_len (rowX_fit hX.fit) (by rw [rowX_len]; omega))⟩
    rotate_left
    ·omega
    ·omega
    ·exact (lc 1 rfl (lc 2 rfl (lc 4 rfl (lc 5 rfl (lc 6 rfl Less.nil)))))
    ·exact (.cons_cons _ (.cons _ (.cons_cons _ (.cons_cons _ (.cons_cons _ (.cons_cons _ .slnil))))))
    rintro n hn j _ _ ⟨i, bh, sl, T, rfl, rfl, rfl, hi, hi1, hsl, hR⟩
    have hc9 : ((l2.length * i : Nat) : Int) = (i : Int) * (l2.length : Int) := by rw [Int.natCast_mul, Int.mul_comm]
    refine rQ (rS (kM rfl rfl (kO rfl (a_fa rfl (kO rfl (a_ld rfl (.next (.app (.next (.next .here)))) rfl (kO rfl (a_lenx rfl hl1.spot (kO rfl (a_lss rfl rfl (fun h15 => ?_) (fun h15 => ?_)))))))))))
    ·refine i_nil (r_cond_t rfl (r_skip (then_n (rQ (r_block (rS (kM rfl rfl (i_nil (rQ (rS (kM rfl rfl (i_nil (r_block (r_unroll (rQ (rS (kM rfl rfl (kO rfl (a_fa rfl (kO rfl (a_ld rfl (.next (.app (.next (.next .here)))) rfl (kO rfl (a_lenx rfl hl2.spot (kO rfl (a_lss rfl rfl (fun h16 => ?_) (fun h16 => ?_))))))))))))))))))))))))))
     ·refine i_nil (r_cond_t rfl (r_skip (then_n (rQ (r_block (rI (kM rfl rfl (kM rfl rfl (kO rfl (a_lda rfl (by decide) (.next (.app (.next (.next .here)))) rfl (kM rfl rfl (kM rfl rfl (kO rfl (a_callV rfl rfl (fun s1 h1 => number_s _ _ _ _ _ _ _ _ _ _ _ _ _ s1 h1.wf (by omega) (hl1.ext hs h1.2.1) (hl2.ext hs h1.2.1) (by omega) (by omega) (by omega)) ?_))))))))))))))
      have hj9 := idx_lt (n := l2.length) (m := l1.length) (i := i) (y := 0) (by omega) (by omega)
      refine kO rfl (a_iaI (j := l2.length * i + 0 + 1) hX rfl rfl (by omega) (by first | rfl | omega) (by omega) (fun _ _ a17 => (kO rfl (a_ldr rfl (hX.at a17 (by omega)) (kO rfl (a_lit rfl rfl rfl (fun b18 => (kO rfl (a_appn rfl rfl (Src.own .here rfl (by simp)) (by decide) (by omega) (by omega) (fun b19 => (kM rfl rfl (i_nil (block_n (then_n (rI (kM rfl rfl (kO rfl (a_add rfl rfl (by decide) (kM rfl rfl (i_nil (then_n ?_)))))))))))))))))))))
      refine r_loop (fun j e A => ∃ (k bl : Nat), e = [(1, .slice ax (l2.length * l1.length + 1) cx), (2, .pointer (some ⟨b1, 0, none⟩)), (4, .pointer (some ⟨b2, 0, none⟩)), (5, .pointer (some ⟨b3, 0, none⟩)), (6, .int .i64 ((i : Nat) : Int)), (7, .slice (some ⟨bl, 0, none⟩) k OPEN), (8, .int .i64 (k : Int))] ∧ A = (.row bl 3 true (ints (rowX x l2.length i k)) :: (.row bh 22 true (sl) :: (T ++ (.row b3 30 false ([.slice (some ⟨bh, 0, none⟩) i OPEN]) :: (.row b2 30 false ([.slice none 0 0]) :: (.row b1 36 false ([.int .i64 d, .int .i64 r, .slice a1 l1.length c1, .slice a2 l2.length c2, .int .i64 al, .int .i64 up]) :: [])))))) ∧ j = l2.length - k ∧ k ≤ l2.length) 600 0 281474976710656 ?_ (j := _) (env2 := _) (A2 := _) ?_ ?_ ?_ ?_ ⟨1, b19, rfl, rfl, rfl, (by omega)⟩
      rotate_left
      ·omega
      ·omega
      ·exact (lc 1 rfl (lc 2 rfl (lc 4 rfl (lc 5 rfl (lc 6 rfl (lc 7 rfl (lc 8 rfl Less.nil)))))))
      ·exact (.cons_cons _ (.cons _ (.cons_cons _ (List.Sublist.append (List.Sublist.refl _) (.cons_cons _ (.cons_cons _ (.cons_cons _ .slnil)))))))
      rintro n hn j _ _ ⟨k, bl, rfl, rfl, rfl, hk⟩
      have hc9 : ((l2.length * i : Nat) : Int) = ((i : Nat) : Int) * (l2.length : Int) := by rw [Int.natCast_mul, Int.mul_comm]
      refine rQ (rS (kM rfl rfl (kO rfl (a_fa rfl (kO rfl (a_ld rfl (.next (.next (.app (.next (.next .here))))) rfl (kO rfl (a_lenx rfl hl2.spot (kO rfl (a_lss rfl rfl (fun h20 => ?_) (fun h20 => ?_)))))))))))
      ·refine i_nil (r_cond_t rfl (r_skip (then_n (rQ (r_block (rI (kM rfl rfl (kM rfl rfl (kO rfl (a_lda rfl (by decide) (.next (.next (.app (.next (.next .here))))) rfl (kM rfl rfl (kM rfl rfl (kO rfl (a_callV rfl rfl (fun s1 h1 => number_s _ _ _ _ _ _ _ _ _ _ _ _ _ s1 h1.wf (by omega) (hl1.ext hs h1.2.1) (hl2.ext hs h1.2.1) (by omega) (by omega) (by omega)) ?_))))))))))))))
       have hj9 := idx_lt (n := l2.length) (m := l1.length) (i := i) (y := k) (by omega) (by omega)
       refine kO rfl (a_iaI (j := l2.length * i + k + 1) hX rfl rfl (by omega) (by first | rfl | omega) (by omega) (fun _ _ a21 => (kO rfl (a_ldr rfl (hX.at a21 (by omega)) (kO rfl (a_lit rfl rfl rfl (fun b22 => (kO rfl (a_app rfl rfl (Src.own .here rfl (by simp)) (.next .here) (by rw [ints_len, rowX_len, Nat.mul_one]) (.inl ⟨rfl, rfl⟩) (by decide) (by omega) (by omega) (fun b23 => (kM rfl rfl (i_nil (block_n (then_n (rI (kM rfl rfl (kO rfl (a_add rfl rfl (by omega) (kM rfl rfl (i_nil (then_n ?_)))))))))))))))))))))
       exact ⟨rfl, _, _, _, (show l2.length - (k + 1) < l2.length - k by omega), (lc 1 rfl (lc 2 rfl (lc 4 rfl (lc 5 rfl (lc 6 rfl (lc 7 rfl (lc 8 rfl Less.nil))))))), (.cons_cons _ (.cons _ (.cons_cons _ (List.Sublist.append (List.Sublist.refl _) (.cons_cons _ (.cons_cons _ (.cons_cons _ .slnil))))))), ⟨k + 1, b23, rfl, (by rw [rowX_succ]; rfl), rfl, by omega⟩⟩
      ·refine i_nil (r_cond_f rfl (r_exit (then_e (then_e (block_hit (then_n (rI (kO rfl (a_fa rfl (kO rfl (a_ld rfl (.next (.next (.app .here))) rfl (kM rfl rfl (kO rfl (a_lit rfl rfl rfl (fun b24 => (kO rfl (a_app rfl rfl (Src.own .here rfl (by simp)) (.next (.next .here)) (by rw [hsl, Nat.mul_one]) (.inl ⟨rfl, rfl⟩) (by decide) (by omega) (by omega) (fun b25 => (kO rfl (a_fa rfl (kZ rfl (a_st rfl rfl (.next (.next (.next (.app .here)))) rfl rfl (i_nil (block_n (then_n (rI (kM rfl rfl (kO rfl (a_add rfl rfl (by omega) (kM rfl rfl (i_nil (then_n ?_))))))))))))))))))))))))))))))))
       have hkl : k = l2.length := by omega
       subst hkl
       exact ⟨rfl, _, _, _, (show l1.length - (i + 1) < l1.length - i by omega), (lc 1 rfl (lc 2 rfl (lc 4 rfl (lc 5 rfl (lc 6 rfl Less.nil))))), (.cons_cons _ (.cons _ (.cons_cons _ (List.Sublist.append (List.Sublist.refl _) (.cons_cons _ (.cons_cons _ (.cons_cons _ .slnil))))))), ⟨i + 1, b25, sl ++ [.slice (some ⟨bl, 0, none⟩) l2.length OPEN], (.row bl 3 true (ints (rowX x l2.length i l2.length)) :: T), rfl, rfl, rfl, by omega, by omega, (by simp [hsl]), (by rw [hullR_succ]; exact hR.add rowX_len (rowX_fit hX.fit) (by rw [rowX_len]; omega))⟩⟩
     ·exfalso; omega
    ·refine i_nil (r_cond_f rfl (r_exit (then_e (then_e (block_hit (then_n (rS (kO rfl (a_lda rfl (by decide) (.next (.app .here)) rfl (kZ rfl (a_sta rfl rfl (.next (.app (.next .here))) rfl rfl rfl rfl (i_nil (r_ret ?_)))))))))))))
     have hil : i = l1.length := by omega
     subst hil
     refine ⟨rfl, [_], _, ⟨_, _, _, [], rfl, rfl, by decide, ⟨_, _, _, (.next (.app (.next .here))), rfl⟩, rfl⟩, (.cons_cons _ (List.Sublist.append (List.Sublist.refl _) (.cons _ (.cons _ (.cons _ .slnil))))), bh, _, rfl, rfl, tab_of hR (by rw [hullR_len]; omega)⟩
  ·exfalso; omega
 ·exfalso; omega

theorem Flat_s (n : Nat) (d r al up : Int) (a1 a2 : Option Addr) (c1 c2 : Nat) (l1 l2 : List Int) (bv : Int) (s : St) (hs : Wf s) (hn : 1407374883553280 ≤ n) (hl1 : IntsE s a1 l1) (hl2 : IntsE s a2 l2) (hm1 : 2 ≤ l1.length ∧ l1.length ≤ 9) (hm2 : 2 ≤ l2.length ∧ l2.length ≤ 9) (hbv : 0 ≤ bv ∧ bv ≤ 20000) : Spec Tryz.prog (tabK tabw) X (n + 2900) 16 [.agg ⟨[.int .i64 d, .int .i64 r, .slice a1 l1.length c1, .slice a2 l2.length c2, .int .i64 al, .int .i64 up]⟩, .int .i64 bv] s (fun v A => ∃ b T M, v = .agg ⟨[.slice (some ⟨b, 0, none⟩) l1.length OPEN]⟩ ∧ A = T ∧ TabO T (some ⟨b, 0, none⟩) M ∧ Flt M l1.length l2.length bv) := by
 refine enter bw16_at rfl hs ?_
 unfold bw16
 have hlen1 := hl1.len
 have hlen2 := hl2.len
 have hs9 := mul_sm (x := (l1.length : Int)) (y := (l2.length : Int)) (by omega) (by omega)
 have hN : ((l2.length * l1.length : Nat) : Int) = (l1.length : Int) * (l2.length : Int) := by rw [Int.natCast_mul, Int.mul_comm]
 refine rS (kO rfl (a_box rfl rfl rfl (fun b1 => (kO rfl (a_new rfl rfl (fun b2 => (i_nil (rS (kO rfl (a_lda rfl (by decide) (.next .here) rfl (kO rfl (a_callV rfl rfl (fun s1 h1 => offsets_s _ _ _ _ _ _ _ _ _ _ _ s1 h1.wf (by omega) (hl1.ext hs h1.2.1) (hl2.ext hs h1.2.1) (by omega)) (kO rfl (a_add rfl rfl (by omega) (kO rfl (a_mksZ (m := l2.length * l1.length + 1) rfl rfl (by omega) (by omega) (by omega) (fun b3 => (kM rfl rfl (i_nil (rQ (rS (kM rfl rfl (i_nil (r_block (r_loop (fun j e A => ∃ (k : Nat), e = [(1, .int .i64 bv), (2, .pointer (some ⟨b1, 0, none⟩)), (4, .pointer (some ⟨b2, 0, none⟩)), (5, .slice (some ⟨b3, 0, none⟩) (l2.length * l1.length + 1) (l2.length * l1.length + 1)), (6, .int .i64 (k : Int))] ∧ A = (.row b3 3 false (ints (ff bv (l2.length * l1.length + 1) k)) :: (.row b2 30 false ([.slice none 0 0]) :: (.row b1 36 false ([.int .i64 d, .int .i64 r, .slice a1 l1.length c1, .slice a2 l2.length c2, .int .i64 al, .int .i64 up]) :: []))) ∧ j = l2.length * l1.length + 1 - k ∧ k ≤ l2.length * l1.length + 1) 300 0 281474976710656 ?_ (j := _) (env2 := _) (A2 := _) ?_ ?_ ?_ ?_ ⟨0, rfl, rfl, rfl, Nat.zero_le _⟩)))))))))))))))))))))))))
 rotate_left
 ·omega
 ·omega
 ·exact (lc 1 rfl (lc 2 rfl (lc 4 rfl (lc 5 rfl (lc 6 rfl Less.nil)))))
 ·exact (.cons_cons _ (.cons_cons _ (.cons_cons _ .slnil)))
 rintro n hn j _ _ ⟨k, rfl, rfl, rfl, hk⟩
 have hfl := ff_len (bv := bv) (N := l2.length * l1.length + 1) (k := k) hk
 refine rQ (rS (kM rfl rfl (kM rfl rfl (kO rfl (a_len rfl (kO rfl (a_lss rfl rfl (fun h4 => ?_) (fun h4 => ?_))))))))
 ·refine i_nil (r_cond_t rfl (r_skip (then_n (rQ (r_block (rI (kM rfl rfl (kM rfl rfl (kM rfl rfl (kO rfl (a_ia (j := k) rfl rfl (by omega) (by omega) (kZ rfl (a_stI rfl rfl .here (by first | omega | (simp; done) | (simp [wlen]; omega) | (simp; omega)) (i_nil (block_n (then_n (rI (kM rfl rfl (kO rfl (a_add rfl rfl (by omega) (kM rfl rfl (i_nil (then_n ?_)))))))))))))))))))))))
  exact ⟨rfl, _, _, _, (show l2.length * l1.length + 1 - (k + 1) < l2.length * l1.length + 1 - k by omega), (lc 1 rfl (lc 2 rfl (lc 4 rfl (lc 5 rfl (lc 6 rfl Less.nil))))), (.cons_cons _ (.cons_cons _ (.cons_cons _ .slnil))), ⟨k + 1, rfl, (by rw [ff_set (by omega)]), rfl, by omega⟩⟩
 ·have hkN : k = l2.length * l1.length + 1 := by omega
  subst hkN
  refine i_nil (r_cond_f rfl (r_exit (then_e (then_e (block_hit (then_n (rS (kO rfl (a_lda rfl (by decide) (.next (.next .here)) rfl (kM rfl rfl (kO rfl (a_call rfl rfl (fun s1 h1 => Rows_s _ _ _ _ _ _ _ _ _ _ _ _ _ (ff bv (l2.length * l1.length + 1) (l2.length * l1.length + 1)) s1 h1.wf (by omega) (hl1.ext hs h1.2.1) (hl2.ext hs h1.2.1) (IntsE.own (h1.own .here) (ff_fit hbv) (by rw [ff_len (by omega)]; omega)) (by omega) (by omega) (ff_len (by omega))) (fun v1 A1 q1 => ?_)))))))))))))
  obtain ⟨bt5, T6, rfl, rfl, hTab7⟩ := q1
  refine kZ rfl (a_sta rfl rfl (.app (.next .here)) rfl rfl rfl rfl (i_nil (r_ret (⟨rfl, [_], _, ⟨_, _, _, [], rfl, rfl, by decide, ⟨_, _, _, (.app (.next .here)), rfl⟩, rfl⟩, (List.Sublist.append (List.Sublist.refl _) (.cons _ (.cons _ (.cons _ .slnil)))), bt5, _, _, rfl, List.append_nil _, hTab7, flt_of⟩))))

end
end Ev
end Go.Proofs.YtonbhokaeodmdaaGreat

/- A world as memory that is only read: whatever came in. No program here. -/
namespace Go.Proofs.YtonbhokaeodmdaaGreat.Ev
open Go Go.RowKit
noncomputable section

def isCells : Go.Obj → Bool
  | .cells _ _ _ => true
  | _ => false
def wmp (W : World) : Mp := fun i => match W.heap[i]? with
  | some o => if isCells o then some (i, 0) else none
  | none => none
open Classical in
def romOf (W : World) : Go.Obj → CObj
  | .cells cs _ _ => .rom (fun j => match cs[j]? with | some v => if VR (wmp W) v v ∧ oneCell v = true then some v else none | none => none)
  | _ => .dead
def wst (W : World) : St := ⟨BT.ofList (W.heap.toList.map (romOf W)), W.heap.size⟩
theorem ofList_full {α : Type} (l : List α) : Full (BT.ofList l) l.length := by
  have := full_adds (l := l) (t := (.leaf : BT α)) (n := 0) (by simp [Full])
  rw [Nat.zero_add] at this
  exact this
theorem ofList_at {α : Type} {l : List α} {i : Nat} {v : α} (h : l[i]? = some v) : (BT.ofList l).get i = some v := by
  have hi : i < l.length := (List.getElem?_eq_some_iff.1 h).1
  obtain ⟨u, hu⟩ := Option.isSome_iff_exists.1 ((ofList_full l).some i hi)
  have := ofList_get hu
  rw [h] at this; cases this; exact hu
theorem wst_wf (W : World) : Wf (wst W) := by
  have := ofList_full (W.heap.toList.map (romOf W))
  simpa [wst, Wf] using this
theorem wst_at {W : World} {b : Nat} {o : Go.Obj} (h : W.heap[b]? = some o) : (wst W).h.get b = some (romOf W o) := by
  refine ofList_at ?_
  rw [List.getElem?_map]
  have : W.heap.toList[b]? = some o := by simpa using h
  rw [this]; rfl
theorem wmp_inv {W : World} {i x y : Nat} (h : wmp W i = some (x, y)) : x = i ∧ ∃ cs e fr, W.heap[i]? = some (.cells cs e fr) := by
  unfold wmp at h
  split at h
  · rename_i o ho
    cases o with
    | cells cs e fr => simp [isCells] at h; exact ⟨h.1.symm, cs, e, fr, ho⟩
    | _ => simp [isCells] at h
  · cases h
theorem wmp_of {W : World} {i : Nat} {cs : Array Value} {e : Nat} {fr : Nat × Nat} (h : W.heap[i]? = some (.cells cs e fr)) : wmp W i = some (i, 0) := by
  unfold wmp; rw [h]; rfl
theorem emb_world (P : Program) (W : World) : Emb P (fun _ => none) W.heap.size (wmp W) (wst W) W := by
  refine ⟨fun i x y hi => ?_, fun i p hi => ?_, fun i x y o hi ho => ?_, fun i j x y y' hi hj hij hB => ?_, Nat.le_refl _, fun i o h => by cases h⟩
  · obtain ⟨rfl, cs, e, fr, h⟩ := wmp_inv hi
    exact ⟨.inr ⟨_, wst_at h⟩, (Array.getElem?_eq_some_iff.1 h).1⟩
  · obtain ⟨x, y⟩ := p
    obtain ⟨_, cs, e, fr, h⟩ := wmp_inv hi
    exact (Array.getElem?_eq_some_iff.1 h).1
  · obtain ⟨rfl, cs, e, fr, h⟩ := wmp_inv hi
    have h1 := wst_at h
    rw [ho] at h1
    have h2 : o = romOf W (.cells cs e fr) := Option.some.inj h1
    subst h2
    refine ⟨_, h, cs, e, fr, rfl, fun j v hj => ?_⟩
    dsimp only at hj
    split at hj
    · rename_i u hu
      split at hj
      · rename_i hc
        cases hj
        exact ⟨hc.2, _, hu, hc.1⟩
      · cases hj
    · cases hj
  · obtain ⟨rfl, cs, e, fr, h⟩ := wmp_inv hi
    have := (Array.getElem?_eq_some_iff.1 h).1
    omega
theorem at_world {W : World} {b o : Nat} {v : Value} (h : W.cell? ⟨b, o, none⟩ = some v) (hv : VR (wmp W) v v) (h1 : oneCell v = true) : At (wst W) b o v := by
  have hb : ∃ cs e fr, W.heap[b]? = some (.cells cs e fr) ∧ cs[o]? = some v := by
    unfold World.cell? at h
    dsimp only at h
    split at h
    · rename_i cs e fr hh; exact ⟨cs, e, fr, by first | exact hh | exact hh.1, h⟩
    · cases h
  obtain ⟨cs, e, fr, h2, h3⟩ := hb
  refine ⟨_, .inr (wst_at h2), ?_⟩
  simp [h3, hv, h1]
theorem Emb.below {P : Program} {K : Kp} {B : Nat} {m : Mp} {s : St} {w w' : World} (E : Emb P K B m s w) (h : Below w.heap.size w w') : Emb P K B m s w' := by
  have hs : w.heap.size ≤ w'.heap.size := h.size
  refine ⟨fun i x y hi => ⟨(E.low i x y hi).1, Nat.lt_of_lt_of_le (E.low i x y hi).2 hs⟩, E.old, fun i x y o hi ho => ?_, E.inj, Nat.le_trans E.base hs, E.kept⟩
  obtain ⟨o', h1, h2⟩ := E.obj i x y o hi ho
  exact ⟨o', (h.block x (E.low i x y hi).2).trans h1, h2⟩

/-- One call that is known: it needs nothing, leaves all as it was, and hands back true. -/
def knownX (g : Nat) : FuncId → List Value → St → (Value → St → Bool) → Bool := fun f vs s k => Nat.beq f g && (match vs with | [] => true | _ => false) && k (.bool true) s
theorem known_ok {P : Program} {g : Nat} {c : CF} (hc : compF P g = some c) (h : ∀ w, Calls P g #[] w fun e w' => e = .returned (.bool true) ∧ Below w.heap.size w w') : KnownOk P (knownX g) := by
  intro K B f vs s k hk m w us E hv
  unfold knownX at hk
  simp only [Bool.and_eq_true] at hk
  obtain ⟨⟨h1, h2⟩, h3⟩ := hk
  have hf : f = g := by simpa using h1
  subst hf
  cases vs with
  | cons v l => cases h2
  | nil =>
    have : us = [] := by simpa only [LR] using hv
    subst this
    obtain ⟨fn, cd, r, e1, e2, e3, e4, _⟩ := compF_inv hc
    refine ⟨fun w => ?_, CallsIn.mono ((callsIn_wide (n := 0)).2 (h w)) (fun e w' he => ?_)⟩
    · have h4' : ¬ fn.name = "runtime.NumGoroutine" := by simpa using e4
      simp [callFunc, e1, e2, h4']
    · obtain ⟨rfl, hb⟩ := he
      exact ⟨.bool true, s, m, h3, Mp.le_refl m, E.below hb, hb.mono E.base, by simp only [VR]⟩
theorem known_s {P : Program} {C : Nat → (CF → Bool) → Bool} {g : Nat} (n : Nat) (s : St) (hs : Wf s) : Spec P C (knownX g) n g [] s (fun v A => v = .bool true ∧ A = []) := by
  intro k hk
  have h1 : knownX g g [] s k = true := by
    unfold knownX
    rw [hk _ s ⟨[], Hld.start hs, rfl, rfl⟩, show Nat.beq g g = true from by rw [Nat.beq_eq]]; rfl
  cases n with
  | zero => exact h1
  | succ n =>
    show (knownX g g [] s k || _) = true
    rw [h1]; rfl
/-- What the evaluator says of a call whose memory is the world itself, the program does. -/
theorem law_open {P : Program} {t : BT (Option CF)} (h : Holds P t 0 1) {X : FuncId → List Value → St → (Value → St → Bool) → Bool} (hX : KnownOk P X) {n : Nat} {f : FuncId} {vs us : List Value} {W : World} (hs : Spec P (tabK t) X n f vs (wst W) (fun v A => v = .bool true ∧ A = [])) (hv : LR (wmp W) vs us) :
    Calls P f ⟨us⟩ W (fun e w' => e = .returned (.bool true) ∧ Below W.heap.size W w') := by
  refine Calls.mono (open_ok h hX (k := fun v _ => trueK v) (hs _ (fun v s' hq => by obtain ⟨A, _, rfl, _⟩ := hq; rfl)) (emb_world P W) hv) (fun e w' he => ?_)
  obtain ⟨u, rfl, h1, v, s', m', h2, _, _, h3⟩ := he
  obtain ⟨b, rfl, h4⟩ := onBool_inv (k := fun b => b) h2
  have hb : b = true := h4
  subst hb
  have : u = .bool true := by simpa only [VR] using h3
  exact ⟨by rw [this], h1⟩

/-! What the row lets in stands for itself. -/
theorem VR.int {m : Mp} (k : IntKind) (n : Int) : VR m (.int k n) (.int k n) := by simp only [VR]
theorem VR.slice0 {m : Mp} : VR m (.slice none 0 0) (.slice none 0 0) := by simp only [VR]; exact ⟨by decide, trivial⟩
theorem VR.slice1 {W : World} {b o n c : Nat} {cs : Array Value} {e : Nat} {fr : Nat × Nat} (h : W.heap[b]? = some (.cells cs e fr)) (hc : c < OPEN) : VR (wmp W) (.slice (some ⟨b, o, none⟩) n c) (.slice (some ⟨b, o, none⟩) n c) := by
  simp only [VR]
  refine ⟨trivial, ?_⟩
  rw [if_pos hc]
  exact ⟨b, 0, wmp_of h, rfl⟩
theorem VR.agg {m : Mp} {l l' : List Value} (h : LR m l l') : VR m (.agg ⟨l⟩) (.agg ⟨l'⟩) := by
  simp only [VR, AR]
  exact ⟨_, rfl, l', rfl, h⟩
theorem LR.nil {m : Mp} : LR m [] [] := by simp only [LR]
theorem LR.cons {m : Mp} {v v' : Value} {l l' : List Value} (h : VR m v v') (hl : LR m l l') : LR m (v :: l) (v' :: l') := by
  simp only [LR]
  exact ⟨v', l', rfl, h, hl⟩
/-- A slice that came in: nil, or in a row of cells, its cap an int. -/
def NiceS (W : World) (a : Option Addr) (n c : Nat) : Prop := (a = none ∧ n = 0 ∧ c = 0) ∨ ∃ b o cs e fr, a = some ⟨b, o, none⟩ ∧ W.heap[b]? = some (.cells cs e fr) ∧ c < OPEN
theorem NiceS.vr {W : World} {a : Option Addr} {n c : Nat} (h : NiceS W a n c) : VR (wmp W) (.slice a n c) (.slice a n c) := by
  rcases h with ⟨rfl, rfl, rfl⟩ | ⟨b, o, cs, e, fr, rfl, h, hc⟩
  · exact VR.slice0
  · exact VR.slice1 h hc
theorem NiceS.spot {W : World} {a : Option Addr} {n c : Nat} (h : NiceS W a n c) : ∀ b, a = some b → b.spot = none := by
  rcases h with ⟨rfl, rfl, rfl⟩ | ⟨b, o, cs, e, fr, rfl, h, hc⟩
  · intro b hb; cases hb
  · intro b hb; cases hb; rfl
theorem cell_niceS {P : Program} {W : World} {r : Reach} {b0 : Nat} {t e : TypeId} {v : Value} (ht : P.underlying t = some (.slice e)) (h : Cell.okWide P W r b0 t v) : ∃ a n c, v = .slice a n c ∧ NiceS W a n c := by
  simp only [Cell.okWide, ht] at h
  unfold Cell.ok at h
  rw [ht] at h
  split at h
  all_goals first
    | exact absurd h id
    | (rename_i h1; cases h1; done)
    | exact ⟨_, _, _, rfl, .inl ⟨rfl, rfl, rfl⟩⟩
    | skip
  all_goals first
    | (rename_i a len cap _; obtain ⟨h1, h2, _, hs, row, cells, h3, _⟩ := h
       refine ⟨_, _, _, rfl, .inr ?_⟩
       obtain ⟨b, o, spot⟩ := a
       have hs' : spot = none := hs
       subst hs'
       unfold World.shape? at h3
       split at h3
       · rename_i cs e' fr hh
         exact ⟨b, o, _, _, _, rfl, hh, by simp [IntKind.max, IntKind.signed, IntKind.bits] at h2; unfold OPEN; omega⟩
       · cases h3)
    | simp_all
end
end Go.Proofs.YtonbhokaeodmdaaGreat.Ev

/- The law FormLines, by the evaluator. -/
namespace Go.Proofs.YtonbhokaeodmdaaGreat
open Go Go.RowKit
namespace Ev
theorem plc_le {m hi : Int} {l : List Int} (h : Plc m hi l) : ∀ (d k : Nat), k + d < l.length → l.getD k 0 ≤ l.getD (k + d) 0
  | 0, k, _ => Int.le_refl _
  | d + 1, k, hk => by
    have h1 := plc_le h d k (by omega)
    have h2 := h.rise (k + d) (by omega)
    show _ ≤ l.getD (k + d + 1) 0
    omega
theorem tdiv_I {a b : Int} (ha : -5000000000000000000 ≤ a ∧ a ≤ 5000000000000000000) (hb : 0 < b) : -9223372036854775808 ≤ a.tdiv b ∧ a.tdiv b < 9223372036854775808 := by
  have := tdiv_rg ha hb; omega
theorem asc_fit {l : List Int} {x : Int} (h : Asc l x) (hx : x ≤ 100000) : ∀ z ∈ l, -9223372036854775808 ≤ z ∧ z < 9223372036854775808 := fun z hz => by have := h.2 z hz; omega
theorem nat_of {x : Int} (h : 0 ≤ x) : ∃ k : Nat, x = (k : Int) := ⟨x.toNat, (Int.toNat_of_nonneg h).symm⟩

section
theorem oValue_n (n : Nat) (d r al up : Int) (a1 a2 : Option Addr) (c1 c2 : Nat) (l1 l2 : List Int) (wk ws ww : Int) (a : Option Addr) (cap : Nat) (M : List (List Int)) (nM : Nat) (s : St) (hs : Wf s) (hn : 2814749767106560 ≤ n) (hnM : nM = M.length) (hl1 : IntsE s a1 l1) (hl2 : IntsE s a2 l2) (hT : TblE s a M) (hcp : CapOk s a2 l2.length c2) : Spec Tryz.prog (tabK tabw) (knownX 5) (n + 3200) 11 [.agg ⟨[.int .i64 d, .int .i64 r, .slice a1 l1.length c1, .slice a2 l2.length c2, .int .i64 al, .int .i64 up]⟩, .agg ⟨[.slice a nM cap]⟩, .agg ⟨[.int .i64 wk, .int .i64 ws, .int .i64 ww]⟩] s (fun v A => (¬ ((1 ≤ d ∧ d ≤ 99999) ∧ (1 ≤ r ∧ r ≤ 99999) ∧ (0 ≤ al ∧ al ≤ 100000) ∧ (0 ≤ up ∧ up ≤ 100000) ∧ planB l1 l2 = true) ∧ v = .tuple #[.int .i64 0, .int .i64 30] ∧ A = []) ∨ (((1 ≤ d ∧ d ≤ 99999) ∧ (1 ≤ r ∧ r ≤ 99999) ∧ (0 ≤ al ∧ al ≤ 100000) ∧ (0 ≤ up ∧ up ≤ 100000) ∧ planB l1 l2 = true) ∧ ¬ (M.length = l1.length ∧ allB l2.length M = true) ∧ v = .tuple #[.int .i64 0, .int .i64 34] ∧ A = []) ∨ ((((1 ≤ d ∧ d ≤ 99999) ∧ (1 ≤ r ∧ r ≤ 99999) ∧ (0 ≤ al ∧ al ≤ 100000) ∧ (0 ≤ up ∧ up ≤ 100000) ∧ planB l1 l2 = true) ∧ M.length = l1.length ∧ allB l2.length M = true) ∧ ¬ ((wk = 1 ∧ ws = 0 ∧ (0 ≤ ww ∧ ww ≤ (l2.length : Int) - 1) ∧ 0 < ww) ∨ (wk = 2 ∧ ws = 0 ∧ (0 ≤ ww ∧ ww ≤ (l2.length : Int) - 1)) ∨ (wk = 3 ∧ (0 ≤ ws ∧ ws ≤ (l1.length : Int) - 1) ∧ ww = 0) ∨ (wk = 4 ∧ (0 ≤ ws ∧ ws ≤ (l1.length : Int) - 1) ∧ (0 ≤ ww ∧ ww ≤ (l2.length : Int) - 1))) ∧ v = .tuple #[.int .i64 0, .int .i64 33] ∧ A = []) ∨ ((((1 ≤ d ∧ d ≤ 99999) ∧ (1 ≤ r ∧ r ≤ 99999) ∧ (0 ≤ al ∧ al ≤ 100000) ∧ (0 ≤ up ∧ up ≤ 100000) ∧ planB l1 l2 = true) ∧ M.length = l1.length ∧ allB l2.length M = true) ∧ ((wk = 1 ∧ ws = 0 ∧ (0 ≤ ww ∧ ww ≤ (l2.length : Int) - 1) ∧ 0 < ww) ∨ (wk = 2 ∧ ws = 0 ∧ (0 ≤ ww ∧ ww ≤ (l2.length : Int) - 1)) ∨ (wk = 3 ∧ (0 ≤ ws ∧ ws ≤ (l1.length : Int) - 1) ∧ ww = 0) ∨ (wk = 4 ∧ (0 ≤ ws ∧ ws ≤ (l1.length : Int) - 1) ∧ (0 ≤ ww ∧ ww ≤ (l2.length : Int) - 1))) ∧ v = .tuple #[.int .i64 (resV wk ws ww l1 l2 M), .int .i64 0] ∧ A = [])) := by
  subst hnM
  exact oValue_s n _ _ _ _ _ _ _ _ _ _ _ _ _ _ _ _ s hs hn hl1 hl2 hT hcp

theorem FormLines_s (n : Nat) (a : Option Addr) (cap : Nat) (l : List Int) (b0 n0 : Int) (s : St) (hs : Wf s) (hn : 5629499534213120 ≤ n) (hl : IntsE s a l) : Spec Tryz.prog (tabK tabw) (knownX 5) (n + 4000) 4 [.slice a l.length cap, .int .i64 b0, .int .i64 n0] s (fun v A => v = .bool true ∧ A = []) := by
 refine enter bw4_at rfl hs ?_
 unfold bw4
 have hlen := hl.len
 refine rS (kM rfl rfl (i_nil (rS (kO rfl (a_callV rfl rfl (fun s1 h1 => known_s _ s1 h1.wf) (kM rfl rfl (i_nil (rS (kM rfl rfl (kO rfl (a_call rfl rfl (fun s1 h1 => MadeSpace_s _ _ _ _ s1 h1.wf (by omega) (hl.ext hs h1.2.1)) (fun v1 A1 q1 => ?_))))))))))))
 obtain ⟨bz1, bz2, d, r, al, up, l1, l2, rfl, rfl, hms⟩ := q1
 obtain ⟨hspf, hm4, hm3, hA1, hA2⟩ := hms
 have hpl := hspf.2.2.2.2
 have hp1 := plan_p1 hpl
 have hp2 := plan_p2 hpl
 have h21 := hp1.h2
 have h22 := hp2.h2
 have u0 := hp1.lo 0
 have u1 := hp1.lo (l1.length - 1)
 have u2 := hp2.lo 0
 have u3 := hp2.lo (l2.length - 1)
 have u4 := plc_le hp1 (l1.length - 1) 0 (by omega)
 have u5 := plc_le hp2 (l2.length - 1) 0 (by omega)
 rw [Nat.zero_add] at u4 u5
 refine kO rfl (a_new rfl rfl (fun b1 => (kZ rfl (a_sta rfl rfl .here rfl rfl rfl rfl (i_nil (rS (kM rfl rfl (kO rfl (a_callV rfl rfl (fun s1 h1 => Mod_s _ _ _ s1 h1.wf (by omega)) ?_)))))))))
 have hbd := modN_bd (x := b0) (m := 20001) (by decide)
 obtain ⟨bv, hbv⟩ : ∃ q, modN b0 20001 = q := ⟨_, rfl⟩
 rw [hbv] at hbd ⊢
 refine kM rfl rfl (i_nil (rS (kM rfl rfl (kO rfl (a_fa rfl (kO rfl (a_ld rfl .here rfl (kO rfl (a_len rfl (kO rfl (a_sub rfl rfl (by omega) (kO rfl (a_callV rfl rfl (fun s1 h1 => Mod_s _ _ _ s1 h1.wf (by omega)) ?_)))))))))))))
 have hkd := modN_bd (x := n0) (m := (l2.length : Int) - 1) (by omega)
 refine kO rfl (a_add rfl rfl (by omega) ?_)
 obtain ⟨k, hk⟩ := nat_of (x := 1 + modN n0 ((l2.length : Int) - 1)) (by omega)
 rw [hk]
 have u6 := hp2.lo k
 have u7 := plc_le hp2 k 0 (by omega)
 rw [Nat.zero_add] at u7
 refine kM rfl rfl (i_nil (rS (kO rfl (a_lda rfl (by decide) .here rfl (kM rfl rfl (kO rfl (a_call rfl rfl (fun s1 h1 => Flat_s _ _ _ _ _ _ _ _ _ _ _ _ s1 h1.wf (by omega) (IntsE.own (h1.own (.next (.next .here))) (asc_fit hA1 (by decide)) (by omega)) (IntsE.own (h1.own (.next .here)) (asc_fit hA2 (by decide)) (by omega)) (by omega) (by omega) (by omega)) (fun v1 A1 q1 => ?_))))))))
 obtain ⟨bt, T, M, rfl, rfl, hTab, hFlt⟩ := q1
 refine kO rfl (a_new rfl rfl (fun b2 => (kZ rfl (a_sta rfl rfl .here rfl rfl rfl rfl (i_nil (rS (kO rfl (a_fa rfl (kO rfl (a_ld rfl (.next (.app .here)) rfl (kO rfl (a_fa rfl (kO rfl (a_ld rfl (.next (.app .here)) rfl (kO rfl (a_len rfl (kO rfl (a_sub rfl rfl (by omega) (kO rfl (a_ia (j := (l1.length - 1)) rfl rfl (by omega) (by omega) (kO rfl (a_ldI rfl (.next (.app (.next (.next .here)))) (by first | omega | (simp; done) | (simp; omega)) (kO rfl (a_fa rfl (kO rfl (a_ld rfl (.next (.app .here)) rfl (kO rfl (a_ia (j := 0) rfl rfl (by omega) (by omega) (kO rfl (a_ldI rfl (.next (.app (.next (.next .here)))) (by first | omega | (simp; done) | (simp; omega)) (kO rfl (a_sub rfl rfl (by omega) (kM rfl rfl (i_nil (rS (kO rfl (a_fa rfl (kO rfl (a_ld rfl (.next (.app .here)) rfl (kM rfl rfl (kO rfl (a_ia (j := k) rfl rfl (by omega) (by omega) ?_))))))))))))))))))))))))))))))))))))))))))
 refine kO rfl (a_ldI rfl (.next (.app (.next .here))) (by first | omega | (simp; done) | (simp; omega)) (kO rfl (a_fa rfl (kO rfl (a_ld rfl (.next (.app .here)) rfl (kO rfl (a_ia (j := 0) rfl rfl (by omega) (by omega) (kO rfl (a_ldI rfl (.next (.app (.next .here))) (by first | omega | (simp; done) | (simp; omega)) (kO rfl (a_sub rfl rfl (by omega) (kM rfl rfl (i_nil (rS (kO rfl (a_fa rfl (kO rfl (a_ld rfl (.next (.app .here)) rfl (kO rfl (a_fa rfl (kO rfl (a_ld rfl (.next (.app .here)) rfl (kO rfl (a_len rfl (kO rfl (a_sub rfl rfl (by omega) (kO rfl (a_ia (j := (l2.length - 1)) rfl rfl (by omega) (by omega) (kO rfl (a_ldI rfl (.next (.app (.next .here))) (by first | omega | (simp; done) | (simp; omega)) (kO rfl (a_fa rfl (kO rfl (a_ld rfl (.next (.app .here)) rfl (kO rfl (a_ia (j := 0) rfl rfl (by omega) (by omega) (kO rfl (a_ldI rfl (.next (.app (.next .here))) (by first | omega | (simp; done) | (simp; omega)) (kO rfl (a_sub rfl rfl (by omega) (kM rfl rfl (i_nil ?_))))))))))))))))))))))))))))))))))))))))))
 refine rS (kO rfl (a_lda rfl (by decide) (.next (.app .here)) rfl (kO rfl (a_lda rfl (by decide) .here rfl (kM rfl rfl (kO rfl (a_build rfl rfl (kO rfl (a_call rfl rfl (fun s1 h1 => oValue_n _ _ _ _ _ _ _ _ _ _ _ _ _ _ _ _ _ _ s1 h1.wf (by omega) hFlt.len.symm (IntsE.own (h1.own (.next (.app (.next (.next .here))))) (asc_fit hA1 (by decide)) (by omega)) (IntsE.own (h1.own (.next (.app (.next .here)))) (asc_fit hA2 (by decide)) (by omega)) (hTab.get h1 (.cons _ (List.sublist_append_left _ _))) (CapOk.own (h1.own (.next (.app (.next .here)))) (by rw [ints_len]; exact Nat.le_refl _))) (fun v1 A1 q1 => ?_))))))))))
 rcases q1 with ⟨q1, rfl, rfl⟩ | ⟨q1, q2, rfl, rfl⟩ | ⟨q1, q2, rfl, rfl⟩ | ⟨q1, q2, rfl, rfl⟩
 ·exact absurd hspf q1
 ·exact absurd ⟨hFlt.len, hFlt.all (by omega)⟩ q2
 ·exact absurd (by omega) q2
 ·rw [res_1 hp1 hp2 hFlt (by omega) (by omega) (by omega)]
  refine kM rfl rfl (kO rfl (a_ext rfl rfl (kO rfl (a_ext rfl rfl (kM rfl rfl (kM rfl rfl (i_nil (rS (kO rfl (a_lda rfl (by decide) (.next (.app .here)) rfl (kO rfl (a_lda rfl (by decide) .here rfl (kM rfl rfl (kO rfl (a_build rfl rfl (kO rfl (a_call rfl rfl (fun s1 h1 => oValue_n _ _ _ _ _ _ _ _ _ _ _ _ _ _ _ _ _ _ s1 h1.wf (by omega) hFlt.len.symm (IntsE.own (h1.own (.next (.app (.next (.next .here))))) (asc_fit hA1 (by decide)) (by omega)) (IntsE.own (h1.own (.next (.app (.next .here)))) (asc_fit hA2 (by decide)) (by omega)) (hTab.get h1 (.cons _ (List.sublist_append_left _ _))) (CapOk.own (h1.own (.next (.app (.next .here)))) (by rw [ints_len]; exact Nat.le_refl _))) (fun v1 A1 q1 => ?_))))))))))))))))))
  rcases q1 with ⟨q1, rfl, rfl⟩ | ⟨q1, q2, rfl, rfl⟩ | ⟨q1, q2, rfl, rfl⟩ | ⟨q1, q2, rfl, rfl⟩
  ·exact absurd hspf q1
  ·exact absurd ⟨hFlt.len, hFlt.all (by omega)⟩ q2
  ·exact absurd (by omega) q2
  ·rw [res_2 hp1 hp2 hFlt (by omega) (by omega)]
   refine kM rfl rfl (kO rfl (a_ext rfl rfl (kO rfl (a_ext rfl rfl (kM rfl rfl (kM rfl rfl (i_nil (rS (kO rfl (a_lda rfl (by decide) (.next (.app .here)) rfl (kO rfl (a_lda rfl (by decide) .here rfl (kM rfl rfl (kO rfl (a_fa rfl (kO rfl (a_ld rfl (.next (.app .here)) rfl (kO rfl (a_len rfl (kO rfl (a_callV rfl rfl (fun s1 h1 => Mod_s _ _ _ s1 h1.wf (by omega)) ?_)))))))))))))))))))))
   have hjd := modN_bd (x := n0) (m := (l1.length : Int)) (by omega)
   obtain ⟨j, hj⟩ := nat_of (x := modN n0 (l1.length : Int)) (by omega)
   rw [hj]
   refine kZ rfl (a_againa rfl rfl (by decide) .here rfl (by simp [eqL, eqV, eqA, kindEq, intEq_eq]) (kZ rfl (a_againa rfl rfl (by decide) (.next (.app .here)) rfl (by simp [eqL, eqV, eqA, kindEq, intEq_eq]) (kO rfl (a_build rfl rfl (kO rfl (a_call rfl rfl (fun s1 h1 => oValue_n _ _ _ _ _ _ _ _ _ _ _ _ _ _ _ _ _ _ s1 h1.wf (by omega) hFlt.len.symm (IntsE.own (h1.own (.next (.app (.next (.next .here))))) (asc_fit hA1 (by decide)) (by omega)) (IntsE.own (h1.own (.next (.app (.next .here)))) (asc_fit hA2 (by decide)) (by omega)) (hTab.get h1 (.cons _ (List.sublist_append_left _ _))) (CapOk.own (h1.own (.next (.app (.next .here)))) (by rw [ints_len]; exact Nat.le_refl _))) (fun v1 A1 q1 => ?_))))))))
   rcases q1 with ⟨q1, rfl, rfl⟩ | ⟨q1, q2, rfl, rfl⟩ | ⟨q1, q2, rfl, rfl⟩ | ⟨q1, q2, rfl, rfl⟩
   ·exact absurd hspf q1
   ·exact absurd ⟨hFlt.len, hFlt.all (by omega)⟩ q2
   ·exact absurd (by omega) q2
   ·rw [res_3 hp1 hp2 hFlt (by omega) (by omega)]
    refine kM rfl rfl (kO rfl (a_ext rfl rfl (kO rfl (a_ext rfl rfl (kM rfl rfl (kM rfl rfl (i_nil (rS (kM rfl rfl (kM rfl rfl (kG rfl rfl (a_mov rfl (kG rfl rfl (a_eql rfl rfl (fun _ => (kO rfl (a_pick_t rfl rfl rfl (kM rfl rfl (kG rfl rfl (a_mov rfl (kG rfl rfl (a_eql rfl rfl (fun _ => (kO rfl (a_pick_t rfl rfl rfl (kM rfl rfl (kG rfl rfl (a_mov rfl (kG rfl rfl (a_eql rfl rfl (fun _ => (kO rfl (a_pick_t rfl rfl rfl (kM rfl rfl (kG rfl rfl (a_mov rfl (kG rfl rfl (a_mov rfl (kG rfl rfl (a_mul rfl rfl (by omega) ?_)))))))))) (fun h => absurd h (by decide)))))))))) (fun h => absurd h (by decide)))))))))) (fun h => absurd h (by decide))))))))))))))))
    refine kG rfl rfl (a_mov rfl ?_)
    have m1 := mul_rg (x := 2 * bv) (y := l1.getD (l1.length - 1) 0 - l1.getD 0 0) (a := 0) (b := 40000) (c := 0) (d := 100000) (by omega) (by omega) (by decide) (by decide)
    refine kG rfl rfl (a_mul rfl rfl (by omega) (kG rfl rfl (a_mov rfl ?_)))
    have m2 := mul_rg (x := 2 * bv * (l1.getD (l1.length - 1) 0 - l1.getD 0 0)) (y := l2.getD k 0 - l2.getD 0 0) (a := 0) (b := 4000000000) (c := 0) (d := 100000) (by omega) (by omega) (by decide) (by decide)
    refine kG rfl rfl (a_mul rfl rfl (by omega) (kG rfl rfl (a_quo rfl rfl (by decide) (tdiv_I (by omega) (by decide)) (kG rfl rfl (a_eql rfl rfl (fun h6 => ?_) (fun h6 => ?_))))))
    ·refine kO rfl (a_pick_t rfl rfl rfl (kM rfl rfl (kG rfl rfl (a_mov rfl (kG rfl rfl (a_mov rfl (kG rfl rfl (a_mul rfl rfl (by omega) (kG rfl rfl (a_mov rfl (kG rfl rfl (a_mul rfl rfl (by omega) (kG rfl rfl (a_quo rfl rfl (by decide) (tdiv_I (by omega) (by decide)) (kG rfl rfl (a_eql rfl rfl (fun h7 => ?_) (fun h7 => ?_)))))))))))))))))
     ·refine kO rfl (a_pick_t rfl rfl rfl (kM rfl rfl (kG rfl rfl (a_mov rfl (kG rfl rfl (a_mov rfl (kG rfl rfl (a_mul rfl rfl (by omega) (kG rfl rfl (a_mov rfl ?_))))))))))
      have m3 := mul_rg (x := 2 * bv) (y := l2.getD (l2.length - 1) 0 - l2.getD 0 0) (a := 0) (b := 40000) (c := 0) (d := 100000) (by omega) (by omega) (by decide) (by decide)
      refine kG rfl rfl (a_mul rfl rfl (by omega) (kG rfl rfl (a_quo rfl rfl (by decide) (tdiv_I (by omega) (by decide)) (kG rfl rfl (a_eql rfl rfl (fun h8 => ?_) (fun h8 => ?_))))))
      ·refine kO rfl (a_pick_t rfl rfl rfl (kM rfl rfl (i_nil (r_ret ?_))))
       exact end1 rfl ⟨rfl, rfl⟩
      ·exact absurd rfl h8
     ·exact absurd rfl h7
    ·exact absurd rfl h6

end
end Ev
end Go.Proofs.YtonbhokaeodmdaaGreat
