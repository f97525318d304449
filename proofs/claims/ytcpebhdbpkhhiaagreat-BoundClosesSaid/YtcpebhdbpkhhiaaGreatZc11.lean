import Derived.Test.YtcpebhdbpkhhiaaGreatZc10
set_option linter.unusedVariables false
set_option linter.unusedSimpArgs false
/- Contracts: the point that numbers choose, of the reference. -/
namespace Go.Proofs.YtcpebhdbpkhhiaaGreat
open Go Go.RowKit
namespace Ev
theorem dd_ex {ls : List (List Int)} {M f : Nat} {y : Nat → Int} (hl : lmB (M : Int) ls = true) (hM : M ≤ 64) (hf : f < M + 1) (hy : ∀ i, i < ls.length → y (lb ls i) ≤ y (la ls i) + lw ls i) (hb : ∀ a, a < M + 1 → -1300000 ≤ y a ∧ y a ≤ 0) : ∀ (n : Nat) (g : Fs), Dv ls (M + 1) f g → (tot g.x (M + 1) + 100000000000).toNat = n → ∃ x, Dd ls (M + 1) f x := by
  intro n
  induction n using Nat.strongRecOn with
  | ind n ih =>
    intro g hg hn
    by_cases q : (lwS ls (st0 g) (M + 1)).l = -1
    · exact ⟨_, (dd_of hl hM hf hy hg q).2⟩
    · have hd1 := Dv.lws hl hM hg.st0 (v := M + 1) (Nat.le_refl _)
      have htl : tot (lwS ls (st0 g) (M + 1)).x (M + 1) < tot g.x (M + 1) := hd1.2.resolve_left (fun e => q (by rw [e]; rfl))
      have htb := hd1.1.tot_lo hy hb hf
      exact ih _ (by omega) _ hd1.1 rfl
theorem dt_ex {ls : List (List Int)} {M : Nat} {y : Nat → Int} (hl : lmB (M : Int) ls = true) (hM : M ≤ 64) (hy : ∀ i, i < ls.length → y (lb ls i) ≤ y (la ls i) + lw ls i) (hb : ∀ a, a < M + 1 → -1300000 ≤ y a ∧ y a ≤ 0) : ∃ D, DT ls (M + 1) D := by
  have h : ∀ f, ∃ x, f < M + 1 → Dd ls (M + 1) f x := fun f => by
    by_cases hf : f < M + 1
    · obtain ⟨x, hx⟩ := dd_ex hl hM hf hy hb _ _ (Dv.zero hf) rfl
      exact ⟨x, fun _ => hx⟩
    · exact ⟨fun _ => 0, fun q => absurd q hf⟩
  exact ⟨fun f => (h f).choose, fun f hf => (h f).choose_spec hf⟩
theorem dt_wm {ls : List (List Int)} {M : Nat} {y : Nat → Int} (hl : lmB (M : Int) ls = true) (hM : M ≤ 64) (hy : ∀ i, i < ls.length → y (lb ls i) ≤ y (la ls i) + lw ls i) (hb : ∀ a, a < M + 1 → -1300000 ≤ y a ∧ y a ≤ 0) : DT ls (M + 1) (wm ls (M + 1) (M + 1)) := by
  obtain ⟨D, hD⟩ := dt_ex hl hM hy hb
  have e : ∀ a b, a < M + 1 → b < M + 1 → wm ls (M + 1) (M + 1) a b = D a b := fun a b ha hb' => wm_dd hl hM hD hy hb ha hb'
  intro f hf
  have h := hD f hf
  refine ⟨by rw [e f f hf hf]; exact h.own, fun a ha => by rw [e f a hf ha]; exact h.way a ha, fun a ha => by rw [e f a hf ha]; exact h.hi a ha, fun i hi => ?_⟩
  have hL := lim_of hl hi
  rw [e f _ hf hL.ha, e f _ hf hL.hb]
  exact h.fix i hi
theorem ptL_congr {D D' : Nat → Nat → Int} {ps : List Int} {N : Nat} (h : ∀ a b, a < N → b < N → D a b = D' a b) : ∀ {w : Nat}, w < N → ptL D ps w = ptL D' ps w
  | 0, _ => rfl
  | w + 1, hw => by
    have ih := ptL_congr (ps := ps) h (w := w) (by omega)
    have e1 : ∀ k, k ≤ w + 1 → loV D (ptL D' ps w) (w + 1) k = loV D' (ptL D' ps w) (w + 1) k := by
      intro k
      induction k with
      | zero => intro _; rfl
      | succ k ih2 =>
        intro hk
        show (if D (w + 1) k = 1000000000 then _ else _) = (if D' (w + 1) k = 1000000000 then _ else _)
        rw [ih2 (by omega), h (w + 1) k hw (by omega)]
    have e2 : ∀ k, k ≤ w + 1 → hiV D (ptL D' ps w) (w + 1) k = hiV D' (ptL D' ps w) (w + 1) k := by
      intro k
      induction k with
      | zero => intro _; rfl
      | succ k ih2 =>
        intro hk
        show (if D k (w + 1) = 1000000000 then _ else _) = (if D' k (w + 1) = 1000000000 then _ else _)
        rw [ih2 (by omega), h k (w + 1) (by omega) hw]
    show ptL D ps w ++ _ = ptL D' ps w ++ _
    rw [ih, e1 (w + 1) (Nat.le_refl _), e2 (w + 1) (Nat.le_refl _)]
theorem mod2 {x m : Int} (h : 0 < m) : (x.tmod m + m).tmod m = modP x m := by
  have h1 := tmodP_bd (x := x) h
  unfold modP
  split
  · rw [Int.tmod_eq_of_lt (by omega) (by omega)]
  · rename_i q
    rw [Int.tmod_eq_emod_of_nonneg (by omega), Int.add_emod_right, ← Int.tmod_eq_emod_of_nonneg (by omega), Int.tmod_eq_of_lt (by omega) h1.2]

section
variable {X : FuncId → List Value → St → (Value → St → Bool) → Bool}
theorem rPick_s (n : Nat) (a : Option Addr) (cap : Nat) (l : List Int) (z : Int) (i : Nat) (m : Int) (s : St) (hs : Wf s) (hl : IntsE s a l) (hz : z = (i : Int)) (hm : 1 ≤ m ∧ m ≤ 4000000000) : Spec Tryz.prog (tabK tabw) X (n + 100) 27 [.slice a l.length cap, .int .i64 z, .int .i64 m] s (fun v A => v = .int .i64 (modP (pkV l i) m) ∧ A = []) := by
 refine enter bw27_at rfl hs ?_
 unfold bw27
 subst hz
 have hlen := hl.len
 refine rS (kM rfl rfl (i_nil (rQ (rS (kM rfl rfl (kO rfl (a_lenx rfl hl.spot (kO rfl (a_eql rfl rfl (fun h1 => ?_) (fun h1 => ?_))))))))))
 ·refine kM rfl rfl (i_no rfl rfl (i_no rfl rfl (kO rfl (a_pick_t rfl rfl rfl (i_nil (r_cond_t rfl (rS (kM rfl rfl (i_nil (r_ret (then_r (end1 rfl ⟨congrArg (Value.int .i64) ?_, rfl⟩))))))))))))
  unfold pkV
  first | (rw [if_pos (by omega)]; unfold modP; rw [Int.zero_tmod]; rfl) | (rw [if_neg (by omega)]; exact mod2 (by omega))
 ·refine kM rfl rfl (kG rfl rfl (a_mov rfl (kG rfl rfl (a_lss rfl rfl (fun h2 => ?_) (fun h2 => ?_)))))
  ·exfalso; omega
  ·have hmd : i % l.length < l.length := Nat.mod_lt _ (by omega)
   have hq := tmodP_bd (x := l.getD (i % l.length) 0) (m := m) (by omega)
   refine kO rfl (a_pick_f rfl rfl rfl (i_nil (r_cond_f rfl (r_skip (then_n (rS (kM rfl rfl (kM rfl rfl (kM rfl rfl (kO rfl (a_lenx rfl hl.spot (kO rfl (a_rem rfl rfl (by omega) (kO rfl (a_iaI (j := i % l.length) hl rfl rfl rfl rfl (by omega) (fun _ _ a99 => (kO rfl (a_ldr rfl (hl.at a99 (by omega)) (kM rfl rfl (kO rfl (a_rem rfl rfl (by omega) (kM rfl rfl (kO rfl (a_add rfl rfl (by omega) (kM rfl rfl (kO rfl (a_rem rfl rfl (by omega) (kM rfl rfl (i_nil (r_ret (end1 rfl ⟨congrArg (Value.int .i64) ?_, rfl⟩)))))))))))))))))))))))))))))))
   unfold pkV
   first | (rw [if_pos (by omega)]; unfold modP; rw [Int.zero_tmod]; rfl) | (rw [if_neg (by omega)]; exact mod2 (by omega))

theorem rPoint_s (n : Nat) (m : Int) (al : Option Addr) (cl : Nat) (ls : List (List Int)) (ap : Option Addr) (cpk : Nat) (ps : List Int) (s : St) (hs : Wf s) (hn : 3377699720527872 ≤ n) (hL : RowsE s 4 al ls) (hP : IntsE s ap ps) : Spec Tryz.prog (tabK tabw) X (n + 3000) 8 [.agg ⟨[.int .i64 m, .slice al ls.length cl]⟩, .slice ap ps.length cpk] s (fun v A => (¬ sysE m ls = 0 ∧ v = .tuple #[.slice none 0 0, .int .i64 (sysE m ls)] ∧ A = []) ∨ (sysE m ls = 0 ∧ Uns ls (m.toNat + 1) ∧ v = .tuple #[.slice none 0 0, .int .i64 23] ∧ A = []) ∨ (sysE m ls = 0 ∧ ¬ Uns ls (m.toNat + 1) ∧ ∃ b op cp, v = .tuple #[.slice (some ⟨b, 0, none⟩) (m.toNat + 1) cp, .int .i64 0] ∧ A = [.row b 3 op (ints (ptL (wm ls (m.toNat + 1) (m.toNat + 1)) ps m.toNat))])) := by
 refine enter bw8_at rfl hs ?_
 unfold bw8
 have hlen := hL.len
 have hlenP := hP.len
 refine rS (kO rfl (a_box rfl rfl rfl (fun b1 => (kM rfl rfl (kM rfl rfl (i_nil (rS (kO rfl (a_lda rfl (by decide) .here rfl (kO rfl (a_call rfl rfl (fun s1 h1 => rClose_s _ m al cl ls s1 h1.wf (by omega) (hL.ext hs h1.2.1)) (fun v1 A1 q1 => ?_))))))))))))
 rcases q1 with ⟨hc, rfl, rfl⟩ | ⟨hc, hc2, rfl, rfl⟩ | ⟨hc, hc2, q1⟩
 ·have hc1 := hc
  refine kM rfl rfl (kO rfl (a_ext rfl rfl (kO rfl (a_ext rfl rfl (kM rfl rfl (kM rfl rfl (i_nil (rQ (rS (kM rfl rfl (kO rfl (a_neq rfl rfl (fun h4 => ?_) (fun h4 => ?_)))))))))))))
  ·refine i_nil (r_cond_t rfl (rS (kM rfl rfl (kM rfl rfl (kM rfl rfl (i_nil (r_ret (then_r ?_))))))))
   exact end2 rfl rfl (.inl ⟨hc1, rfl, rfl⟩)
  ·exfalso; omega
 ·have hsys := hc
  refine kM rfl rfl (kO rfl (a_ext rfl rfl (kO rfl (a_ext rfl rfl (kM rfl rfl (kM rfl rfl (i_nil (rQ (rS (kM rfl rfl (kO rfl (a_neq rfl rfl (fun _ => (i_nil (r_cond_t rfl (rS (kM rfl rfl (kM rfl rfl (kM rfl rfl (i_nil (r_ret (then_r ?_)))))))))) (fun h => absurd h (by decide))))))))))))))
  exact end2 rfl rfl (.inr (.inl ⟨hsys, hc2, rfl, rfl⟩))
 ·obtain ⟨bt2, Bt3, rfl, rfl⟩ := q1
  have hsys := hc
  obtain ⟨hm0, hM, h400, hlm⟩ := sysE_ok hsys
  obtain ⟨M, rfl⟩ : ∃ q : Nat, m = (q : Int) := ⟨m.toNat, by omega⟩
  have hM : M ≤ 64 := by omega
  have h400 : ls.length ≤ 400 := by omega
  have hun : ¬ Uns ls (M + 1) := hc2
  obtain ⟨y, hy, hyb⟩ := set_pt hlm h400 hM hun
  have hDT := dt_wm hlm hM hy hyb
  have hS := hDT.sm hy hyb
  rw [List.append_assoc, List.singleton_append]
  rw [show ((M : Int).toNat) = M from rfl]
  refine kM rfl rfl (kO rfl (a_ext rfl rfl (kO rfl (a_ext rfl rfl (kM rfl rfl (kM rfl rfl (i_nil (rQ (rS (kM rfl rfl (kO rfl (a_neq rfl rfl (fun h => absurd h (by decide)) (fun _ => (i_nil (r_cond_f rfl (r_skip (then_n (rS (kO rfl (a_lit rfl rfl rfl (fun b7 => (kM rfl rfl (i_nil (rQ (rS (kM rfl rfl (i_nil (r_block ?_))))))))))))))))))))))))))))
  refine r_loop (fun j e A => ∃ (w b cp : Nat) (op : Bool), e = [(1, .slice ap ps.length cpk), (2, .pointer (some ⟨b1, 0, none⟩)), (6, .slice (some ⟨bt2, 0, none⟩) (M + 1) (M + 1)), (8, .slice (some ⟨b, 0, none⟩) (w + 1) cp), (9, .int .i64 ((w + 1 : Nat) : Int))] ∧ A = (.row b 3 op (ints (ptL (wm ls (M + 1) (M + 1)) ps w)) :: (seg Bt3 (M + 1) (wm ls (M + 1) (M + 1)) (M + 1) ++ (.row bt2 25 false (slsT Bt3 (M + 1) (M + 1) (M + 1)) :: (.row b1 24 false ([.int .i64 (M : Int), .slice al ls.length cl]) :: [])))) ∧ j = M - w ∧ w ≤ M ∧ FT op cp w) 700 844424930131968 281474976710656 ?_ (j := _) (env2 := _) (A2 := _) ?_ ?_ ?_ ?_ ⟨0, b7, 1, false, rfl, rfl, rfl, Nat.zero_le _, (.inr ⟨rfl, rfl, rfl⟩)⟩
  rotate_left
  ·omega
  ·omega
  ·exact (lc 1 rfl (lc 2 rfl (lc 6 rfl (lc 8 rfl (lc 9 rfl Less.nil)))))
  ·exact (.cons_cons _ (List.Sublist.append (List.Sublist.refl _) (.cons_cons _ (.cons_cons _ .slnil))))
  rintro n hn j _ _ ⟨w, b, cp, op, rfl, rfl, rfl, hw, hT⟩
  obtain ⟨hPk, hNb, _⟩ := ptL_ok (ps := ps) hDT hS hM hw
  have hlw : (ptL (wm ls (M + 1) (M + 1)) ps w).length = w + 1 := ptL_len
  have hjM : (w : Int) ≤ 64 := by omega
  refine rQ (rS (kM rfl rfl (kO rfl (a_fa rfl (kO rfl (a_ld rfl (.next (.app (.next .here))) rfl (kO rfl (a_leq rfl rfl (fun h8 => ?_) (fun h8 => ?_)))))))))
  ·refine i_nil (r_cond_t rfl (r_skip (then_n (rQ (r_block (rS (kM rfl rfl (i_nil (rS (kM rfl rfl (i_nil (rQ (rS (kM rfl rfl (kO rfl (a_len rfl (kM rfl rfl (i_nil (r_block ?_)))))))))))))))))))
   refine r_loop (fun j e A => ∃ (k : Nat) (lo hi : Int), e = [(1, .slice ap ps.length cpk), (2, .pointer (some ⟨b1, 0, none⟩)), (6, .slice (some ⟨bt2, 0, none⟩) (M + 1) (M + 1)), (8, .slice (some ⟨b, 0, none⟩) (w + 1) cp), (9, .int .i64 ((w + 1 : Nat) : Int)), (10, .int .i64 lo), (11, .int .i64 hi), (30, .int .i64 ((w + 1 : Nat) : Int)), (31, .int .i64 (k : Int))] ∧ A = (.row b 3 op (ints (ptL (wm ls (M + 1) (M + 1)) ps w)) :: (seg Bt3 (M + 1) (wm ls (M + 1) (M + 1)) (M + 1) ++ (.row bt2 25 false (slsT Bt3 (M + 1) (M + 1) (M + 1)) :: (.row b1 24 false ([.int .i64 (M : Int), .slice al ls.length cl]) :: [])))) ∧ j = w + 1 - k ∧ k ≤ w + 1 ∧ lo = loV (wm ls (M + 1) (M + 1)) (ptL (wm ls (M + 1) (M + 1)) ps w) (w + 1) k ∧ hi = hiV (wm ls (M + 1) (M + 1)) (ptL (wm ls (M + 1) (M + 1)) ps w) (w + 1) k) 300 281474976710656 281474976710656 ?_ (j := _) (env2 := _) (A2 := _) ?_ ?_ ?_ ?_ ⟨0, _, _, rfl, rfl, rfl, Nat.zero_le _, rfl, rfl⟩
   rotate_left
   ·omega
   ·omega
   ·exact (lc 1 rfl (lc 2 rfl (lc 6 rfl (lc 8 rfl (lc 9 rfl (lc 10 rfl (lc 11 rfl (lc 30 rfl (lc 31 rfl Less.nil)))))))))
   ·exact (.cons_cons _ (List.Sublist.append (List.Sublist.refl _) (.cons_cons _ (.cons_cons _ .slnil))))
   rintro n hn j _ _ ⟨k, lo, hi, rfl, rfl, rfl, hk, hlo, hhi⟩
   refine rS (kO rfl (a_lss rfl rfl (fun h9 => ?_) (fun h9 => ?_)))
   ·have hl1 := hS.lo (w + 1) k (by omega) (by omega)
    have hl2 := hS.hi (w + 1) k (by omega) (by omega)
    have hl3 := hS.lo k (w + 1) (by omega) (by omega)
    have hl4 := hS.hi k (w + 1) (by omega) (by omega)
    have hx1 := hNb k (by omega)
    have blo := lo_bd hS (n := w + 1) (by omega) hNb (by omega) (k := k) (by omega) (by omega)
    have bhi := hi_bd hS (n := w + 1) (by omega) hNb (by omega) (k := k) (by omega) (by omega)
    rw [← hlo] at blo
    rw [← hhi] at bhi
    refine i_nil (rQ (r_cond_t rfl (r_skip (then_n (rQ (r_block (rS (kM rfl rfl (kM rfl rfl (i_nil (rQ (rS (kM rfl rfl (kM rfl rfl (kO rfl (a_ia (j := (w + 1)) rfl rfl (by omega) (by omega) (kO rfl (a_ld rfl (.next (.app .here)) (sls_get (by omega) (by omega)) (kM rfl rfl (kO rfl (a_ia (j := k) rfl rfl (by omega) (by omega) (kO rfl (a_ldX (x := (wm ls (M + 1) (M + 1)) ((w + 1)) (k)) rfl (.next (own_seg (by omega))) (by rw [rowT_len]; omega) (rowT_get (by omega)) (kO rfl (a_neq rfl rfl (fun h10 => ?_) (fun h10 => ?_))))))))))))))))))))))))))
    ·refine i_nil (r_cond_t rfl (rI (kM rfl rfl (kM rfl rfl (kM rfl rfl (kO rfl (a_ia (j := k) rfl rfl (by omega) (by omega) (kO rfl (a_ldI rfl .here (by first | omega | (simp; done) | (simp; omega)) (kM rfl rfl (kM rfl rfl (kO rfl (a_ia (j := (w + 1)) rfl rfl (by omega) (by omega) (kO rfl (a_ld rfl (.next (.app .here)) (sls_get (by omega) (by omega)) (kM rfl rfl (kO rfl (a_ia (j := k) rfl rfl (by omega) (by omega) (kO rfl (a_ldX (x := (wm ls (M + 1) (M + 1)) ((w + 1)) (k)) rfl (.next (own_seg (by omega))) (by rw [rowT_len]; omega) (rowT_get (by omega)) (kO rfl (a_sub rfl rfl (by omega) (kO rfl (a_max rfl (kM rfl rfl (i_nil (then_n (rS (kM rfl rfl (kM rfl rfl (kO rfl (a_ia (j := k) rfl rfl (by omega) (by omega) ?_))))))))))))))))))))))))))))))))
     refine kO rfl (a_ld rfl (.next (.app .here)) (sls_get (by omega) (by omega)) (kM rfl rfl (kO rfl (a_ia (j := (w + 1)) rfl rfl (by omega) (by omega) (kO rfl (a_ldX (x := (wm ls (M + 1) (M + 1)) (k) ((w + 1))) rfl (.next (own_seg (by omega))) (by rw [rowT_len]; omega) (rowT_get (by omega)) (kO rfl (a_neq rfl rfl (fun h11 => ?_) (fun h11 => ?_)))))))))
     ·refine i_nil (r_cond_t rfl (rI (kM rfl rfl (kM rfl rfl (kM rfl rfl (kO rfl (a_ia (j := k) rfl rfl (by omega) (by omega) (kO rfl (a_ldI rfl .here (by first | omega | (simp; done) | (simp; omega)) (kM rfl rfl (kM rfl rfl (kO rfl (a_ia (j := k) rfl rfl (by omega) (by omega) (kO rfl (a_ld rfl (.next (.app .here)) (sls_get (by omega) (by omega)) (kM rfl rfl (kO rfl (a_ia (j := (w + 1)) rfl rfl (by omega) (by omega) (kO rfl (a_ldX (x := (wm ls (M + 1) (M + 1)) (k) ((w + 1))) rfl (.next (own_seg (by omega))) (by rw [rowT_len]; omega) (rowT_get (by omega)) (kO rfl (a_add rfl rfl (by omega) (kO rfl (a_min rfl (kM rfl rfl (i_nil (block_n (then_n (rI (kO rfl (a_add rfl rfl (by omega) (kM rfl rfl ?_))))))))))))))))))))))))))))))))
      refine i_nil (then_n ?_)
      exact ⟨rfl, _, _, _, (show w + 1 - (k + 1) < w + 1 - k by omega), (lc 1 rfl (lc 2 rfl (lc 6 rfl (lc 8 rfl (lc 9 rfl (lc 10 rfl (lc 11 rfl (lc 30 rfl (lc 31 rfl Less.nil))))))))), (.cons_cons _ (List.Sublist.append (List.Sublist.refl _) (.cons_cons _ (.cons_cons _ .slnil)))), ⟨k + 1, _, _, rfl, rfl, rfl, by omega, (by first | exact lo_free hlo (by assumption) | exact lo_some hlo (by assumption)), (by first | exact hi_free hhi (by assumption) | exact hi_some hhi (by assumption))⟩⟩
     ·refine i_nil (r_cond_f rfl (r_skip (block_n (then_n (rI (kO rfl (a_add rfl rfl (by omega) (kM rfl rfl (i_nil (then_n ?_))))))))))
      exact ⟨rfl, _, _, _, (show w + 1 - (k + 1) < w + 1 - k by omega), (lc 1 rfl (lc 2 rfl (lc 6 rfl (lc 8 rfl (lc 9 rfl (lc 10 rfl (lc 11 rfl (lc 30 rfl (lc 31 rfl Less.nil))))))))), (.cons_cons _ (List.Sublist.append (List.Sublist.refl _) (.cons_cons _ (.cons_cons _ .slnil)))), ⟨k + 1, _, _, rfl, rfl, rfl, by omega, (by first | exact lo_free hlo (by assumption) | exact lo_some hlo (by assumption)), (by first | exact hi_free hhi (by assumption) | exact hi_some hhi (by assumption))⟩⟩
    ·refine i_nil (r_cond_f rfl (r_skip (then_n (rS (kM rfl rfl (kM rfl rfl (kO rfl (a_ia (j := k) rfl rfl (by omega) (by omega) (kO rfl (a_ld rfl (.next (.app .here)) (sls_get (by omega) (by omega)) (kM rfl rfl (kO rfl (a_ia (j := (w + 1)) rfl rfl (by omega) (by omega) (kO rfl (a_ldX (x := (wm ls (M + 1) (M + 1)) (k) ((w + 1))) rfl (.next (own_seg (by omega))) (by rw [rowT_len]; omega) (rowT_get (by omega)) (kO rfl (a_neq rfl rfl (fun h12 => ?_) (fun h12 => ?_))))))))))))))))))
     ·refine i_nil (r_cond_t rfl (rI (kM rfl rfl (kM rfl rfl (kM rfl rfl (kO rfl (a_ia (j := k) rfl rfl (by omega) (by omega) (kO rfl (a_ldI rfl .here (by first | omega | (simp; done) | (simp; omega)) (kM rfl rfl (kM rfl rfl (kO rfl (a_ia (j := k) rfl rfl (by omega) (by omega) (kO rfl (a_ld rfl (.next (.app .here)) (sls_get (by omega) (by omega)) (kM rfl rfl (kO rfl (a_ia (j := (w + 1)) rfl rfl (by omega) (by omega) (kO rfl (a_ldX (x := (wm ls (M + 1) (M + 1)) (k) ((w + 1))) rfl (.next (own_seg (by omega))) (by rw [rowT_len]; omega) (rowT_get (by omega)) (kO rfl (a_add rfl rfl (by omega) (kO rfl (a_min rfl (kM rfl rfl (i_nil (block_n (then_n (rI (kO rfl (a_add rfl rfl (by omega) (kM rfl rfl ?_))))))))))))))))))))))))))))))))
      refine i_nil (then_n ?_)
      exact ⟨rfl, _, _, _, (show w + 1 - (k + 1) < w + 1 - k by omega), (lc 1 rfl (lc 2 rfl (lc 6 rfl (lc 8 rfl (lc 9 rfl (lc 10 rfl (lc 11 rfl (lc 30 rfl (lc 31 rfl Less.nil))))))))), (.cons_cons _ (List.Sublist.append (List.Sublist.refl _) (.cons_cons _ (.cons_cons _ .slnil)))), ⟨k + 1, _, _, rfl, rfl, rfl, by omega, (by first | exact lo_free hlo (by assumption) | exact lo_some hlo (by assumption)), (by first | exact hi_free hhi (by assumption) | exact hi_some hhi (by assumption))⟩⟩
     ·refine i_nil (r_cond_f rfl (r_skip (block_n (then_n (rI (kO rfl (a_add rfl rfl (by omega) (kM rfl rfl (i_nil (then_n ?_))))))))))
      exact ⟨rfl, _, _, _, (show w + 1 - (k + 1) < w + 1 - k by omega), (lc 1 rfl (lc 2 rfl (lc 6 rfl (lc 8 rfl (lc 9 rfl (lc 10 rfl (lc 11 rfl (lc 30 rfl (lc 31 rfl Less.nil))))))))), (.cons_cons _ (List.Sublist.append (List.Sublist.refl _) (.cons_cons _ (.cons_cons _ .slnil)))), ⟨k + 1, _, _, rfl, rfl, rfl, by omega, (by first | exact lo_free hlo (by assumption) | exact lo_some hlo (by assumption)), (by first | exact hi_free hhi (by assumption) | exact hi_some hhi (by assumption))⟩⟩
   ·have hkw : k = w + 1 := by omega
    subst hkw
    have blo := lo_bd hS (n := w + 1) (by omega) hNb (by omega) (k := w + 1) (by omega) (Nat.le_refl _)
    have bhi := hi_bd hS (n := w + 1) (by omega) hNb (by omega) (k := w + 1) (by omega) (Nat.le_refl _)
    have hroom := lo_hi hDT (by omega) hPk (lo_Lo hS (by omega) hNb (by omega) (Nat.le_refl _)) (hi_Hi hS (by omega) hNb (by omega) (Nat.le_refl _))
    rw [hlw, ← hlo, ← hhi] at hroom
    rw [← hlo] at blo
    rw [← hhi] at bhi
    refine i_nil (rQ (r_cond_f rfl (r_exit (then_e (then_e (block_hit (then_n (rS (kM rfl rfl (i_nil (rQ (r_block (rS (kM rfl rfl (kO rfl (a_neq rfl rfl (fun h13 => ?_) (fun h13 => ?_)))))))))))))))))
    ·refine kM rfl rfl (kG rfl rfl (a_mov rfl (kG rfl rfl (a_neq rfl rfl (fun h14 => ?_) (fun h14 => ?_)))))
     ·refine kO rfl (a_pick_t rfl rfl rfl (kM rfl rfl (i_nil (r_cond_t rfl (rI (kM rfl rfl (kM rfl rfl (kM rfl rfl (kO rfl (a_sub rfl rfl (by omega) (kM rfl rfl (kM rfl rfl (kO rfl (a_sub rfl rfl (by omega) (kO rfl (a_add rfl rfl (by omega) ?_))))))))))))))))
      have hr9 := hroom (by omega) (by omega)
      refine kO rfl (a_callV rfl rfl (fun s1 h1 => rPick_s _ _ _ _ _ w _ s1 h1.wf (hP.ext hs h1.2.1) (by omega) (by omega)) ?_)
      have hpk := modP_bd (x := pkV ps w) (m := hi - lo + 1) (by have := hroom (by omega) (by omega); omega)
      refine kO rfl (a_add rfl rfl (by omega) (kM rfl rfl (i_nil (block_n (then_n (rI (kM rfl rfl (kM rfl rfl (kO rfl (a_lit rfl rfl rfl (fun b15 => (kO rfl (a_app rfl rfl (Src.own .here rfl (by simp)) (.next .here) (by rw [ints_len, hlw, Nat.mul_one]) (tight_of hT) (by decide) (by omega) (by omega) (fun b16 => (kM rfl rfl (i_nil (block_n (then_n (rI (kM rfl rfl (kO rfl (a_add rfl rfl (by omega) (kM rfl rfl (i_nil (then_n ?_)))))))))))))))))))))))))
      exact ⟨rfl, _, _, _, (show M - (w + 1) < M - w by omega), (lc 1 rfl (lc 2 rfl (lc 6 rfl (lc 8 rfl (lc 9 rfl Less.nil))))), (.cons_cons _ (.cons _ (List.Sublist.append (List.Sublist.refl _) (.cons_cons _ (.cons_cons _ .slnil))))), ⟨w + 1, b16, _, _, rfl, (by rw [List.set_cons_zero, show ptL (wm ls (M + 1) (M + 1)) ps (w + 1) = ptL (wm ls (M + 1) (M + 1)) ps w ++ [_] from rfl, snoc1, ← hlo, ← hhi]; unfold chZ; first | (rw [if_pos (by omega)]; done) | (rw [if_neg (by omega), if_pos (by omega)]; done) | (rw [if_neg (by omega), if_neg (by omega), if_pos (by omega)]; done) | (rw [if_neg (by omega), if_neg (by omega), if_neg (by omega)]; done)), rfl, by omega, (.inl ⟨rfl, rfl⟩)⟩⟩
     ·refine kO rfl (a_pick_t rfl rfl rfl (kM rfl rfl (i_nil (r_cond_f rfl (rS (kM rfl rfl (kO rfl (a_neq rfl rfl (fun h17 => ?_) (fun h17 => ?_)))))))))
      ·refine kM rfl rfl (i_nil (r_cond_t rfl (rI (kM rfl rfl (kM rfl rfl (i_nil (block_n (then_n (rI (kM rfl rfl (kM rfl rfl (kO rfl (a_lit rfl rfl rfl (fun b18 => (kO rfl (a_app rfl rfl (Src.own .here rfl (by simp)) (.next .here) (by rw [ints_len, hlw, Nat.mul_one]) (tight_of hT) (by decide) (by omega) (by omega) (fun b19 => (kM rfl rfl (i_nil (block_n (then_n (rI (kM rfl rfl (kO rfl (a_add rfl rfl (by omega) (kM rfl rfl (i_nil (then_n ?_))))))))))))))))))))))))))))
       exact ⟨rfl, _, _, _, (show M - (w + 1) < M - w by omega), (lc 1 rfl (lc 2 rfl (lc 6 rfl (lc 8 rfl (lc 9 rfl Less.nil))))), (.cons_cons _ (.cons _ (List.Sublist.append (List.Sublist.refl _) (.cons_cons _ (.cons_cons _ .slnil))))), ⟨w + 1, b19, _, _, rfl, (by rw [List.set_cons_zero, show ptL (wm ls (M + 1) (M + 1)) ps (w + 1) = ptL (wm ls (M + 1) (M + 1)) ps w ++ [_] from rfl, snoc1, ← hlo, ← hhi]; unfold chZ; first | (rw [if_pos (by omega)]; done) | (rw [if_neg (by omega), if_pos (by omega)]; done) | (rw [if_neg (by omega), if_neg (by omega), if_pos (by omega)]; done) | (rw [if_neg (by omega), if_neg (by omega), if_neg (by omega)]; done)), rfl, by omega, (.inl ⟨rfl, rfl⟩)⟩⟩
      ·refine kM rfl rfl (i_nil (r_cond_f rfl (rS (kM rfl rfl (kO rfl (a_neq rfl rfl (fun h20 => ?_) (fun h20 => ?_)))))))
       ·refine kM rfl rfl (i_nil (r_cond_t rfl (rI (kM rfl rfl (kM rfl rfl (i_nil (block_n (then_n (rI (kM rfl rfl (kM rfl rfl (kO rfl (a_lit rfl rfl rfl (fun b21 => (kO rfl (a_app rfl rfl (Src.own .here rfl (by simp)) (.next .here) (by rw [ints_len, hlw, Nat.mul_one]) (tight_of hT) (by decide) (by omega) (by omega) (fun b22 => (kM rfl rfl (i_nil (block_n (then_n (rI (kM rfl rfl (kO rfl (a_add rfl rfl (by omega) (kM rfl rfl (i_nil (then_n ?_))))))))))))))))))))))))))))
        exact ⟨rfl, _, _, _, (show M - (w + 1) < M - w by omega), (lc 1 rfl (lc 2 rfl (lc 6 rfl (lc 8 rfl (lc 9 rfl Less.nil))))), (.cons_cons _ (.cons _ (List.Sublist.append (List.Sublist.refl _) (.cons_cons _ (.cons_cons _ .slnil))))), ⟨w + 1, b22, _, _, rfl, (by rw [List.set_cons_zero, show ptL (wm ls (M + 1) (M + 1)) ps (w + 1) = ptL (wm ls (M + 1) (M + 1)) ps w ++ [_] from rfl, snoc1, ← hlo, ← hhi]; unfold chZ; first | (rw [if_pos (by omega)]; done) | (rw [if_neg (by omega), if_pos (by omega)]; done) | (rw [if_neg (by omega), if_neg (by omega), if_pos (by omega)]; done) | (rw [if_neg (by omega), if_neg (by omega), if_neg (by omega)]; done)), rfl, by omega, (.inl ⟨rfl, rfl⟩)⟩⟩
       ·refine kM rfl rfl (i_nil (r_cond_f rfl (r_skip (block_n (then_n (rI (kM rfl rfl (kM rfl rfl (kO rfl (a_lit rfl rfl rfl (fun b23 => (kO rfl (a_app rfl rfl (Src.own .here rfl (by simp)) (.next .here) (by rw [ints_len, hlw, Nat.mul_one]) (tight_of hT) (by decide) (by omega) (by omega) (fun b24 => (kM rfl rfl (i_nil (block_n (then_n (rI (kM rfl rfl (kO rfl (a_add rfl rfl (by omega) (kM rfl rfl (i_nil (then_n ?_)))))))))))))))))))))))))
        exact ⟨rfl, _, _, _, (show M - (w + 1) < M - w by omega), (lc 1 rfl (lc 2 rfl (lc 6 rfl (lc 8 rfl (lc 9 rfl Less.nil))))), (.cons_cons _ (.cons _ (List.Sublist.append (List.Sublist.refl _) (.cons_cons _ (.cons_cons _ .slnil))))), ⟨w + 1, b24, _, _, rfl, (by rw [List.set_cons_zero, show ptL (wm ls (M + 1) (M + 1)) ps (w + 1) = ptL (wm ls (M + 1) (M + 1)) ps w ++ [_] from rfl, snoc1, ← hlo, ← hhi]; unfold chZ; first | (rw [if_pos (by omega)]; done) | (rw [if_neg (by omega), if_pos (by omega)]; done) | (rw [if_neg (by omega), if_neg (by omega), if_pos (by omega)]; done) | (rw [if_neg (by omega), if_neg (by omega), if_neg (by omega)]; done)), rfl, by omega, (.inl ⟨rfl, rfl⟩)⟩⟩
    ·refine kM rfl rfl (i_no rfl rfl (i_no rfl rfl (kO rfl (a_pick_f rfl rfl rfl (kM rfl rfl (i_nil (r_cond_f rfl (rS (kM rfl rfl (kO rfl (a_neq rfl rfl (fun h25 => ?_) (fun h25 => ?_))))))))))))
     ·refine kM rfl rfl (i_nil (r_cond_t rfl (rI (kM rfl rfl (kM rfl rfl (i_nil (block_n (then_n (rI (kM rfl rfl (kM rfl rfl (kO rfl (a_lit rfl rfl rfl (fun b26 => (kO rfl (a_app rfl rfl (Src.own .here rfl (by simp)) (.next .here) (by rw [ints_len, hlw, Nat.mul_one]) (tight_of hT) (by decide) (by omega) (by omega) (fun b27 => (kM rfl rfl (i_nil (block_n (then_n (rI (kM rfl rfl (kO rfl (a_add rfl rfl (by omega) (kM rfl rfl (i_nil (then_n ?_))))))))))))))))))))))))))))
      exact ⟨rfl, _, _, _, (show M - (w + 1) < M - w by omega), (lc 1 rfl (lc 2 rfl (lc 6 rfl (lc 8 rfl (lc 9 rfl Less.nil))))), (.cons_cons _ (.cons _ (List.Sublist.append (List.Sublist.refl _) (.cons_cons _ (.cons_cons _ .slnil))))), ⟨w + 1, b27, _, _, rfl, (by rw [List.set_cons_zero, show ptL (wm ls (M + 1) (M + 1)) ps (w + 1) = ptL (wm ls (M + 1) (M + 1)) ps w ++ [_] from rfl, snoc1, ← hlo, ← hhi]; unfold chZ; first | (rw [if_pos (by omega)]; done) | (rw [if_neg (by omega), if_pos (by omega)]; done) | (rw [if_neg (by omega), if_neg (by omega), if_pos (by omega)]; done) | (rw [if_neg (by omega), if_neg (by omega), if_neg (by omega)]; done)), rfl, by omega, (.inl ⟨rfl, rfl⟩)⟩⟩
     ·refine kM rfl rfl (i_nil (r_cond_f rfl (rS (kM rfl rfl (kO rfl (a_neq rfl rfl (fun h28 => ?_) (fun h28 => ?_)))))))
      ·refine kM rfl rfl (i_nil (r_cond_t rfl (rI (kM rfl rfl (kM rfl rfl (i_nil (block_n (then_n (rI (kM rfl rfl (kM rfl rfl (kO rfl (a_lit rfl rfl rfl (fun b29 => (kO rfl (a_app rfl rfl (Src.own .here rfl (by simp)) (.next .here) (by rw [ints_len, hlw, Nat.mul_one]) (tight_of hT) (by decide) (by omega) (by omega) (fun b30 => (kM rfl rfl (i_nil (block_n (then_n (rI (kM rfl rfl (kO rfl (a_add rfl rfl (by omega) (kM rfl rfl (i_nil (then_n ?_))))))))))))))))))))))))))))
       exact ⟨rfl, _, _, _, (show M - (w + 1) < M - w by omega), (lc 1 rfl (lc 2 rfl (lc 6 rfl (lc 8 rfl (lc 9 rfl Less.nil))))), (.cons_cons _ (.cons _ (List.Sublist.append (List.Sublist.refl _) (.cons_cons _ (.cons_cons _ .slnil))))), ⟨w + 1, b30, _, _, rfl, (by rw [List.set_cons_zero, show ptL (wm ls (M + 1) (M + 1)) ps (w + 1) = ptL (wm ls (M + 1) (M + 1)) ps w ++ [_] from rfl, snoc1, ← hlo, ← hhi]; unfold chZ; first | (rw [if_pos (by omega)]; done) | (rw [if_neg (by omega), if_pos (by omega)]; done) | (rw [if_neg (by omega), if_neg (by omega), if_pos (by omega)]; done) | (rw [if_neg (by omega), if_neg (by omega), if_neg (by omega)]; done)), rfl, by omega, (.inl ⟨rfl, rfl⟩)⟩⟩
      ·refine kM rfl rfl (i_nil (r_cond_f rfl (r_skip (block_n (then_n (rI (kM rfl rfl (kM rfl rfl (kO rfl (a_lit rfl rfl rfl (fun b31 => (kO rfl (a_app rfl rfl (Src.own .here rfl (by simp)) (.next .here) (by rw [ints_len, hlw, Nat.mul_one]) (tight_of hT) (by decide) (by omega) (by omega) (fun b32 => (kM rfl rfl (i_nil (block_n (then_n (rI (kM rfl rfl (kO rfl (a_add rfl rfl (by omega) (kM rfl rfl (i_nil (then_n ?_)))))))))))))))))))))))))
       exact ⟨rfl, _, _, _, (show M - (w + 1) < M - w by omega), (lc 1 rfl (lc 2 rfl (lc 6 rfl (lc 8 rfl (lc 9 rfl Less.nil))))), (.cons_cons _ (.cons _ (List.Sublist.append (List.Sublist.refl _) (.cons_cons _ (.cons_cons _ .slnil))))), ⟨w + 1, b32, _, _, rfl, (by rw [List.set_cons_zero, show ptL (wm ls (M + 1) (M + 1)) ps (w + 1) = ptL (wm ls (M + 1) (M + 1)) ps w ++ [_] from rfl, snoc1, ← hlo, ← hhi]; unfold chZ; first | (rw [if_pos (by omega)]; done) | (rw [if_neg (by omega), if_pos (by omega)]; done) | (rw [if_neg (by omega), if_neg (by omega), if_pos (by omega)]; done) | (rw [if_neg (by omega), if_neg (by omega), if_neg (by omega)]; done)), rfl, by omega, (.inl ⟨rfl, rfl⟩)⟩⟩
  ·refine i_nil (r_cond_f rfl (r_exit (then_e (then_e (block_hit (then_n (rS (kM rfl rfl (kM rfl rfl (kM rfl rfl (i_nil (r_ret ?_))))))))))))
   have hwM : w = M := by omega
   subst hwM
   exact end2A rfl rfl (.cons_cons _ (List.sublist_append_of_sublist_right (.cons _ (.cons _ .slnil)))) (.inr (.inr ⟨hsys, hc2, _, _, _, rfl, rfl⟩))

end
end Ev
end Go.Proofs.YtcpebhdbpkhhiaaGreat
