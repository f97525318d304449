import Derived.Test.YtonbhokaeodmdaaGreatZb05
set_option linter.unusedVariables false
set_option linter.unusedSimpArgs false
/- Contracts: grids, spaces. -/
namespace Go.Proofs.YtonbhokaeodmdaaGreat
open Go Go.RowKit
namespace Ev
theorem mul_bd {x y : Int} (hx : -200000000 ≤ x ∧ x ≤ 200000000) (hy : -200000000 ≤ y ∧ y ≤ 200000000) : -9223372036854775808 ≤ x * y ∧ x * y < 9223372036854775808 := by
  have h1 : (x * y).natAbs ≤ 200000000 * 200000000 := by
    rw [Int.natAbs_mul]
    exact Nat.mul_le_mul (by omega) (by omega)
  omega
theorem plan_p1 {l1 l2 : List Int} (h : planB l1 l2 = true) : Plc 9 100000 l1 := by
  unfold planB at h
  rw [Bool.and_eq_true] at h
  exact plc_of (by decide) h.1
theorem plan_q2 {l1 l2 : List Int} (h : planB l1 l2 = true) : Plc 7 15000 l2 := by
  unfold planB at h
  rw [Bool.and_eq_true] at h
  exact plc_of (by decide) h.2
theorem plan_p2 {l1 l2 : List Int} (h : planB l1 l2 = true) : Plc 9 100000 l2 := by
  have q := plan_q2 h
  exact ⟨q.h2, by have := q.hm; omega, fun k => by have := q.lo k; omega, q.rise⟩

section
variable {X : FuncId → List Value → St → (Value → St → Bool) → Bool}
theorem gridOf_s (n : Nat) (a1 a2 : Option Addr) (c1 c2 : Nat) (l1 l2 : List Int) (s : St) (hs : Wf s) (hn : 1125899906842624 ≤ n) (hl1 : IntsE s a1 l1) (hl2 : IntsE s a2 l2) (hp1 : Plc 9 100000 l1) (hp2 : Plc 9 100000 l2) : Spec Tryz.prog (tabK tabw) X (n + 1500) 106 [.slice a1 l1.length c1, .slice a2 l2.length c2] s (fun v A => A = []) := by
 refine enter bw106_at rfl hs ?_
 unfold bw106
 have hlen1 := hl1.len
 have hlen2 := hl2.len
 have hm1 := hp1.hm
 have hm2 := hp2.hm
 have hw1 := wts_len (l := l1)
 have hw2 := wts_len (l := l2)
 refine rS (kM rfl rfl (i_nil (rS (kM rfl rfl (kO rfl (a_call rfl rfl (fun s1 h1 => weightsOf_s _ _ _ _ s1 h1.wf (by omega) (hl2.ext hs h1.2.1) hp2) (fun v1 A1 q1 => ?_)))))))
 obtain ⟨b1, rfl, rfl⟩ := q1
 refine kM rfl rfl (i_nil (rS (kM rfl rfl (kO rfl (a_lenx rfl hl1.spot (kO rfl (a_mks1 (m := 0) rfl rfl (by omega) (by omega) (by omega) (fun b2 => (kM rfl rfl (i_nil (rQ (rS (kM rfl rfl (kO rfl (a_call rfl rfl (fun s1 h1 => weightsOf_s _ _ _ _ s1 h1.wf (by omega) (hl1.ext hs h1.2.1) hp1) (fun v1 A1 q1 => ?_))))))))))))))))
 obtain ⟨b3, rfl, rfl⟩ := q1
 refine kO rfl (a_len rfl (kM rfl rfl (i_nil (r_block (r_loop (fun j e A => ∃ (k : Nat) (R : List Value), e = [(5, .slice (some ⟨b1, 0, none⟩) l2.length l2.length), (6, .slice (some ⟨b2, 0, none⟩) k l1.length), (18, .slice (some ⟨b3, 0, none⟩) l1.length l1.length), (19, .int .i64 (l1.length : Int)), (20, .int .i64 (k : Int))] ∧ A = (.row b3 3 false (ints (wts l1)) :: (.row b2 22 false (R) :: (.row b1 3 false (ints (wts l2)) :: []))) ∧ j = l1.length - k ∧ k ≤ l1.length ∧ R.length = l1.length) 500 281474976710656 281474976710656 ?_ (j := _) (env2 := _) (A2 := _) ?_ ?_ ?_ ?_ ⟨0, List.replicate l1.length (.slice none 0 0), rfl, rfl, rfl, by omega, (by simp)⟩)))))
 rotate_left
 ·omega
 ·omega
 ·exact (lc 5 rfl (lc 6 rfl (lc 18 rfl (lc 19 rfl (lc 20 rfl Less.nil)))))
 ·exact (.cons_cons _ (.cons_cons _ (.cons_cons _ .slnil)))
 rintro n hn j _ _ ⟨k, R, rfl, rfl, rfl, hkl, hR⟩
 refine rS (kO rfl (a_lss rfl rfl (fun h4 => ?_) (fun h4 => ?_)))
 ·refine i_nil (rQ (r_cond_t rfl (r_skip (then_n (rQ (r_block (rS (kO rfl (a_ia (j := k) rfl rfl (by omega) (by omega) (kO rfl (a_ldI rfl .here (by first | omega | (simp; done) | (simp; omega)) (kM rfl rfl (i_nil (rS (kM rfl rfl (kO rfl (a_len rfl (kO rfl (a_mksI (m := 0) rfl rfl (by omega) (by omega) (by omega) (fun b5 => (kM rfl rfl (i_nil (rQ (rS (kM rfl rfl (kO rfl (a_len rfl (kM rfl rfl (i_nil ?_)))))))))))))))))))))))))))))
  refine r_block (r_loop (fun j e A => ∃ (y : Nat) (S : List Value), e = [(5, .slice (some ⟨b1, 0, none⟩) l2.length l2.length), (6, .slice (some ⟨b2, 0, none⟩) k l1.length), (18, .slice (some ⟨b3, 0, none⟩) l1.length l1.length), (19, .int .i64 (l1.length : Int)), (20, .int .i64 (k : Int)), (8, .int .i64 ((wts l1).getD k 0)), (9, .slice (some ⟨b5, 0, none⟩) y l2.length), (27, .slice (some ⟨b1, 0, none⟩) l2.length l2.length), (28, .int .i64 (l2.length : Int)), (29, .int .i64 (y : Int))] ∧ A = (.row b5 3 false (S) :: (.row b3 3 false (ints (wts l1)) :: (.row b2 22 false (R) :: (.row b1 3 false (ints (wts l2)) :: [])))) ∧ j = l2.length - y ∧ y ≤ l2.length ∧ S.length = l2.length) 300 0 281474976710656 ?_ (j := _) (env2 := _) (A2 := _) ?_ ?_ ?_ ?_ ⟨0, ints (List.replicate l2.length 0), rfl, rfl, rfl, by omega, (by simp [ints])⟩)
  rotate_left
  ·omega
  ·omega
  ·exact (lc 5 rfl (lc 6 rfl (lc 18 rfl (lc 19 rfl (lc 20 rfl (lc 8 rfl (lc 9 rfl (lc 27 rfl (lc 28 rfl (lc 29 rfl Less.nil))))))))))
  ·exact (.cons_cons _ (.cons_cons _ (.cons_cons _ (.cons_cons _ .slnil))))
  rintro n hn j _ _ ⟨y, S, rfl, rfl, rfl, hjl, hS⟩
  refine rS (kO rfl (a_lss rfl rfl (fun h6 => ?_) (fun h6 => ?_)))
  ·refine i_nil (rQ (r_cond_t rfl (r_skip (then_n (rQ (r_block (rS (kO rfl (a_ia (j := y) rfl rfl (by omega) (by omega) (kO rfl (a_ldI rfl (.next (.next (.next .here))) (by first | omega | (simp; done) | (simp; omega)) (kM rfl rfl (i_nil (rI (kM rfl rfl (kM rfl rfl (kM rfl rfl (kO rfl (a_mul rfl rfl (mul_bd (wts_bd hp1 k) (wts_bd hp2 y)) (kO rfl (a_lit rfl rfl rfl (fun b7 => (kO rfl (a_appc rfl rfl (Src.own .here rfl (by simp)) (.next .here) (by omega) (by omega) (by show _ < 18446744073709551616; omega) (by omega) (by omega) (kM rfl rfl (i_nil (block_n (then_n (rI ?_)))))))))))))))))))))))))))))
   refine kO rfl (a_add rfl rfl (by omega) (kM rfl rfl (i_nil (then_n ?_))))
   exact ⟨rfl, _, _, _, (show l2.length - (y + 1) < l2.length - y by omega), (lc 5 rfl (lc 6 rfl (lc 18 rfl (lc 19 rfl (lc 20 rfl (lc 8 rfl (lc 9 rfl (lc 27 rfl (lc 28 rfl (lc 29 rfl Less.nil)))))))))), (.cons _ (.cons_cons _ (.cons_cons _ (.cons_cons _ (.cons_cons _ .slnil))))), ⟨y + 1, _, rfl, rfl, rfl, by omega, (by simp [over]; omega)⟩⟩
  ·refine i_nil (rQ (r_cond_f rfl (r_exit (then_e (then_e (block_hit (then_n (rI (kM rfl rfl (kM rfl rfl (kO rfl (a_lit rfl rfl rfl (fun b9 => (kO rfl (a_appc rfl rfl (Src.own .here rfl (by simp)) (.next (.next (.next .here))) (by omega) (by omega) (by show _ < 18446744073709551616; omega) (by omega) (by omega) (kM rfl rfl (i_nil (block_n (then_n (rI (kO rfl (a_add rfl rfl (by omega) (kM rfl rfl (i_nil (then_n ?_)))))))))))))))))))))))))
   exact ⟨rfl, _, _, _, (show l1.length - (k + 1) < l1.length - k by omega), (lc 5 rfl (lc 6 rfl (lc 18 rfl (lc 19 rfl (lc 20 rfl Less.nil))))), (.cons _ (.cons _ (.cons_cons _ (.cons_cons _ (.cons_cons _ .slnil))))), ⟨k + 1, _, rfl, rfl, rfl, by omega, (by simp [over]; omega)⟩⟩
 ·refine i_nil (rQ (r_cond_f rfl (r_exit (then_e (then_e (block_hit (then_n (rS (kM rfl rfl (kM rfl rfl (i_nil (r_ret ?_))))))))))))
  exact end1A rfl (List.nil_sublist _) rfl

theorem Grid_s (n : Nat) (a1 a2 : Option Addr) (c1 c2 : Nat) (l1 l2 : List Int) (s : St) (hs : Wf s) (hn : 1407374883553280 ≤ n) (hl1 : IntsE s a1 l1) (hl2 : IntsE s a2 l2) : Spec Tryz.prog (tabK tabw) X (n + 1600) 64 [.slice a1 l1.length c1, .slice a2 l2.length c2] s (fun v A => ∃ x, v = .tuple #[x, .int .i64 (if planB l1 l2 = true then 0 else 12)] ∧ A = []) := by
 refine enter bw64_at rfl hs ?_
 unfold bw64
 have hlen1 := hl1.len
 have hlen2 := hl2.len
 refine rS (kM rfl rfl (kM rfl rfl (i_nil (rQ (rS (kM rfl rfl (kM rfl rfl (kO rfl (a_callE rfl rfl (fun s1 h1 => checkPlan_s _ _ _ _ _ _ _ s1 h1.wf (by omega) (hl1.ext hs h1.2.1) (hl2.ext hs h1.2.1)) (fun h1 => ?_) (fun h1 => ?_))))))))))
 ·have hp1 := plan_p1 h1
  have hp2 := plan_p2 h1
  refine kM rfl rfl (i_nil (rS (kM rfl rfl (kO rfl (a_neq rfl rfl (fun h => absurd h (by decide)) (fun _ => (i_nil (r_cond_f rfl (r_skip (then_n (rS (kM rfl rfl (kM rfl rfl (kO rfl (a_call rfl rfl (fun s1 h1 => gridOf_s _ _ _ _ _ _ _ s1 h1.wf (by omega) (hl1.ext hs h1.2.1) (hl2.ext hs h1.2.1) hp1 hp2) (fun v1 A1 q1 => ?_))))))))))))))))
  subst q1
  refine kM rfl rfl (kM rfl rfl (i_nil (r_ret ?_)))
  first
   | exact end2A rfl rfl (List.nil_sublist _) ⟨_, by rw [if_pos (by assumption)], rfl⟩
   | exact end2A rfl rfl (List.nil_sublist _) ⟨_, by rw [if_neg (by assumption)], rfl⟩
 ·refine kM rfl rfl (i_nil (rS (kM rfl rfl (kO rfl (a_neq rfl rfl (fun _ => (i_nil (r_cond_t rfl (rS (kM rfl rfl (kM rfl rfl (kM rfl rfl (i_nil (r_ret (then_r ?_)))))))))) (fun h => absurd h (by decide)))))))
  first
   | exact end2A rfl rfl (List.nil_sublist _) ⟨_, by rw [if_pos (by assumption)], rfl⟩
   | exact end2A rfl rfl (List.nil_sublist _) ⟨_, by rw [if_neg (by assumption)], rfl⟩

end
end Ev
end Go.Proofs.YtonbhokaeodmdaaGreat

/- Contracts: spaces. -/
namespace Go.Proofs.YtonbhokaeodmdaaGreat
open Go Go.RowKit
namespace Ev
theorem plc_last {m hi : Int} {l : List Int} (h : Plc m hi l) : ∀ (d k : Nat), k + d + 1 = l.length → l.getD k 0 ≤ l.getD (l.length - 1) 0
  | 0, k, hk => by rw [show l.length - 1 = k by omega]; exact Int.le_refl _
  | d + 1, k, hk => by
    have h1 := h.rise k (by omega)
    have h2 := plc_last h d (k + 1) (by omega)
    omega
theorem plan_last {l1 l2 : List Int} (h1 : plcB 9 100000 l1 = true) (h2 : plcB 9 100000 l2 = true) (h3 : (l2.length : Int) ≤ 7) (h4 : l2.getD (l2.length - 1) 0 ≤ 15000) : planB l1 l2 = true := by
  have hp := plc_of (by decide) h2
  refine plan_yes h1 h2 h3 ?_
  unfold inB
  rw [List.all_eq_true]
  intro x hx
  obtain ⟨k, hk, rfl⟩ := List.getElem_of_mem hx
  have q := hp.lo k
  have q2 := plc_last hp (l2.length - 1 - k) k (by omega)
  have q3 : l2.getD k 0 ≤ 15000 := Int.le_trans q2 h4
  have e : l2.getD k 0 = l2[k] := by rw [List.getD_eq_getElem?_getD, List.getElem?_eq_getElem hk]; rfl
  rw [e] at q q3
  simpa using ⟨q.1, q3⟩
theorem plan_last_no {l1 l2 : List Int} (h4 : ¬ l2.getD (l2.length - 1) 0 ≤ 15000) : planB l1 l2 = false := by
  cases hb : planB l1 l2 with
  | false => rfl
  | true => exact absurd ((plan_q2 hb).lo _).2 h4
theorem plan_not1 {l1 l2 : List Int} (h : ¬ plcB 9 100000 l1 = true) : planB l1 l2 = false := plan_no1 (by simpa using h)
theorem plan_not2 {l1 l2 : List Int} (h : ¬ plcB 9 100000 l2 = true) : planB l1 l2 = false := plan_no2 (by simpa using h)
theorem plc_take {l : List Int} {k : Nat} (h : Plc 9 100000 l) (h1 : 2 ≤ k) (h2 : k ≤ l.length) : Plc 9 100000 (l.take k) := by
  have hl : (l.take k).length = k := by rw [List.length_take]; omega
  have hg : ∀ j, j < k → (l.take k).getD j 0 = l.getD j 0 := fun j hj => by
    rw [List.getD_eq_getElem?_getD, List.getD_eq_getElem?_getD, List.getElem?_take, if_pos hj]
  refine ⟨by omega, by have := h.hm; omega, fun j => ?_, fun j hj => ?_⟩
  · by_cases hj : j < k
    · rw [hg j hj]; exact h.lo j
    · rw [List.getD_eq_getElem?_getD, List.getElem?_eq_none (by omega)]; exact ⟨Int.le_refl _, by decide⟩
  · rw [hg j (by omega), hg (j + 1) (by omega)]; exact h.rise j (by omega)
theorem plcB_of {l : List Int} (h : Plc 9 100000 l) : plcB 9 100000 l = true := by
  refine plc_yes ⟨by have := h.h2; omega, h.hm⟩ ?_ ?_
  · unfold inB
    rw [List.all_eq_true]
    intro x hx
    obtain ⟨k, hk, rfl⟩ := List.getElem_of_mem hx
    have q := h.lo k
    rw [List.getD_eq_getElem?_getD, List.getElem?_eq_getElem hk] at q
    simpa using q
  · have key : ∀ (d k : Nat), l.length ≤ k + d → risB (l.drop k) = true := by
      intro d
      induction d with
      | zero => intro k hk; rw [List.drop_eq_nil_of_le (by omega)]; rfl
      | succ d ih =>
        intro k hk
        by_cases hk' : k + 1 < l.length
        · rw [ris_step hk', decide_eq_true (h.rise k hk'), ih (k + 1) (by omega)]; rfl
        · by_cases hk2 : k < l.length
          · rw [List.drop_eq_getElem_cons hk2, List.drop_eq_nil_of_le (by omega)]; rfl
          · rw [List.drop_eq_nil_of_le (by omega)]; rfl
    exact key l.length 0 (by omega)

section
variable {X : FuncId → List Value → St → (Value → St → Bool) → Bool}
theorem CheckSpace_s (n : Nat) (d r al up : Int) (a1 a2 : Option Addr) (c1 c2 : Nat) (l1 l2 : List Int) (s : St) (hs : Wf s) (hn : 1688849860263936 ≤ n) (hl1 : IntsE s a1 l1) (hl2 : IntsE s a2 l2) : Spec Tryz.prog (tabK tabw) X (n + 1700) 30 [.agg ⟨[.int .i64 d, .int .i64 r, .slice a1 l1.length c1, .slice a2 l2.length c2, .int .i64 al, .int .i64 up]⟩] s (fun v A => v = .int .i64 (if (1 ≤ d ∧ d ≤ 99999) ∧ (1 ≤ r ∧ r ≤ 99999) ∧ (0 ≤ al ∧ al ≤ 100000) ∧ (0 ≤ up ∧ up ≤ 100000) ∧ planB l1 l2 = true then 0 else 30) ∧ A = []) := by
 refine enter bw30_at rfl hs ?_
 unfold bw30
 have hlen1 := hl1.len
 have hlen2 := hl2.len
 refine rS (kO rfl (a_box rfl rfl rfl (fun b1 => (kM rfl rfl (i_nil (rS (kO rfl (a_fa rfl (kO rfl (a_ld rfl .here rfl (kO rfl (a_fa rfl (kO rfl (a_ld rfl .here rfl (kO rfl (a_call rfl rfl (fun s1 h1 => Grid_s _ _ _ _ _ _ _ s1 h1.wf (by omega) (hl1.ext hs h1.2.1) (hl2.ext hs h1.2.1)) (fun v1 A1 q1 => ?_)))))))))))))))))
 obtain ⟨x1, rfl, rfl⟩ := q1
 by_cases hpl : planB l1 l2 = true
 ·rw [if_pos hpl]
  refine kM rfl rfl (kO rfl (a_ext rfl rfl (kO rfl (a_ext rfl rfl (kM rfl rfl (kM rfl rfl (i_nil (rS (kM rfl rfl (kO rfl (a_eql rfl rfl (fun _ => (kM rfl rfl (kG rfl rfl (a_fa rfl (kG rfl rfl (a_ld rfl .here rfl (kG rfl rfl (a_callB rfl rfl (fun s1 h1 => isSource_s _ _ s1 h1.wf) (fun h3 => ?_) (fun h3 => ?_))))))))) (fun h => absurd h (by decide)))))))))))))
  ·refine kO rfl (a_pick_t rfl rfl rfl (kM rfl rfl (kG rfl rfl (a_fa rfl (kG rfl rfl (a_ld rfl .here rfl (kG rfl rfl (a_callB rfl rfl (fun s1 h1 => isSource_s _ _ s1 h1.wf) (fun h4 => ?_) (fun h4 => ?_)))))))))
   ·refine kO rfl (a_pick_t rfl rfl rfl (kM rfl rfl (kG rfl rfl (a_fa rfl (kG rfl rfl (a_fa rfl (kG rfl rfl (a_ld rfl .here rfl (kG rfl rfl (a_callB rfl rfl (fun s1 h1 => inside_s _ _ _ _ s1 h1.wf) (fun h5 => ?_) (fun h5 => ?_)))))))))))
    ·refine kO rfl (a_pick_t rfl rfl rfl (kM rfl rfl (kG rfl rfl (a_fa rfl (kG rfl rfl (a_fa rfl (kG rfl rfl (a_ld rfl .here rfl (kG rfl rfl (a_callB rfl rfl (fun s1 h1 => inside_s _ _ _ _ s1 h1.wf) (fun h6 => ?_) (fun h6 => ?_)))))))))))
     ·refine kO rfl (a_pick_t rfl rfl rfl (kM rfl rfl (i_nil (rQ (rS (kM rfl rfl (kO rfl (a_not rfl (i_nil (r_cond_f rfl (r_skip (then_n (rS (kM rfl rfl (i_nil (r_ret (end1 rfl ⟨congrArg (Value.int .i64) ?_, rfl⟩)))))))))))))))))
      first
       | exact (if_pos ⟨by omega, by omega, by omega, by omega, by first | assumption | exact plan_last (by assumption) (by assumption) (by omega) (by omega)⟩).symm
       | exact (if_neg (fun h => by
         obtain ⟨q1, q2, q3, q4, q5⟩ := h
         first
          | omega
          | contradiction
          | (rw [plan_not1 (by assumption)] at q5; cases q5)
          | (rw [plan_not2 (by assumption)] at q5; cases q5)
          | (rw [plan_no3 (by omega)] at q5; cases q5)
          | (rw [plan_last_no (by omega)] at q5; cases q5))).symm
     ·refine kO rfl (a_pick_t rfl rfl rfl (kM rfl rfl (i_nil (rQ (rS (kM rfl rfl (kO rfl (a_not rfl (i_nil (r_cond_t rfl (rS (kM rfl rfl (i_nil (r_ret (then_r (end1 rfl ⟨congrArg (Value.int .i64) ?_, rfl⟩))))))))))))))))
      first
       | exact (if_pos ⟨by omega, by omega, by omega, by omega, by first | assumption | exact plan_last (by assumption) (by assumption) (by omega) (by omega)⟩).symm
       | exact (if_neg (fun h => by
         obtain ⟨q1, q2, q3, q4, q5⟩ := h
         first
          | omega
          | contradiction
          | (rw [plan_not1 (by assumption)] at q5; cases q5)
          | (rw [plan_not2 (by assumption)] at q5; cases q5)
          | (rw [plan_no3 (by omega)] at q5; cases q5)
          | (rw [plan_last_no (by omega)] at q5; cases q5))).symm
    ·refine kO rfl (a_pick_t rfl rfl rfl (kM rfl rfl (i_no rfl rfl (i_no rfl rfl (i_no rfl rfl (i_no rfl rfl (kO rfl (a_pick_f rfl rfl rfl (kM rfl rfl (i_nil (rQ (rS (kM rfl rfl (kO rfl (a_not rfl (i_nil (r_cond_t rfl (rS (kM rfl rfl (i_nil (r_ret (then_r (end1 rfl ⟨congrArg (Value.int .i64) ?_, rfl⟩)))))))))))))))))))))))
     first
      | exact (if_pos ⟨by omega, by omega, by omega, by omega, by first | assumption | exact plan_last (by assumption) (by assumption) (by omega) (by omega)⟩).symm
      | exact (if_neg (fun h => by
        obtain ⟨q1, q2, q3, q4, q5⟩ := h
        first
         | omega
         | contradiction
         | (rw [plan_not1 (by assumption)] at q5; cases q5)
         | (rw [plan_not2 (by assumption)] at q5; cases q5)
         | (rw [plan_no3 (by omega)] at q5; cases q5)
         | (rw [plan_last_no (by omega)] at q5; cases q5))).symm
   ·refine kO rfl (a_pick_t rfl rfl rfl (kM rfl rfl (i_no rfl rfl (i_no rfl rfl (i_no rfl rfl (i_no rfl rfl (kO rfl (a_pick_f rfl rfl rfl (kM rfl rfl (i_no rfl rfl (i_no rfl rfl (i_no rfl rfl (i_no rfl rfl (kO rfl (a_pick_f rfl rfl rfl (kM rfl rfl (i_nil (rQ (rS (kM rfl rfl (kO rfl (a_not rfl (i_nil (r_cond_t rfl (rS (kM rfl rfl (i_nil ?_)))))))))))))))))))))))))))
    refine r_ret (then_r (end1 rfl ⟨congrArg (Value.int .i64) ?_, rfl⟩))
    first
     | exact (if_pos ⟨by omega, by omega, by omega, by omega, by first | assumption | exact plan_last (by assumption) (by assumption) (by omega) (by omega)⟩).symm
     | exact (if_neg (fun h => by
       obtain ⟨q1, q2, q3, q4, q5⟩ := h
       first
        | omega
        | contradiction
        | (rw [plan_not1 (by assumption)] at q5; cases q5)
        | (rw [plan_not2 (by assumption)] at q5; cases q5)
        | (rw [plan_no3 (by omega)] at q5; cases q5)
        | (rw [plan_last_no (by omega)] at q5; cases q5))).symm
  ·refine kO rfl (a_pick_t rfl rfl rfl (kM rfl rfl (i_no rfl rfl (i_no rfl rfl (i_no rfl rfl (kO rfl (a_pick_f rfl rfl rfl (kM rfl rfl (i_no rfl rfl (i_no rfl rfl (i_no rfl rfl (i_no rfl rfl (kO rfl (a_pick_f rfl rfl rfl (kM rfl rfl (i_no rfl rfl (i_no rfl rfl (i_no rfl rfl (i_no rfl rfl (kO rfl (a_pick_f rfl rfl rfl (kM rfl rfl (i_nil (rQ (rS (kM rfl rfl (kO rfl (a_not rfl ?_))))))))))))))))))))))))))))
   refine i_nil (r_cond_t rfl (rS (kM rfl rfl (i_nil (r_ret (then_r (end1 rfl ⟨congrArg (Value.int .i64) ?_, rfl⟩)))))))
   first
    | exact (if_pos ⟨by omega, by omega, by omega, by omega, by first | assumption | exact plan_last (by assumption) (by assumption) (by omega) (by omega)⟩).symm
    | exact (if_neg (fun h => by
      obtain ⟨q1, q2, q3, q4, q5⟩ := h
      first
       | omega
       | contradiction
       | (rw [plan_not1 (by assumption)] at q5; cases q5)
       | (rw [plan_not2 (by assumption)] at q5; cases q5)
       | (rw [plan_no3 (by omega)] at q5; cases q5)
       | (rw [plan_last_no (by omega)] at q5; cases q5))).symm
 ·rw [if_neg hpl]
  refine kM rfl rfl (kO rfl (a_ext rfl rfl (kO rfl (a_ext rfl rfl (kM rfl rfl (kM rfl rfl (i_nil (rS (kM rfl rfl (kO rfl (a_eql rfl rfl (fun h => absurd h (by decide)) (fun _ => (kM rfl rfl (i_no rfl rfl (i_no rfl rfl (i_no rfl rfl (kO rfl (a_pick_f rfl rfl rfl (kM rfl rfl (i_no rfl rfl (i_no rfl rfl (i_no rfl rfl (kO rfl (a_pick_f rfl rfl rfl (kM rfl rfl (i_no rfl rfl (i_no rfl rfl (i_no rfl rfl (i_no rfl rfl ?_)))))))))))))))))))))))))))))
  refine kO rfl (a_pick_f rfl rfl rfl (kM rfl rfl (i_no rfl rfl (i_no rfl rfl (i_no rfl rfl (i_no rfl rfl (kO rfl (a_pick_f rfl rfl rfl (kM rfl rfl (i_nil (rQ (rS (kM rfl rfl (kO rfl (a_not rfl (i_nil (r_cond_t rfl (rS (kM rfl rfl (i_nil (r_ret (then_r (end1 rfl ⟨congrArg (Value.int .i64) ?_, rfl⟩)))))))))))))))))))))))
  first
   | exact (if_pos ⟨by omega, by omega, by omega, by omega, by first | assumption | exact plan_last (by assumption) (by assumption) (by omega) (by omega)⟩).symm
   | exact (if_neg (fun h => by
     obtain ⟨q1, q2, q3, q4, q5⟩ := h
     first
      | omega
      | contradiction
      | (rw [plan_not1 (by assumption)] at q5; cases q5)
      | (rw [plan_not2 (by assumption)] at q5; cases q5)
      | (rw [plan_no3 (by omega)] at q5; cases q5)
      | (rw [plan_last_no (by omega)] at q5; cases q5))).symm

theorem has_s (n : Nat) (d r al up : Int) (a1 a2 : Option Addr) (c1 c2 : Nat) (l1 l2 : List Int) (x y : Int) (s : St) (hs : Wf s) (hn : 281474976710656 ≤ n) (hl1 : IntsE s a1 l1) (hl2 : IntsE s a2 l2) : Spec Tryz.prog (tabK tabw) X (n + 60) 70 [.agg ⟨[.int .i64 d, .int .i64 r, .slice a1 l1.length c1, .slice a2 l2.length c2, .int .i64 al, .int .i64 up]⟩, .int .i64 x, .int .i64 y] s (fun v A => v = .bool (decide ((0 ≤ x ∧ x ≤ (l1.length : Int) - 1) ∧ (0 ≤ y ∧ y ≤ (l2.length : Int) - 1))) ∧ A = []) := by
 refine enter bw70_at rfl hs ?_
 unfold bw70
 have hlen1 := hl1.len
 have hlen2 := hl2.len
 refine rS (kO rfl (a_box rfl rfl rfl (fun b1 => (kM rfl rfl (i_nil (rS (kM rfl rfl (kO rfl (a_fa rfl (kO rfl (a_ld rfl .here rfl (kO rfl (a_lenx rfl hl1.spot (kO rfl (a_sub rfl rfl (by omega) (kO rfl (a_callB rfl rfl (fun s1 h1 => inside_s _ _ _ _ s1 h1.wf) (fun h2 => ?_) (fun h2 => ?_))))))))))))))))))
 ·refine kM rfl rfl (kG rfl rfl (a_mov rfl (kG rfl rfl (a_fa rfl (kG rfl rfl (a_ld rfl .here rfl (kG rfl rfl (a_lenx rfl hl2.spot (kG rfl rfl (a_sub rfl rfl (by omega) (kG rfl rfl (a_callB rfl rfl (fun s1 h1 => inside_s _ _ _ _ s1 h1.wf) (fun h3 => ?_) (fun h3 => ?_)))))))))))))
  ·refine kO rfl (a_pick_t rfl rfl rfl (kM rfl rfl (i_nil (r_ret (end1 rfl ⟨congrArg Value.bool ?_, rfl⟩)))))
   first | exact (decide_eq_true ⟨by omega, by omega⟩).symm | exact (decide_eq_false (fun h => by omega)).symm
  ·refine kO rfl (a_pick_t rfl rfl rfl (kM rfl rfl (i_nil (r_ret (end1 rfl ⟨congrArg Value.bool ?_, rfl⟩)))))
   first | exact (decide_eq_true ⟨by omega, by omega⟩).symm | exact (decide_eq_false (fun h => by omega)).symm
 ·refine kM rfl rfl (i_no rfl rfl (i_no rfl rfl (i_no rfl rfl (i_no rfl rfl (i_no rfl rfl (i_no rfl rfl (kO rfl (a_pick_f rfl rfl rfl (kM rfl rfl (i_nil (r_ret (end1 rfl ⟨congrArg Value.bool ?_, rfl⟩))))))))))))
  first | exact (decide_eq_true ⟨by omega, by omega⟩).symm | exact (decide_eq_false (fun h => by omega)).symm

theorem Weights_s (n : Nat) (a : Option Addr) (cap : Nat) (l : List Int) (s : St) (hs : Wf s) (hn : 844424930131968 ≤ n) (hl : IntsE s a l) (hp : Plc 9 100000 l) : Spec Tryz.prog (tabK tabw) X (n + 1000) 157 [.slice a l.length cap] s (fun v A => ∃ b, v = .tuple #[.slice (some ⟨b, 0, none⟩) l.length l.length, .int .i64 0] ∧ A = [.row b 3 false (ints (wts l))]) := by
 refine enter bw157_at rfl hs ?_
 unfold bw157
 have hlen := hl.len
 refine rS (kM rfl rfl (kM rfl rfl (i_nil (rQ (rS (kM rfl rfl (kO rfl (a_callE rfl rfl (fun s1 h1 => CheckPlaces_s _ _ _ _ s1 h1.wf (by omega) (hl.ext hs h1.2.1)) (fun h1 => ?_) (fun h1 => ?_)))))))))
 ·refine kM rfl rfl (i_nil (rS (kM rfl rfl (kO rfl (a_neq rfl rfl (fun h => absurd h (by decide)) (fun _ => (i_nil (r_cond_f rfl (r_skip (then_n (rS (kM rfl rfl (kO rfl (a_call rfl rfl (fun s1 h1 => weightsOf_s _ _ _ _ s1 h1.wf (by omega) (hl.ext hs h1.2.1) hp) (fun v1 A1 q1 => ?_)))))))))))))))
  obtain ⟨b3, rfl, rfl⟩ := q1
  refine kM rfl rfl (kM rfl rfl (i_nil (r_ret ?_)))
  exact end2A rfl rfl (.cons_cons _ .slnil) ⟨b3, rfl, rfl⟩
 ·refine kM rfl rfl (i_nil (rS (kM rfl rfl (kO rfl (a_neq rfl rfl (fun _ => (i_nil (r_cond_t rfl (rS (kM rfl rfl (kM rfl rfl (kM rfl rfl (i_nil (r_ret (then_r ?_)))))))))) (fun h => absurd h (by decide)))))))
  exfalso; exact absurd (plcB_of hp) (by assumption)

theorem integral_s (n : Nat) (a : Option Addr) (cap : Nat) (l : List Int) (s : St) (hs : Wf s) (hn : 844424930131968 ≤ n) (hl : IntsE s a l) (hp : Plc 9 100000 l) : Spec Tryz.prog (tabK tabw) X (n + 1100) 139 [.slice a l.length cap] s (fun v A => ∃ b, v = .slice (some ⟨b, 0, none⟩) l.length l.length ∧ A = [.row b 3 false (ints (wts l))]) := by
 refine enter bw139_at rfl hs ?_
 unfold bw139
 have hlen := hl.len
 refine rS (kM rfl rfl (i_nil (rS (kM rfl rfl (kO rfl (a_call rfl rfl (fun s1 h1 => Weights_s _ _ _ _ s1 h1.wf (by omega) (hl.ext hs h1.2.1) hp) (fun v1 A1 q1 => ?_)))))))
 obtain ⟨b1, rfl, rfl⟩ := q1
 refine kM rfl rfl (kO rfl (a_ext rfl rfl (kO rfl (a_ext rfl rfl (kM rfl rfl (kM rfl rfl (i_nil (rS (kM rfl rfl (kM rfl rfl (i_nil (r_ret ?_))))))))))))
 exact end1A rfl (.cons_cons _ .slnil) ⟨b1, rfl, rfl⟩

theorem only_s (n : Nat) (x : Nat) (s : St) (hs : Wf s) (hx : x < 100) : Spec Tryz.prog (tabK tabw) X (n + 60) 140 [.int .i64 (x : Int)] s (fun v A => ∃ b, v = .slice (some ⟨b, 0, none⟩) (x + 1) (x + 1) ∧ A = [.row b 3 false (ints ((List.replicate (x + 1) 0).set x 1))]) := by
 refine enter bw140_at rfl hs ?_
 unfold bw140
 refine rS (kM rfl rfl (i_nil (rS (kM rfl rfl (kO rfl (a_add rfl rfl (by omega) (kO rfl (a_mksI (m := x + 1) (c := x + 1) rfl rfl (by omega) (by omega) (by omega) (fun b1 => (kM rfl rfl (i_nil (rS (kM rfl rfl (kM rfl rfl (kO rfl (a_ia (j := x) rfl rfl (by omega) (by omega) (kZ rfl (a_stI rfl rfl .here (by first | omega | (simp; done) | (simp [wlen]; omega) | (simp; omega)) (i_nil (rS (kM rfl rfl (kM rfl rfl (i_nil (r_ret ?_))))))))))))))))))))))))
 exact end1A rfl (.cons_cons _ .slnil) ⟨b1, rfl, rfl⟩

end
end Ev
end Go.Proofs.YtonbhokaeodmdaaGreat

/- Contracts: equal lists, quantities. -/
namespace Go.Proofs.YtonbhokaeodmdaaGreat
open Go Go.RowKit
namespace Ev
theorem mul_sm {x y : Int} (hx : 0 ≤ x ∧ x ≤ 100) (hy : 0 ≤ y ∧ y ≤ 100) : 0 ≤ x * y ∧ x * y ≤ 10000 :=
  ⟨Int.mul_nonneg hx.1 hy.1, by have := Int.mul_le_mul hx.2 hy.2 hy.1 (by decide); omega⟩

section
variable {X : FuncId → List Value → St → (Value → St → Bool) → Bool}
theorem offsets_s (n : Nat) (d r al up : Int) (a1 a2 : Option Addr) (c1 c2 : Nat) (l1 l2 : List Int) (s : St) (hs : Wf s) (hn : 281474976710656 ≤ n) (hl1 : IntsE s a1 l1) (hl2 : IntsE s a2 l2) (hm : l1.length ≤ 9 ∧ l2.length ≤ 9) : Spec Tryz.prog (tabK tabw) X (n + 40) 26 [.agg ⟨[.int .i64 d, .int .i64 r, .slice a1 l1.length c1, .slice a2 l2.length c2, .int .i64 al, .int .i64 up]⟩] s (fun v A => v = .int .i64 ((l1.length : Int) * (l2.length : Int)) ∧ A = []) := by
 refine enter bw26_at rfl hs ?_
 unfold bw26
 have hlen1 := hl1.len
 have hlen2 := hl2.len
 have hq := mul_sm (x := (l1.length : Int)) (y := (l2.length : Int)) (by omega) (by omega)
 refine rS (kO rfl (a_box rfl rfl rfl (fun b1 => (kM rfl rfl (i_nil (rS (kO rfl (a_fa rfl (kO rfl (a_ld rfl .here rfl (kO rfl (a_lenx rfl hl1.spot (kO rfl (a_fa rfl (kO rfl (a_ld rfl .here rfl (kO rfl (a_lenx rfl hl2.spot (kO rfl (a_mul rfl rfl (by omega) (kM rfl rfl (i_nil (r_ret ?_)))))))))))))))))))))))
 exact end1 rfl ⟨rfl, rfl⟩

theorem number_s (n : Nat) (d r al up : Int) (a1 a2 : Option Addr) (c1 c2 : Nat) (l1 l2 : List Int) (x y : Int) (s : St) (hs : Wf s) (hn : 0 ≤ n) (hl1 : IntsE s a1 l1) (hl2 : IntsE s a2 l2) (hm : l2.length ≤ 9) (hx : 0 ≤ x ∧ x ≤ 9) (hy : 0 ≤ y ∧ y ≤ 9) : Spec Tryz.prog (tabK tabw) X (n + 40) 25 [.agg ⟨[.int .i64 d, .int .i64 r, .slice a1 l1.length c1, .slice a2 l2.length c2, .int .i64 al, .int .i64 up]⟩, .int .i64 x, .int .i64 y] s (fun v A => v = .int .i64 (1 + x * (l2.length : Int) + y) ∧ A = []) := by
 refine enter bw25_at rfl hs ?_
 unfold bw25
 have hlen1 := hl1.len
 have hlen2 := hl2.len
 have hq := mul_sm (x := x) (y := (l2.length : Int)) (by omega) (by omega)
 refine rS (kO rfl (a_box rfl rfl rfl (fun b1 => (kM rfl rfl (i_nil (rS (kM rfl rfl (kO rfl (a_fa rfl (kO rfl (a_ld rfl .here rfl (kO rfl (a_lenx rfl hl2.spot (kO rfl (a_mul rfl rfl (by omega) (kO rfl (a_add rfl rfl (by omega) (kM rfl rfl (kO rfl (a_add rfl rfl (by omega) (kM rfl rfl (i_nil (r_ret ?_)))))))))))))))))))))))
 exact end1 rfl ⟨rfl, rfl⟩

end
end Ev
end Go.Proofs.YtonbhokaeodmdaaGreat
