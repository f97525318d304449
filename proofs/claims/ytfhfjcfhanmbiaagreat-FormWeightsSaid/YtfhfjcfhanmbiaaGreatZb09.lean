import Derived.Test.YtfhfjcfhanmbiaaGreatZb08
set_option linter.unusedVariables false
set_option linter.unusedSimpArgs false
/- Contracts: equal lists, quantities. -/
namespace Go.Proofs.YtfhfjcfhanmbiaaGreat
open Go Go.RowKit
namespace Ev
theorem mul_sm {x y : Int} (hx : 0 ≤ x ∧ x ≤ 100) (hy : 0 ≤ y ∧ y ≤ 100) : 0 ≤ x * y ∧ x * y ≤ 10000 :=
 ⟨Int.mul_nonneg hx.1 hy.1, by have := Int.mul_le_mul hx.2 hy.2 hy.1 (by decide); omega⟩
section
variable {X : FuncId → List Value → St → (Value → St → Bool) → Bool}
theorem SameInts_s (n : Nat) (a1 a2 : Option Addr) (c1 c2 : Nat) (l : List Int) (s : St) (hs : Wf s) (hn : 281474976710656 ≤ n) (hl1 : IntsE s a1 l) (hl2 : IntsE s a2 l) : Spec Tryz.prog (tabK tabw) X (n + 100) 18 [.slice a1 l.length c1, .slice a2 l.length c2] s (fun v A => v = .bool true ∧ A = []) := by
 refine enter bw18_at rfl hs ?_
 unfold bw18
 have hlen1 := hl1.len
 refine r_seq (r_items (i_mv rfl rfl rfl (i_nil (then_n (r_seq (r_items (i_mv rfl rfl rfl ?_)))))))
 refine i_op (a_lenx rfl hl1.spot ?_) rfl rfl
 refine i_mv rfl rfl rfl ?_
 refine i_op (a_lenx rfl hl2.spot ?_) rfl rfl
 refine i_op (a_eql rfl rfl (fun h1 => ?_) (fun h1 => ?_)) rfl rfl
 ·refine i_mv rfl rfl rfl (i_nil (then_n (r_seq (r_seq (r_items (i_mv rfl rfl rfl (i_nil (then_n (r_block ?_)))))))))
  refine r_loop (fun j e A => ∃ (k : Nat), e = [(0, .slice a1 l.length c1), (1, .slice a2 l.length c2), (5, .bool true), (6, .int .i64 (k : Int))] ∧ A = [] ∧ j = l.length - k ∧ k ≤ l.length) 70 0 281474976710656 ?_ (j := _) (env2 := _) (A2 := _) ?_ ?_ ?_ ?_ ⟨0, rfl, rfl, rfl, by omega⟩
  rotate_left
  ·omega
  ·omega
  ·exact (Less.cons rfl (Less.cons rfl (Less.cons rfl (Less.cons rfl Less.nil))))
  ·exact .slnil
  rintro n hn j _ _ ⟨k, rfl, rfl, rfl, hk⟩
  refine r_seq (r_seq (r_items (i_mv rfl rfl rfl (i_mv rfl rfl rfl ?_))))
  refine i_op (a_lenx rfl hl1.spot ?_) rfl rfl
  refine i_op (a_lss rfl rfl (fun h2 => ?_) (fun h2 => ?_)) rfl rfl
  ·refine i_mv rfl rfl rfl (i_mv rfl rfl rfl ?_)
   refine i_op (a_pick_t rfl rfl rfl ?_) rfl rfl
   refine i_nil (then_n (r_cond_t rfl (r_skip (then_n (r_seq (r_block (r_items (i_mv rfl rfl rfl (i_mv rfl rfl rfl ?_)))))))))
   refine i_op (a_iaI (j := k) hl1 rfl rfl (by omega) (by simp) (by omega) (fun _ _ a3 => ?_)) rfl rfl
   refine i_op (a_ldr rfl (hl1.at a3 (by omega)) ?_) rfl rfl
   refine i_mv rfl rfl rfl (i_mv rfl rfl rfl ?_)
   refine i_op (a_iaI (j := k) hl2 rfl rfl (by omega) (by simp) (by omega) (fun _ _ a4 => ?_)) rfl rfl
   refine i_op (a_ldr rfl (hl2.at a4 (by omega)) ?_) rfl rfl
   refine i_op (a_eql rfl rfl (fun h5 => ?_) (fun h5 => ?_)) rfl rfl
   ·refine i_mv rfl rfl rfl (i_nil (block_n (then_n (r_items (i_mv rfl rfl rfl ?_)))))
    refine i_op (a_add rfl rfl (by omega) ?_) rfl rfl
    refine i_mv rfl rfl rfl (i_nil (then_n ?_))
    exact ⟨rfl, _, _, _, (show l.length - (k + 1) < l.length - k by omega), (lc 0 rfl (lc 1 rfl (lc 5 rfl (lc 6 rfl Less.nil)))), .slnil, ⟨k + 1, rfl, rfl, rfl, by omega⟩⟩
   ·exact absurd rfl h5
  ·refine i_mv rfl rfl rfl (i_no rfl rfl ?_)
   refine i_op (a_pick_f rfl rfl rfl ?_) rfl rfl
   refine i_nil (then_n (r_cond_f rfl (r_exit (then_e (then_e (block_hit (then_n (r_seq (r_items (i_mv rfl rfl rfl (i_mv rfl rfl rfl (i_nil (then_n (r_ret ?_))))))))))))))
   exact end1 rfl ⟨rfl, rfl⟩
 ·exact absurd rfl h1
theorem isWhat_s (n : Nat) (d r al up : Int) (a1 a2 : Option Addr) (c1 c2 : Nat) (l1 l2 : List Int) (wk ws ww : Int) (s : St) (hs : Wf s) (hn : 281474976710656 ≤ n) (hl1 : IntsE s a1 l1) (hl2 : IntsE s a2 l2) : Spec Tryz.prog (tabK tabw) X (n + 80) 54 [.agg ⟨[.int .i64 d, .int .i64 r, .slice a1 l1.length c1, .slice a2 l2.length c2, .int .i64 al, .int .i64 up]⟩, .agg ⟨[.int .i64 wk, .int .i64 ws, .int .i64 ww]⟩] s (fun v A => v = .bool (decide ((wk = 1 ∧ ws = 0 ∧ (0 ≤ ww ∧ ww ≤ (l2.length : Int) - 1) ∧ 0 < ww) ∨ (wk = 2 ∧ ws = 0 ∧ (0 ≤ ww ∧ ww ≤ (l2.length : Int) - 1)) ∨ (wk = 3 ∧ (0 ≤ ws ∧ ws ≤ (l1.length : Int) - 1) ∧ ww = 0) ∨ (wk = 4 ∧ (0 ≤ ws ∧ ws ≤ (l1.length : Int) - 1) ∧ (0 ≤ ww ∧ ww ≤ (l2.length : Int) - 1)))) ∧ A = []) := by
 refine enter bw54_at rfl hs ?_
 unfold bw54
 have hlen1 := hl1.len
 have hlen2 := hl2.len
 refine r_seq (r_items ?_)
 refine i_op (a_box rfl rfl rfl (fun b1 => ?_)) rfl rfl
 refine i_op (a_box rfl rfl rfl (fun b2 => ?_)) rfl rfl
 refine i_mv rfl rfl rfl (i_nil (then_n (r_seq (r_items ?_))))
 refine i_op (a_fa rfl ?_) rfl rfl
 refine i_op (a_ld rfl .here rfl ?_) rfl rfl
 refine i_op (a_fa rfl ?_) rfl rfl
 refine i_op (a_ld rfl (.next .here) rfl ?_) rfl rfl
 refine i_op (a_lenx rfl hl2.spot ?_) rfl rfl
 refine i_op (a_sub rfl rfl (by omega) ?_) rfl rfl
 refine i_op (a_callB rfl rfl (fun s1 h1 => In_s _ _ _ _ s1 h1.wf) (fun h3 => ?_) (fun h3 => ?_)) rfl rfl
 ·refine i_mv rfl rfl rfl (i_nil (then_n (r_seq (r_items ?_))))
  refine i_op (a_fa rfl ?_) rfl rfl
  refine i_op (a_ld rfl .here rfl ?_) rfl rfl
  refine i_op (a_fa rfl ?_) rfl rfl
  refine i_op (a_ld rfl (.next .here) rfl ?_) rfl rfl
  refine i_op (a_lenx rfl hl1.spot ?_) rfl rfl
  refine i_op (a_sub rfl rfl (by omega) ?_) rfl rfl
  refine i_op (a_callB rfl rfl (fun s1 h1 => In_s _ _ _ _ s1 h1.wf) (fun h4 => ?_) (fun h4 => ?_)) rfl rfl
  ·refine i_mv rfl rfl rfl (i_nil (then_n (r_seq (r_seq (r_items ?_)))))
   refine i_op (a_fa rfl ?_) rfl rfl
   refine i_op (a_ld rfl .here rfl ?_) rfl rfl
   refine i_nil (then_n (r_block (r_seq (r_items ?_))))
   refine i_op (a_eql rfl rfl (fun h5 => ?_) (fun h5 => ?_)) rfl rfl
   ·refine i_mv rfl rfl rfl (i_nil (then_n (r_cond_t rfl (r_seq (r_items ?_)))))
    refine i_op (a_fa rfl ?_) rfl rfl
    refine i_op (a_ld rfl .here rfl ?_) rfl rfl
    refine i_op (a_eql rfl rfl (fun h6 => ?_) (fun h6 => ?_)) rfl rfl
    ·refine i_mv rfl rfl rfl (i_mv rfl rfl rfl ?_)
     refine i_op (a_pick_t rfl rfl rfl ?_) rfl rfl
     refine i_mv rfl rfl rfl ?_
     refine i_op (a_fa rfl ?_) rfl rfl
     refine i_op (a_ld rfl .here rfl ?_) rfl rfl
     refine i_op (a_gtr rfl rfl (fun h7 => ?_) (fun h7 => ?_)) rfl rfl
     ·refine i_op (a_pick_t rfl rfl rfl ?_) rfl rfl
      refine i_mv rfl rfl rfl (i_nil (then_n (r_ret (block_r (then_r ?_)))))
      refine end1 rfl ⟨congrArg Value.bool ?_, rfl⟩
      first | exact (decide_eq_true (by omega)).symm | exact (decide_eq_false (by omega)).symm
     ·refine i_op (a_pick_t rfl rfl rfl ?_) rfl rfl
      refine i_mv rfl rfl rfl (i_nil (then_n (r_ret (block_r (then_r ?_)))))
      refine end1 rfl ⟨congrArg Value.bool ?_, rfl⟩
      first | exact (decide_eq_true (by omega)).symm | exact (decide_eq_false (by omega)).symm
    ·refine i_mv rfl rfl rfl (i_no rfl rfl ?_)
     refine i_op (a_pick_f rfl rfl rfl ?_) rfl rfl
     refine i_mv rfl rfl rfl (i_no rfl rfl (i_no rfl rfl (i_no rfl rfl ?_)))
     refine i_op (a_pick_f rfl rfl rfl ?_) rfl rfl
     refine i_mv rfl rfl rfl (i_nil (then_n (r_ret (block_r (then_r ?_)))))
     refine end1 rfl ⟨congrArg Value.bool ?_, rfl⟩
     first | exact (decide_eq_true (by omega)).symm | exact (decide_eq_false (by omega)).symm
   ·refine i_mv rfl rfl rfl (i_nil (then_n (r_cond_f rfl (r_seq (r_items ?_)))))
    refine i_op (a_eql rfl rfl (fun h8 => ?_) (fun h8 => ?_)) rfl rfl
    ·refine i_mv rfl rfl rfl (i_nil (then_n (r_cond_t rfl (r_seq (r_items ?_)))))
     refine i_op (a_fa rfl ?_) rfl rfl
     refine i_op (a_ld rfl .here rfl ?_) rfl rfl
     refine i_op (a_eql rfl rfl (fun h9 => ?_) (fun h9 => ?_)) rfl rfl
     ·refine i_mv rfl rfl rfl (i_mv rfl rfl rfl ?_)
      refine i_op (a_pick_t rfl rfl rfl ?_) rfl rfl
      refine i_mv rfl rfl rfl (i_nil (then_n (r_ret (block_r (then_r ?_)))))
      refine end1 rfl ⟨congrArg Value.bool ?_, rfl⟩
      first | exact (decide_eq_true (by omega)).symm | exact (decide_eq_false (by omega)).symm
     ·refine i_mv rfl rfl rfl (i_no rfl rfl ?_)
      refine i_op (a_pick_f rfl rfl rfl ?_) rfl rfl
      refine i_mv rfl rfl rfl (i_nil (then_n (r_ret (block_r (then_r ?_)))))
      refine end1 rfl ⟨congrArg Value.bool ?_, rfl⟩
      first | exact (decide_eq_true (by omega)).symm | exact (decide_eq_false (by omega)).symm
    ·refine i_mv rfl rfl rfl (i_nil (then_n (r_cond_f rfl (r_seq (r_items ?_)))))
     refine i_op (a_eql rfl rfl (fun h10 => ?_) (fun h10 => ?_)) rfl rfl
     ·refine i_mv rfl rfl rfl (i_nil (then_n (r_cond_t rfl (r_seq (r_items (i_mv rfl rfl rfl (i_mv rfl rfl rfl ?_)))))))
      refine i_op (a_fa rfl ?_) rfl rfl
      refine i_op (a_ld rfl .here rfl ?_) rfl rfl
      refine i_op (a_eql rfl rfl (fun h11 => ?_) (fun h11 => ?_)) rfl rfl
      ·refine i_op (a_pick_t rfl rfl rfl ?_) rfl rfl
       refine i_mv rfl rfl rfl (i_nil (then_n (r_ret (block_r (then_r ?_)))))
       refine end1 rfl ⟨congrArg Value.bool ?_, rfl⟩
       first | exact (decide_eq_true (by omega)).symm | exact (decide_eq_false (by omega)).symm
      ·refine i_op (a_pick_t rfl rfl rfl ?_) rfl rfl
       refine i_mv rfl rfl rfl (i_nil (then_n (r_ret (block_r (then_r ?_)))))
       refine end1 rfl ⟨congrArg Value.bool ?_, rfl⟩
       first | exact (decide_eq_true (by omega)).symm | exact (decide_eq_false (by omega)).symm
     ·refine i_mv rfl rfl rfl (i_nil (then_n (r_cond_f rfl (r_seq (r_items ?_)))))
      refine i_op (a_eql rfl rfl (fun h12 => ?_) (fun h12 => ?_)) rfl rfl
      ·refine i_mv rfl rfl rfl (i_nil (then_n (r_cond_t rfl (r_seq (r_items (i_mv rfl rfl rfl (i_mv rfl rfl rfl (i_mv rfl rfl rfl ?_))))))))
       refine i_op (a_pick_t rfl rfl rfl ?_) rfl rfl
       refine i_mv rfl rfl rfl (i_nil (then_n (r_ret (block_r (then_r ?_)))))
       refine end1 rfl ⟨congrArg Value.bool ?_, rfl⟩
       first | exact (decide_eq_true (by omega)).symm | exact (decide_eq_false (by omega)).symm
      ·refine i_mv rfl rfl rfl (i_nil (then_n (r_cond_f rfl (r_skip (block_n (then_n (r_seq (r_items (i_mv rfl rfl rfl (i_nil (then_n (r_ret ?_))))))))))))
       refine end1 rfl ⟨congrArg Value.bool ?_, rfl⟩
       first | exact (decide_eq_true (by omega)).symm | exact (decide_eq_false (by omega)).symm
  ·refine i_mv rfl rfl rfl (i_nil (then_n (r_seq (r_seq (r_items ?_)))))
   refine i_op (a_fa rfl ?_) rfl rfl
   refine i_op (a_ld rfl .here rfl ?_) rfl rfl
   refine i_nil (then_n (r_block (r_seq (r_items ?_))))
   refine i_op (a_eql rfl rfl (fun h13 => ?_) (fun h13 => ?_)) rfl rfl
   ·refine i_mv rfl rfl rfl (i_nil (then_n (r_cond_t rfl (r_seq (r_items ?_)))))
    refine i_op (a_fa rfl ?_) rfl rfl
    refine i_op (a_ld rfl .here rfl ?_) rfl rfl
    refine i_op (a_eql rfl rfl (fun h14 => ?_) (fun h14 => ?_)) rfl rfl
    ·refine i_mv rfl rfl rfl (i_mv rfl rfl rfl ?_)
     refine i_op (a_pick_t rfl rfl rfl ?_) rfl rfl
     refine i_mv rfl rfl rfl ?_
     refine i_op (a_fa rfl ?_) rfl rfl
     refine i_op (a_ld rfl .here rfl ?_) rfl rfl
     refine i_op (a_gtr rfl rfl (fun h15 => ?_) (fun h15 => ?_)) rfl rfl
     ·refine i_op (a_pick_t rfl rfl rfl ?_) rfl rfl
      refine i_mv rfl rfl rfl (i_nil (then_n (r_ret (block_r (then_r ?_)))))
      refine end1 rfl ⟨congrArg Value.bool ?_, rfl⟩
      first | exact (decide_eq_true (by omega)).symm | exact (decide_eq_false (by omega)).symm
     ·refine i_op (a_pick_t rfl rfl rfl ?_) rfl rfl
      refine i_mv rfl rfl rfl (i_nil (then_n (r_ret (block_r (then_r ?_)))))
      refine end1 rfl ⟨congrArg Value.bool ?_, rfl⟩
      first | exact (decide_eq_true (by omega)).symm | exact (decide_eq_false (by omega)).symm
    ·refine i_mv rfl rfl rfl (i_no rfl rfl ?_)
     refine i_op (a_pick_f rfl rfl rfl ?_) rfl rfl
     refine i_mv rfl rfl rfl (i_no rfl rfl (i_no rfl rfl (i_no rfl rfl ?_)))
     refine i_op (a_pick_f rfl rfl rfl ?_) rfl rfl
     refine i_mv rfl rfl rfl (i_nil (then_n (r_ret (block_r (then_r ?_)))))
     refine end1 rfl ⟨congrArg Value.bool ?_, rfl⟩
     first | exact (decide_eq_true (by omega)).symm | exact (decide_eq_false (by omega)).symm
   ·refine i_mv rfl rfl rfl (i_nil (then_n (r_cond_f rfl (r_seq (r_items ?_)))))
    refine i_op (a_eql rfl rfl (fun h16 => ?_) (fun h16 => ?_)) rfl rfl
    ·refine i_mv rfl rfl rfl (i_nil (then_n (r_cond_t rfl (r_seq (r_items ?_)))))
     refine i_op (a_fa rfl ?_) rfl rfl
     refine i_op (a_ld rfl .here rfl ?_) rfl rfl
     refine i_op (a_eql rfl rfl (fun h17 => ?_) (fun h17 => ?_)) rfl rfl
     ·refine i_mv rfl rfl rfl (i_mv rfl rfl rfl ?_)
      refine i_op (a_pick_t rfl rfl rfl ?_) rfl rfl
      refine i_mv rfl rfl rfl (i_nil (then_n (r_ret (block_r (then_r ?_)))))
      refine end1 rfl ⟨congrArg Value.bool ?_, rfl⟩
      first | exact (decide_eq_true (by omega)).symm | exact (decide_eq_false (by omega)).symm
     ·refine i_mv rfl rfl rfl (i_no rfl rfl ?_)
      refine i_op (a_pick_f rfl rfl rfl ?_) rfl rfl
      refine i_mv rfl rfl rfl (i_nil (then_n (r_ret (block_r (then_r ?_)))))
      refine end1 rfl ⟨congrArg Value.bool ?_, rfl⟩
      first | exact (decide_eq_true (by omega)).symm | exact (decide_eq_false (by omega)).symm
    ·refine i_mv rfl rfl rfl (i_nil (then_n (r_cond_f rfl (r_seq (r_items ?_)))))
     refine i_op (a_eql rfl rfl (fun h18 => ?_) (fun h18 => ?_)) rfl rfl
     ·refine i_mv rfl rfl rfl (i_nil (then_n (r_cond_t rfl (r_seq (r_items (i_mv rfl rfl rfl (i_mv rfl rfl rfl (i_no rfl rfl (i_no rfl rfl (i_no rfl rfl ?_))))))))))
      refine i_op (a_pick_f rfl rfl rfl ?_) rfl rfl
      refine i_mv rfl rfl rfl (i_nil (then_n (r_ret (block_r (then_r ?_)))))
      refine end1 rfl ⟨congrArg Value.bool ?_, rfl⟩
      first | exact (decide_eq_true (by omega)).symm | exact (decide_eq_false (by omega)).symm
     ·refine i_mv rfl rfl rfl (i_nil (then_n (r_cond_f rfl (r_seq (r_items ?_)))))
      refine i_op (a_eql rfl rfl (fun h19 => ?_) (fun h19 => ?_)) rfl rfl
      ·refine i_mv rfl rfl rfl (i_nil (then_n (r_cond_t rfl (r_seq (r_items (i_mv rfl rfl rfl (i_mv rfl rfl rfl (i_no rfl rfl ?_))))))))
       refine i_op (a_pick_f rfl rfl rfl ?_) rfl rfl
       refine i_mv rfl rfl rfl (i_nil (then_n (r_ret (block_r (then_r ?_)))))
       refine end1 rfl ⟨congrArg Value.bool ?_, rfl⟩
       first | exact (decide_eq_true (by omega)).symm | exact (decide_eq_false (by omega)).symm
      ·refine i_mv rfl rfl rfl (i_nil (then_n (r_cond_f rfl (r_skip (block_n (then_n (r_seq (r_items (i_mv rfl rfl rfl (i_nil (then_n (r_ret ?_))))))))))))
       refine end1 rfl ⟨congrArg Value.bool ?_, rfl⟩
       first | exact (decide_eq_true (by omega)).symm | exact (decide_eq_false (by omega)).symm
 ·refine i_mv rfl rfl rfl (i_nil (then_n (r_seq (r_items ?_))))
  refine i_op (a_fa rfl ?_) rfl rfl
  refine i_op (a_ld rfl .here rfl ?_) rfl rfl
  refine i_op (a_fa rfl ?_) rfl rfl
  refine i_op (a_ld rfl (.next .here) rfl ?_) rfl rfl
  refine i_op (a_lenx rfl hl1.spot ?_) rfl rfl
  refine i_op (a_sub rfl rfl (by omega) ?_) rfl rfl
  refine i_op (a_callB rfl rfl (fun s1 h1 => In_s _ _ _ _ s1 h1.wf) (fun h20 => ?_) (fun h20 => ?_)) rfl rfl
  ·refine i_mv rfl rfl rfl (i_nil (then_n (r_seq (r_seq (r_items ?_)))))
   refine i_op (a_fa rfl ?_) rfl rfl
   refine i_op (a_ld rfl .here rfl ?_) rfl rfl
   refine i_nil (then_n (r_block (r_seq (r_items ?_))))
   refine i_op (a_eql rfl rfl (fun h21 => ?_) (fun h21 => ?_)) rfl rfl
   ·refine i_mv rfl rfl rfl (i_nil (then_n (r_cond_t rfl (r_seq (r_items ?_)))))
    refine i_op (a_fa rfl ?_) rfl rfl
    refine i_op (a_ld rfl .here rfl ?_) rfl rfl
    refine i_op (a_eql rfl rfl (fun h22 => ?_) (fun h22 => ?_)) rfl rfl
    ·refine i_mv rfl rfl rfl (i_mv rfl rfl rfl ?_)
     refine i_op (a_pick_t rfl rfl rfl ?_) rfl rfl
     refine i_mv rfl rfl rfl (i_no rfl rfl (i_no rfl rfl (i_no rfl rfl ?_)))
     refine i_op (a_pick_f rfl rfl rfl ?_) rfl rfl
     refine i_mv rfl rfl rfl (i_nil (then_n (r_ret (block_r (then_r ?_)))))
     refine end1 rfl ⟨congrArg Value.bool ?_, rfl⟩
     first | exact (decide_eq_true (by omega)).symm | exact (decide_eq_false (by omega)).symm
    ·refine i_mv rfl rfl rfl (i_no rfl rfl ?_)
     refine i_op (a_pick_f rfl rfl rfl ?_) rfl rfl
     refine i_mv rfl rfl rfl (i_no rfl rfl (i_no rfl rfl (i_no rfl rfl ?_)))
     refine i_op (a_pick_f rfl rfl rfl ?_) rfl rfl
     refine i_mv rfl rfl rfl (i_nil (then_n (r_ret (block_r (then_r ?_)))))
     refine end1 rfl ⟨congrArg Value.bool ?_, rfl⟩
     first | exact (decide_eq_true (by omega)).symm | exact (decide_eq_false (by omega)).symm
   ·refine i_mv rfl rfl rfl (i_nil (then_n (r_cond_f rfl (r_seq (r_items ?_)))))
    refine i_op (a_eql rfl rfl (fun h23 => ?_) (fun h23 => ?_)) rfl rfl
    ·refine i_mv rfl rfl rfl (i_nil (then_n (r_cond_t rfl (r_seq (r_items ?_)))))
     refine i_op (a_fa rfl ?_) rfl rfl
     refine i_op (a_ld rfl .here rfl ?_) rfl rfl
     refine i_op (a_eql rfl rfl (fun h24 => ?_) (fun h24 => ?_)) rfl rfl
     ·refine i_mv rfl rfl rfl (i_mv rfl rfl rfl ?_)
      refine i_op (a_pick_t rfl rfl rfl ?_) rfl rfl
      refine i_mv rfl rfl rfl (i_nil (then_n (r_ret (block_r (then_r ?_)))))
      refine end1 rfl ⟨congrArg Value.bool ?_, rfl⟩
      first | exact (decide_eq_true (by omega)).symm | exact (decide_eq_false (by omega)).symm
     ·refine i_mv rfl rfl rfl (i_no rfl rfl ?_)
      refine i_op (a_pick_f rfl rfl rfl ?_) rfl rfl
      refine i_mv rfl rfl rfl (i_nil (then_n (r_ret (block_r (then_r ?_)))))
      refine end1 rfl ⟨congrArg Value.bool ?_, rfl⟩
      first | exact (decide_eq_true (by omega)).symm | exact (decide_eq_false (by omega)).symm
    ·refine i_mv rfl rfl rfl (i_nil (then_n (r_cond_f rfl (r_seq (r_items ?_)))))
     refine i_op (a_eql rfl rfl (fun h25 => ?_) (fun h25 => ?_)) rfl rfl
     ·refine i_mv rfl rfl rfl (i_nil (then_n (r_cond_t rfl (r_seq (r_items (i_mv rfl rfl rfl (i_mv rfl rfl rfl ?_)))))))
      refine i_op (a_fa rfl ?_) rfl rfl
      refine i_op (a_ld rfl .here rfl ?_) rfl rfl
      refine i_op (a_eql rfl rfl (fun h26 => ?_) (fun h26 => ?_)) rfl rfl
      ·refine i_op (a_pick_t rfl rfl rfl ?_) rfl rfl
       refine i_mv rfl rfl rfl (i_nil (then_n (r_ret (block_r (then_r ?_)))))
       refine end1 rfl ⟨congrArg Value.bool ?_, rfl⟩
       first | exact (decide_eq_true (by omega)).symm | exact (decide_eq_false (by omega)).symm
      ·refine i_op (a_pick_t rfl rfl rfl ?_) rfl rfl
       refine i_mv rfl rfl rfl (i_nil (then_n (r_ret (block_r (then_r ?_)))))
       refine end1 rfl ⟨congrArg Value.bool ?_, rfl⟩
       first | exact (decide_eq_true (by omega)).symm | exact (decide_eq_false (by omega)).symm
     ·refine i_mv rfl rfl rfl (i_nil (then_n (r_cond_f rfl (r_seq (r_items ?_)))))
      refine i_op (a_eql rfl rfl (fun h27 => ?_) (fun h27 => ?_)) rfl rfl
      ·refine i_mv rfl rfl rfl (i_nil (then_n (r_cond_t rfl (r_seq (r_items (i_mv rfl rfl rfl (i_mv rfl rfl rfl (i_mv rfl rfl rfl ?_))))))))
       refine i_op (a_pick_t rfl rfl rfl ?_) rfl rfl
       refine i_mv rfl rfl rfl (i_nil (then_n (r_ret (block_r (then_r ?_)))))
       refine end1 rfl ⟨congrArg Value.bool ?_, rfl⟩
       first | exact (decide_eq_true (by omega)).symm | exact (decide_eq_false (by omega)).symm
      ·refine i_mv rfl rfl rfl (i_nil (then_n (r_cond_f rfl (r_skip (block_n (then_n (r_seq (r_items (i_mv rfl rfl rfl (i_nil (then_n (r_ret ?_))))))))))))
       refine end1 rfl ⟨congrArg Value.bool ?_, rfl⟩
       first | exact (decide_eq_true (by omega)).symm | exact (decide_eq_false (by omega)).symm
  ·refine i_mv rfl rfl rfl (i_nil (then_n (r_seq (r_seq (r_items ?_)))))
   refine i_op (a_fa rfl ?_) rfl rfl
   refine i_op (a_ld rfl .here rfl ?_) rfl rfl
   refine i_nil (then_n (r_block (r_seq (r_items ?_))))
   refine i_op (a_eql rfl rfl (fun h28 => ?_) (fun h28 => ?_)) rfl rfl
   ·refine i_mv rfl rfl rfl (i_nil (then_n (r_cond_t rfl (r_seq (r_items ?_)))))
    refine i_op (a_fa rfl ?_) rfl rfl
    refine i_op (a_ld rfl .here rfl ?_) rfl rfl
    refine i_op (a_eql rfl rfl (fun h29 => ?_) (fun h29 => ?_)) rfl rfl
    ·refine i_mv rfl rfl rfl (i_mv rfl rfl rfl ?_)
     refine i_op (a_pick_t rfl rfl rfl ?_) rfl rfl
     refine i_mv rfl rfl rfl (i_no rfl rfl (i_no rfl rfl (i_no rfl rfl ?_)))
     refine i_op (a_pick_f rfl rfl rfl ?_) rfl rfl
     refine i_mv rfl rfl rfl (i_nil (then_n (r_ret (block_r (then_r ?_)))))
     refine end1 rfl ⟨congrArg Value.bool ?_, rfl⟩
     first | exact (decide_eq_true (by omega)).symm | exact (decide_eq_false (by omega)).symm
    ·refine i_mv rfl rfl rfl (i_no rfl rfl ?_)
     refine i_op (a_pick_f rfl rfl rfl ?_) rfl rfl
     refine i_mv rfl rfl rfl (i_no rfl rfl (i_no rfl rfl (i_no rfl rfl ?_)))
     refine i_op (a_pick_f rfl rfl rfl ?_) rfl rfl
     refine i_mv rfl rfl rfl (i_nil (then_n (r_ret (block_r (then_r ?_)))))
     refine end1 rfl ⟨congrArg Value.bool ?_, rfl⟩
     first | exact (decide_eq_true (by omega)).symm | exact (decide_eq_false (by omega)).symm
   ·refine i_mv rfl rfl rfl (i_nil (then_n (r_cond_f rfl (r_seq (r_items ?_)))))
    refine i_op (a_eql rfl rfl (fun h30 => ?_) (fun h30 => ?_)) rfl rfl
    ·refine i_mv rfl rfl rfl (i_nil (then_n (r_cond_t rfl (r_seq (r_items ?_)))))
     refine i_op (a_fa rfl ?_) rfl rfl
     refine i_op (a_ld rfl .here rfl ?_) rfl rfl
     refine i_op (a_eql rfl rfl (fun h31 => ?_) (fun h31 => ?_)) rfl rfl
     ·refine i_mv rfl rfl rfl (i_mv rfl rfl rfl ?_)
      refine i_op (a_pick_t rfl rfl rfl ?_) rfl rfl
      refine i_mv rfl rfl rfl (i_nil (then_n (r_ret (block_r (then_r ?_)))))
      refine end1 rfl ⟨congrArg Value.bool ?_, rfl⟩
      first | exact (decide_eq_true (by omega)).symm | exact (decide_eq_false (by omega)).symm
     ·refine i_mv rfl rfl rfl (i_no rfl rfl ?_)
      refine i_op (a_pick_f rfl rfl rfl ?_) rfl rfl
      refine i_mv rfl rfl rfl (i_nil (then_n (r_ret (block_r (then_r ?_)))))
      refine end1 rfl ⟨congrArg Value.bool ?_, rfl⟩
      first | exact (decide_eq_true (by omega)).symm | exact (decide_eq_false (by omega)).symm
    ·refine i_mv rfl rfl rfl (i_nil (then_n (r_cond_f rfl (r_seq (r_items ?_)))))
     refine i_op (a_eql rfl rfl (fun h32 => ?_) (fun h32 => ?_)) rfl rfl
     ·refine i_mv rfl rfl rfl (i_nil (then_n (r_cond_t rfl (r_seq (r_items (i_mv rfl rfl rfl (i_mv rfl rfl rfl (i_no rfl rfl (i_no rfl rfl (i_no rfl rfl ?_))))))))))
      refine i_op (a_pick_f rfl rfl rfl ?_) rfl rfl
      refine i_mv rfl rfl rfl (i_nil (then_n (r_ret (block_r (then_r ?_)))))
      refine end1 rfl ⟨congrArg Value.bool ?_, rfl⟩
      first | exact (decide_eq_true (by omega)).symm | exact (decide_eq_false (by omega)).symm
     ·refine i_mv rfl rfl rfl (i_nil (then_n (r_cond_f rfl (r_seq (r_items ?_)))))
      refine i_op (a_eql rfl rfl (fun h33 => ?_) (fun h33 => ?_)) rfl rfl
      ·refine i_mv rfl rfl rfl (i_nil (then_n (r_cond_t rfl (r_seq (r_items (i_mv rfl rfl rfl (i_mv rfl rfl rfl (i_no rfl rfl ?_))))))))
       refine i_op (a_pick_f rfl rfl rfl ?_) rfl rfl
       refine i_mv rfl rfl rfl (i_nil (then_n (r_ret (block_r (then_r ?_)))))
       refine end1 rfl ⟨congrArg Value.bool ?_, rfl⟩
       first | exact (decide_eq_true (by omega)).symm | exact (decide_eq_false (by omega)).symm
      ·refine i_mv rfl rfl rfl (i_nil (then_n (r_cond_f rfl (r_skip (block_n (then_n (r_seq (r_items (i_mv rfl rfl rfl (i_nil (then_n (r_ret ?_))))))))))))
       refine end1 rfl ⟨congrArg Value.bool ?_, rfl⟩
       first | exact (decide_eq_true (by omega)).symm | exact (decide_eq_false (by omega)).symm
theorem offsets_s (n : Nat) (d r al up : Int) (a1 a2 : Option Addr) (c1 c2 : Nat) (l1 l2 : List Int) (s : St) (hs : Wf s) (hn : 281474976710656 ≤ n) (hl1 : IntsE s a1 l1) (hl2 : IntsE s a2 l2) (hm : l1.length ≤ 9 ∧ l2.length ≤ 9) : Spec Tryz.prog (tabK tabw) X (n + 40) 51 [.agg ⟨[.int .i64 d, .int .i64 r, .slice a1 l1.length c1, .slice a2 l2.length c2, .int .i64 al, .int .i64 up]⟩] s (fun v A => v = .int .i64 ((l1.length : Int) * (l2.length : Int)) ∧ A = []) := by
 refine enter bw51_at rfl hs ?_
 unfold bw51
 have hlen1 := hl1.len
 have hlen2 := hl2.len
 have hq := mul_sm (x := (l1.length : Int)) (y := (l2.length : Int)) (by omega) (by omega)
 refine r_seq (r_items ?_)
 refine i_op (a_box rfl rfl rfl (fun b1 => ?_)) rfl rfl
 refine i_mv rfl rfl rfl (i_nil (then_n (r_seq (r_items ?_))))
 refine i_op (a_fa rfl ?_) rfl rfl
 refine i_op (a_ld rfl .here rfl ?_) rfl rfl
 refine i_op (a_lenx rfl hl1.spot ?_) rfl rfl
 refine i_op (a_fa rfl ?_) rfl rfl
 refine i_op (a_ld rfl .here rfl ?_) rfl rfl
 refine i_op (a_lenx rfl hl2.spot ?_) rfl rfl
 refine i_op (a_mul rfl rfl (by omega) ?_) rfl rfl
 refine i_mv rfl rfl rfl (i_nil (then_n (r_ret ?_)))
 exact end1 rfl ⟨rfl, rfl⟩
theorem number_s (n : Nat) (d r al up : Int) (a1 a2 : Option Addr) (c1 c2 : Nat) (l1 l2 : List Int) (x y : Int) (s : St) (hs : Wf s) (hn : 0 ≤ n) (hl1 : IntsE s a1 l1) (hl2 : IntsE s a2 l2) (hm : l2.length ≤ 9) (hx : 0 ≤ x ∧ x ≤ 9) (hy : 0 ≤ y ∧ y ≤ 9) : Spec Tryz.prog (tabK tabw) X (n + 40) 44 [.agg ⟨[.int .i64 d, .int .i64 r, .slice a1 l1.length c1, .slice a2 l2.length c2, .int .i64 al, .int .i64 up]⟩, .int .i64 x, .int .i64 y] s (fun v A => v = .int .i64 (1 + x * (l2.length : Int) + y) ∧ A = []) := by
 refine enter bw44_at rfl hs ?_
 unfold bw44
 have hlen1 := hl1.len
 have hlen2 := hl2.len
 have hq := mul_sm (x := x) (y := (l2.length : Int)) (by omega) (by omega)
 refine r_seq (r_items ?_)
 refine i_op (a_box rfl rfl rfl (fun b1 => ?_)) rfl rfl
 refine i_mv rfl rfl rfl (i_nil (then_n (r_seq (r_items (i_mv rfl rfl rfl ?_)))))
 refine i_op (a_fa rfl ?_) rfl rfl
 refine i_op (a_ld rfl .here rfl ?_) rfl rfl
 refine i_op (a_lenx rfl hl2.spot ?_) rfl rfl
 refine i_op (a_mul rfl rfl (by omega) ?_) rfl rfl
 refine i_op (a_add rfl rfl (by omega) ?_) rfl rfl
 refine i_mv rfl rfl rfl ?_
 refine i_op (a_add rfl rfl (by omega) ?_) rfl rfl
 refine i_mv rfl rfl rfl (i_nil (then_n (r_ret ?_)))
 exact end1 rfl ⟨rfl, rfl⟩
end
end Ev
end Go.Proofs.YtfhfjcfhanmbiaaGreat
