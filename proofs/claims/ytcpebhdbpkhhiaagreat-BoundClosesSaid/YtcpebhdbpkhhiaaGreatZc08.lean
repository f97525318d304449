import Derived.Test.YtcpebhdbpkhhiaaGreatZc07
set_option linter.unusedVariables false
set_option linter.unusedSimpArgs false
/- Contracts: points that are checked. -/
namespace Go.Proofs.YtcpebhdbpkhhiaaGreat
open Go Go.RowKit
namespace Ev

section
variable {X : FuncId → List Value → St → (Value → St → Bool) → Bool}
theorem allInside_s (n : Nat) (ax : Option Addr) (cx : Nat) (x : List Int) (most : Int) (s : St) (hs : Wf s) (hn : 281474976710656 ≤ n) (hX : IntsE s ax x) (hmo : 0 ≤ most ∧ most ≤ 1000000000000) : Spec Tryz.prog (tabK tabw) X (n + 300) 29 [.slice ax x.length cx, .int .i64 most] s (fun v A => v = .bool (inB (-most) most x) ∧ A = []) := by
 refine enter bw29_at rfl hs ?_
 unfold bw29
 have hlen := hX.len
 refine rS (kM rfl rfl (i_nil (rQ (rS (kM rfl rfl (kO rfl (a_lenx rfl hX.spot (kM rfl rfl (i_nil (r_block (r_loop (fun j e A => ∃ (k : Nat), e = [(1, .int .i64 most), (7, .slice ax x.length cx), (8, .int .i64 (x.length : Int)), (9, .int .i64 (k : Int))] ∧ A = [] ∧ j = x.length - k ∧ k ≤ x.length ∧ inB (-most) most x = inB (-most) most (x.drop k)) 150 0 281474976710656 ?_ (j := _) (env2 := _) (A2 := _) ?_ ?_ ?_ ?_ ⟨0, rfl, rfl, rfl, Nat.zero_le _, rfl⟩)))))))))))
 rotate_left
 ·omega
 ·omega
 ·exact (lc 1 rfl (lc 7 rfl (lc 8 rfl (lc 9 rfl Less.nil))))
 ·exact .slnil
 rintro n hn j _ _ ⟨k, rfl, rfl, rfl, hk, hi2⟩
 refine rS (kO rfl (a_lss rfl rfl (fun h1 => ?_) (fun h1 => ?_)))
 ·refine i_nil (rQ (r_cond_t rfl (r_skip (then_n (rQ (r_block (rS (kO rfl (a_iaI (j := k) hX rfl rfl (by omega) (by first | rfl | omega) (by omega) (fun _ _ a2 => (kO rfl (a_ldr rfl (hX.at a2 (by omega)) (kM rfl rfl (i_nil (rS (kM rfl rfl (kM rfl rfl (kO rfl (a_neg rfl (by omega) (kM rfl rfl (kO rfl (a_callB rfl rfl (fun s1 h1 => inside_s _ _ _ _ s1 h1.wf) (fun h3 => ?_) (fun h3 => ?_)))))))))))))))))))))))
  ·refine kO rfl (a_not rfl (i_nil (r_cond_f rfl (r_skip (block_n (then_n (rI (kO rfl (a_add rfl rfl (by omega) (kM rfl rfl (i_nil (then_n ?_))))))))))))
   exact ⟨rfl, _, _, _, (show x.length - (k + 1) < x.length - k by omega), (lc 1 rfl (lc 7 rfl (lc 8 rfl (lc 9 rfl Less.nil)))), .slnil, ⟨k + 1, rfl, rfl, rfl, by omega, in_good (by omega) hi2 (by omega)⟩⟩
  ·refine kO rfl (a_not rfl (i_nil (r_cond_t rfl (rS (kM rfl rfl (i_nil (r_ret (block_r (then_r (then_r (block_r (then_r (end1 rfl ⟨congrArg Value.bool ?_, rfl⟩)))))))))))))
   first
    | exact (in_bad (by omega) hi2 (by omega)).symm
    | exact (in_end hi2 (by omega)).symm
 ·refine i_nil (rQ (r_cond_f rfl (r_exit (then_e (then_e (block_hit (then_n (rS (kM rfl rfl (i_nil (r_ret (end1 rfl ⟨congrArg Value.bool ?_, rfl⟩))))))))))))
  first
   | exact (in_bad (by omega) hi2 (by omega)).symm
   | exact (in_end hi2 (by omega)).symm

theorem CheckPoint_s (n : Nat) (m : Int) (al : Option Addr) (cl : Nat) (ls : List (List Int)) (ax : Option Addr) (cx : Nat) (x : List Int) (s : St) (hs : Wf s) (hn : 844424930131968 ≤ n) (hL : RowsE s 4 al ls) (hX : IntsE s ax x) : Spec Tryz.prog (tabK tabw) X (n + 1200) 15 [.agg ⟨[.int .i64 m, .slice al ls.length cl]⟩, .slice ax x.length cx] s (fun v A => v = .int .i64 (if sysE m ls = 0 then (if ptB m ls x = true then 0 else 25) else sysE m ls) ∧ A = []) := by
 refine enter bw15_at rfl hs ?_
 unfold bw15
 have hlen := hL.len
 have hlenX := hX.len
 refine rS (kO rfl (a_box rfl rfl rfl (fun b1 => (kM rfl rfl (i_nil (rQ (rS (kO rfl (a_lda rfl (by decide) .here rfl (kO rfl (a_callV rfl rfl (fun s1 h1 => Check_s _ _ _ _ _ s1 h1.wf (by omega) (hL.ext hs h1.2.1)) (kM rfl rfl (i_nil (rS (kM rfl rfl (kO rfl (a_neq rfl rfl (fun h2 => ?_) (fun h2 => ?_))))))))))))))))))
 ·refine i_nil (r_cond_t rfl (rS (kM rfl rfl (kM rfl rfl (i_nil (r_ret (then_r (end1 rfl ⟨congrArg (Value.int .i64) ?_, rfl⟩))))))))
  first
   | (rw [if_neg (by omega)]; done)
   | (rw [if_pos hsys, pt_no1 (by omega)]; rfl)
   | (rw [if_pos hsys, pt_no2 hin]; rfl)
   | (rw [if_pos hsys, pt_no3 (kp_bad hx hkp (by omega))]; rfl)
   | (rw [if_pos hsys, pt_yes (by omega) hin (kp_end hkp (by omega))]; rfl)
 ·have hsys : sysE m ls = 0 := by omega
  obtain ⟨hm0, hM, h400, hlm⟩ := sysE_ok hsys
  refine i_nil (r_cond_f rfl (r_skip (then_n (rQ (rS (kM rfl rfl (kO rfl (a_lenx rfl hX.spot (kO rfl (a_fa rfl (kO rfl (a_ld rfl .here rfl (kO rfl (a_add rfl rfl (by omega) (kO rfl (a_neq rfl rfl (fun h3 => ?_) (fun h3 => ?_)))))))))))))))))
  ·refine kM rfl rfl (i_no rfl rfl (i_no rfl rfl (i_no rfl rfl (i_no rfl rfl (kO rfl (a_pick_t rfl rfl rfl (kM rfl rfl (i_no rfl rfl (i_no rfl rfl (i_no rfl rfl (kO rfl (a_pick_t rfl rfl rfl (i_nil (r_cond_t rfl (rS (kM rfl rfl (i_nil (r_ret (then_r (end1 rfl ⟨congrArg (Value.int .i64) ?_, rfl⟩))))))))))))))))))))
   first
    | (rw [if_neg (by omega)]; done)
    | (rw [if_pos hsys, pt_no1 (by omega)]; rfl)
    | (rw [if_pos hsys, pt_no2 hin]; rfl)
    | (rw [if_pos hsys, pt_no3 (kp_bad hx hkp (by omega))]; rfl)
    | (rw [if_pos hsys, pt_yes (by omega) hin (kp_end hkp (by omega))]; rfl)
  ·refine kM rfl rfl (kG rfl rfl (a_mov rfl (kG rfl rfl (a_iaI (j := 0) hX rfl rfl (by omega) (by first | rfl | omega) (by omega) (fun _ _ a4 => (kG rfl rfl (a_ldr rfl (hX.at a4 (by omega)) (kG rfl rfl (a_neq rfl rfl (fun h5 => ?_) (fun h5 => ?_))))))))))
   ·refine kO rfl (a_pick_f rfl rfl rfl (kM rfl rfl (i_no rfl rfl (i_no rfl rfl (i_no rfl rfl (kO rfl (a_pick_t rfl rfl rfl (i_nil (r_cond_t rfl (rS (kM rfl rfl (i_nil (r_ret (then_r (end1 rfl ⟨congrArg (Value.int .i64) ?_, rfl⟩)))))))))))))))
    first
     | (rw [if_neg (by omega)]; done)
     | (rw [if_pos hsys, pt_no1 (by omega)]; rfl)
     | (rw [if_pos hsys, pt_no2 hin]; rfl)
     | (rw [if_pos hsys, pt_no3 (kp_bad hx hkp (by omega))]; rfl)
     | (rw [if_pos hsys, pt_yes (by omega) hin (kp_end hkp (by omega))]; rfl)
   ·refine kO rfl (a_pick_f rfl rfl rfl (kM rfl rfl (kG rfl rfl (a_mov rfl (kG rfl rfl (a_callb rfl rfl (fun s1 h1 => allInside_s _ _ _ _ _ s1 h1.wf (by omega) (hX.ext hs h1.2.1) (by omega)) (fun h6 => ?_) (fun h6 => ?_)))))))
    ·have hin := h6
     refine kG rfl rfl (a_not rfl (kO rfl (a_pick_f rfl rfl rfl (i_nil (r_cond_f rfl (r_skip (then_n (rQ (rS (kO rfl (a_fa rfl (kO rfl (a_ld rfl .here rfl (kO rfl (a_lenx rfl (by first | exact hL.spot | exact hX.spot) (kM rfl rfl (i_nil (r_block (r_loop (fun j e A => ∃ (k : Nat), e = [(1, .slice ax x.length cx), (31, .slice al ls.length cl), (32, .int .i64 (ls.length : Int)), (33, .int .i64 (k : Int))] ∧ A = (.row b1 24 false ([.int .i64 m, .slice al ls.length cl]) :: []) ∧ j = ls.length - k ∧ k ≤ ls.length ∧ kpB x ls = kpB x (ls.drop k)) 300 0 281474976710656 ?_ (j := _) (env2 := _) (A2 := _) ?_ ?_ ?_ ?_ ⟨0, rfl, rfl, rfl, Nat.zero_le _, rfl⟩)))))))))))))))))))
     rotate_left
     ·omega
     ·omega
     ·exact (lc 1 rfl (lc 31 rfl (lc 32 rfl (lc 33 rfl Less.nil))))
     ·exact (.cons_cons _ .slnil)
     rintro n hn j _ _ ⟨k, rfl, rfl, rfl, hk, hkp⟩
     refine rS (kO rfl (a_lss rfl rfl (fun h7 => ?_) (fun h7 => ?_)))
     ·obtain ⟨q4, o4, y0, y1, y2, y3, ahL, hx, hat, i0, i1, i2, i3⟩ := hL.row4 (k := k) (by omega)
      have hat2 := hat
      obtain ⟨d0, d1, d2, d3, _⟩ := hat2
      have := i0.lo; have := i0.hi
      have := i1.lo; have := i1.hi
      have := i2.lo; have := i2.hi
      have := i3.lo; have := i3.hi
      have hc4 := lmB_at hlm hx
      obtain ⟨u0, rfl⟩ : ∃ q : Nat, y0 = (q : Int) := ⟨y0.toNat, by omega⟩
      obtain ⟨u1, rfl⟩ : ∃ q : Nat, y1 = (q : Int) := ⟨y1.toNat, by omega⟩
      have hb0 := in_all hin (k := u0) (by omega)
      have hb1 := in_all hin (k := u1) (by omega)
      refine i_nil (rQ (r_cond_t rfl (r_skip (then_n (rQ (r_block (rS (kO rfl (a_iaA (j := k) ahL rfl rfl (by first | rfl | omega) (by first | decide | omega) (kO rfl (a_ldar rfl (by decide) (by assumption) rfl (kO rfl (a_new rfl rfl (fun b8 => (kZ rfl (a_sta rfl rfl .here rfl rfl rfl rfl (i_nil (rS (kM rfl rfl (kO rfl (a_fa rfl (kO rfl (a_ld rfl .here rfl (kO rfl (a_iaI (j := u1) hX rfl rfl (by omega) (by first | rfl | omega) (by omega) (fun _ _ a9 => (kO rfl (a_ldr rfl (hX.at a9 (by omega)) (kM rfl rfl (kO rfl (a_fa rfl (kO rfl (a_ld rfl .here rfl (kO rfl (a_iaI (j := u0) hX rfl rfl (by omega) (by first | rfl | omega) (by omega) (fun _ _ a10 => (kO rfl (a_ldr rfl (hX.at a10 (by omega)) ?_))))))))))))))))))))))))))))))))))))))
      refine kO rfl (a_sub rfl rfl (by omega) (kO rfl (a_fa rfl (kO rfl (a_ld rfl .here rfl (kO rfl (a_gtr rfl rfl (fun h11 => ?_) (fun h11 => ?_))))))))
      ·refine i_nil (r_cond_t rfl (rS (kM rfl rfl (i_nil (r_ret (block_r (then_r (then_r (block_r (then_r (end1 rfl ⟨congrArg (Value.int .i64) ?_, rfl⟩)))))))))))
       first
        | (rw [if_neg (by omega)]; done)
        | (rw [if_pos hsys, pt_no1 (by omega)]; rfl)
        | (rw [if_pos hsys, pt_no2 hin]; rfl)
        | (rw [if_pos hsys, pt_no3 (kp_bad hx hkp (by omega))]; rfl)
        | (rw [if_pos hsys, pt_yes (by omega) hin (kp_end hkp (by omega))]; rfl)
      ·refine i_nil (r_cond_f rfl (r_skip (block_n (then_n (rI (kO rfl (a_add rfl rfl (by omega) (kM rfl rfl (i_nil (then_n ?_))))))))))
       exact ⟨rfl, _, _, _, (show ls.length - (k + 1) < ls.length - k by omega), (lc 1 rfl (lc 31 rfl (lc 32 rfl (lc 33 rfl Less.nil)))), (.cons _ (.cons_cons _ .slnil)), ⟨k + 1, rfl, rfl, rfl, by omega, kp_good hx hkp (by omega)⟩⟩
     ·refine i_nil (rQ (r_cond_f rfl (r_exit (then_e (then_e (block_hit (then_n (rS (kM rfl rfl (i_nil (r_ret (end1 rfl ⟨congrArg (Value.int .i64) ?_, rfl⟩))))))))))))
      first
       | (rw [if_neg (by omega)]; done)
       | (rw [if_pos hsys, pt_no1 (by omega)]; rfl)
       | (rw [if_pos hsys, pt_no2 hin]; rfl)
       | (rw [if_pos hsys, pt_no3 (kp_bad hx hkp (by omega))]; rfl)
       | (rw [if_pos hsys, pt_yes (by omega) hin (kp_end hkp (by omega))]; rfl)
    ·have hin := h6
     refine kG rfl rfl (a_not rfl (kO rfl (a_pick_f rfl rfl rfl (i_nil (r_cond_t rfl (rS (kM rfl rfl (i_nil (r_ret (then_r (end1 rfl ⟨congrArg (Value.int .i64) ?_, rfl⟩)))))))))))
     first
      | (rw [if_neg (by omega)]; done)
      | (rw [if_pos hsys, pt_no1 (by omega)]; rfl)
      | (rw [if_pos hsys, pt_no2 hin]; rfl)
      | (rw [if_pos hsys, pt_no3 (kp_bad hx hkp (by omega))]; rfl)
      | (rw [if_pos hsys, pt_yes (by omega) hin (kp_end hkp (by omega))]; rfl)

theorem keeps_s (n : Nat) (m : Int) (al : Option Addr) (cl : Nat) (ls : List (List Int)) (ax : Option Addr) (cx : Nat) (x : List Int) (s : St) (hs : Wf s) (hn : 844424930131968 ≤ n) (hL : RowsE s 4 al ls) (hX : IntsE s ax x) (hsys : sysE m ls = 0) : Spec Tryz.prog (tabK tabw) X (n + 900) 34 [.agg ⟨[.int .i64 m, .slice al ls.length cl]⟩, .slice ax x.length cx] s (fun v A => v = .bool (ptB m ls x) ∧ A = []) := by
 refine enter bw34_at rfl hs ?_
 unfold bw34
 have hlen := hL.len
 have hlenX := hX.len
 obtain ⟨hm0, hM, h400, hlm⟩ := sysE_ok hsys
 refine rS (kO rfl (a_box rfl rfl rfl (fun b1 => (kM rfl rfl (i_nil (rQ (rS (kM rfl rfl (kO rfl (a_lenx rfl hX.spot (kO rfl (a_fa rfl (kO rfl (a_ld rfl .here rfl (kO rfl (a_add rfl rfl (by omega) (kO rfl (a_neq rfl rfl (fun h2 => ?_) (fun h2 => ?_)))))))))))))))))))
 ·refine kM rfl rfl (i_no rfl rfl (i_no rfl rfl (i_no rfl rfl (i_no rfl rfl (kO rfl (a_pick_t rfl rfl rfl (i_nil (r_cond_t rfl (rS (kM rfl rfl (i_nil (r_ret (then_r (end1 rfl ⟨congrArg Value.bool ?_, rfl⟩))))))))))))))
  first
   | (rw [pt_no1 (by omega)]; done)
   | (rw [pt_no2 (in_bad (by omega) hi2 (by omega))]; done)
   | (rw [pt_no3 (kp_bad hx hkp (by omega))]; done)
   | (rw [pt_yes (by omega) hin (kp_end hkp (by omega))]; done)
 ·refine kM rfl rfl (kG rfl rfl (a_mov rfl (kG rfl rfl (a_iaI (j := 0) hX rfl rfl (by omega) (by first | rfl | omega) (by omega) (fun _ _ a3 => (kG rfl rfl (a_ldr rfl (hX.at a3 (by omega)) (kG rfl rfl (a_neq rfl rfl (fun h4 => ?_) (fun h4 => ?_))))))))))
  ·refine kO rfl (a_pick_f rfl rfl rfl (i_nil (r_cond_t rfl (rS (kM rfl rfl (i_nil (r_ret (then_r (end1 rfl ⟨congrArg Value.bool ?_, rfl⟩)))))))))
   first
    | (rw [pt_no1 (by omega)]; done)
    | (rw [pt_no2 (in_bad (by omega) hi2 (by omega))]; done)
    | (rw [pt_no3 (kp_bad hx hkp (by omega))]; done)
    | (rw [pt_yes (by omega) hin (kp_end hkp (by omega))]; done)
  ·refine kO rfl (a_pick_f rfl rfl rfl (i_nil (r_cond_f rfl (r_skip (then_n (rQ (rS (kM rfl rfl (kO rfl (a_lenx rfl hX.spot (kM rfl rfl (i_nil (r_block (r_loop (fun j e A => ∃ (k : Nat), e = [(1, .slice ax x.length cx), (2, .pointer (some ⟨b1, 0, none⟩)), (21, .slice ax x.length cx), (22, .int .i64 (x.length : Int)), (23, .int .i64 (k : Int))] ∧ A = (.row b1 24 false ([.int .i64 m, .slice al ls.length cl]) :: []) ∧ j = x.length - k ∧ k ≤ x.length ∧ inB (-1000000000) 1000000000 x = inB (-1000000000) 1000000000 (x.drop k)) 200 281474976710656 281474976710656 ?_ (j := _) (env2 := _) (A2 := _) ?_ ?_ ?_ ?_ ⟨0, rfl, rfl, rfl, Nat.zero_le _, rfl⟩))))))))))))))
   rotate_left
   ·omega
   ·omega
   ·exact (lc 1 rfl (lc 2 rfl (lc 21 rfl (lc 22 rfl (lc 23 rfl Less.nil)))))
   ·exact (.cons_cons _ .slnil)
   rintro n hn j _ _ ⟨k, rfl, rfl, rfl, hk, hi2⟩
   refine rS (kO rfl (a_lss rfl rfl (fun h5 => ?_) (fun h5 => ?_)))
   ·refine i_nil (rQ (r_cond_t rfl (r_skip (then_n (rQ (r_block (rS (kO rfl (a_iaI (j := k) hX rfl rfl (by omega) (by first | rfl | omega) (by omega) (fun _ _ a6 => (kO rfl (a_ldr rfl (hX.at a6 (by omega)) (kM rfl rfl (i_nil (rS (kM rfl rfl (kO rfl (a_callB rfl rfl (fun s1 h1 => rwithin_s _ _ _ _ s1 h1.wf) (fun h7 => ?_) (fun h7 => ?_)))))))))))))))))))
    ·refine kO rfl (a_not rfl (i_nil (r_cond_f rfl (r_skip (block_n (then_n (rI (kO rfl (a_add rfl rfl (by omega) (kM rfl rfl (i_nil (then_n ?_))))))))))))
     exact ⟨rfl, _, _, _, (show x.length - (k + 1) < x.length - k by omega), (lc 1 rfl (lc 2 rfl (lc 21 rfl (lc 22 rfl (lc 23 rfl Less.nil))))), (.cons_cons _ .slnil), ⟨k + 1, rfl, rfl, rfl, by omega, in_good (by omega) hi2 (by omega)⟩⟩
    ·refine kO rfl (a_not rfl (i_nil (r_cond_t rfl (rS (kM rfl rfl (i_nil (r_ret (block_r (then_r (then_r (block_r (then_r (end1 rfl ⟨congrArg Value.bool ?_, rfl⟩)))))))))))))
     first
      | (rw [pt_no1 (by omega)]; done)
      | (rw [pt_no2 (in_bad (by omega) hi2 (by omega))]; done)
      | (rw [pt_no3 (kp_bad hx hkp (by omega))]; done)
      | (rw [pt_yes (by omega) hin (kp_end hkp (by omega))]; done)
   ·have hin := in_end hi2 (by omega)
    refine i_nil (rQ (r_cond_f rfl (r_exit (then_e (then_e (block_hit (then_n (rQ (rS (kO rfl (a_fa rfl (kO rfl (a_ld rfl .here rfl (kO rfl (a_lenx rfl (by first | exact hL.spot | exact hX.spot) (kM rfl rfl (i_nil (r_block (r_loop (fun j e A => ∃ (k : Nat), e = [(1, .slice ax x.length cx), (32, .slice al ls.length cl), (33, .int .i64 (ls.length : Int)), (34, .int .i64 (k : Int))] ∧ A = (.row b1 24 false ([.int .i64 m, .slice al ls.length cl]) :: []) ∧ j = ls.length - k ∧ k ≤ ls.length ∧ kpB x ls = kpB x (ls.drop k)) 300 0 281474976710656 ?_ (j := _) (env2 := _) (A2 := _) ?_ ?_ ?_ ?_ ⟨0, rfl, rfl, rfl, Nat.zero_le _, rfl⟩)))))))))))))))))))
    rotate_left
    ·omega
    ·omega
    ·exact (lc 1 rfl (lc 32 rfl (lc 33 rfl (lc 34 rfl Less.nil))))
    ·exact (.cons_cons _ .slnil)
    rintro n hn j _ _ ⟨k, rfl, rfl, rfl, hk, hkp⟩
    refine rS (kO rfl (a_lss rfl rfl (fun h8 => ?_) (fun h8 => ?_)))
    ·obtain ⟨q4, o4, y0, y1, y2, y3, ahL, hx, hat, i0, i1, i2, i3⟩ := hL.row4 (k := k) (by omega)
     have hat2 := hat
     obtain ⟨d0, d1, d2, d3, _⟩ := hat2
     have := i0.lo; have := i0.hi
     have := i1.lo; have := i1.hi
     have := i2.lo; have := i2.hi
     have := i3.lo; have := i3.hi
     have hc4 := lmB_at hlm hx
     obtain ⟨u0, rfl⟩ : ∃ q : Nat, y0 = (q : Int) := ⟨y0.toNat, by omega⟩
     obtain ⟨u1, rfl⟩ : ∃ q : Nat, y1 = (q : Int) := ⟨y1.toNat, by omega⟩
     have hb0 := in_all hin (k := u0) (by omega)
     have hb1 := in_all hin (k := u1) (by omega)
     refine i_nil (rQ (r_cond_t rfl (r_skip (then_n (rQ (r_block (rS (kO rfl (a_iaA (j := k) ahL rfl rfl (by first | rfl | omega) (by first | decide | omega) (kO rfl (a_ldar rfl (by decide) (by assumption) rfl (kO rfl (a_new rfl rfl (fun b9 => (kZ rfl (a_sta rfl rfl .here rfl rfl rfl rfl (i_nil (rS (kM rfl rfl (kO rfl (a_fa rfl (kO rfl (a_ld rfl .here rfl (kO rfl (a_iaI (j := u1) hX rfl rfl (by omega) (by first | rfl | omega) (by omega) (fun _ _ a10 => (kO rfl (a_ldr rfl (hX.at a10 (by omega)) (kM rfl rfl (kO rfl (a_fa rfl (kO rfl (a_ld rfl .here rfl (kO rfl (a_iaI (j := u0) hX rfl rfl (by omega) (by first | rfl | omega) (by omega) (fun _ _ a11 => (kO rfl (a_ldr rfl (hX.at a11 (by omega)) ?_))))))))))))))))))))))))))))))))))))))
     refine kO rfl (a_sub rfl rfl (by omega) (kO rfl (a_fa rfl (kO rfl (a_ld rfl .here rfl (kO rfl (a_gtr rfl rfl (fun h12 => ?_) (fun h12 => ?_))))))))
     ·refine i_nil (r_cond_t rfl (rS (kM rfl rfl (i_nil (r_ret (block_r (then_r (then_r (block_r (then_r (end1 rfl ⟨congrArg Value.bool ?_, rfl⟩)))))))))))
      first
       | (rw [pt_no1 (by omega)]; done)
       | (rw [pt_no2 (in_bad (by omega) hi2 (by omega))]; done)
       | (rw [pt_no3 (kp_bad hx hkp (by omega))]; done)
       | (rw [pt_yes (by omega) hin (kp_end hkp (by omega))]; done)
     ·refine i_nil (r_cond_f rfl (r_skip (block_n (then_n (rI (kO rfl (a_add rfl rfl (by omega) (kM rfl rfl (i_nil (then_n ?_))))))))))
      exact ⟨rfl, _, _, _, (show ls.length - (k + 1) < ls.length - k by omega), (lc 1 rfl (lc 32 rfl (lc 33 rfl (lc 34 rfl Less.nil)))), (.cons _ (.cons_cons _ .slnil)), ⟨k + 1, rfl, rfl, rfl, by omega, kp_good hx hkp (by omega)⟩⟩
    ·refine i_nil (rQ (r_cond_f rfl (r_exit (then_e (then_e (block_hit (then_n (rS (kM rfl rfl (i_nil (r_ret (end1 rfl ⟨congrArg Value.bool ?_, rfl⟩))))))))))))
     first
      | (rw [pt_no1 (by omega)]; done)
      | (rw [pt_no2 (in_bad (by omega) hi2 (by omega))]; done)
      | (rw [pt_no3 (kp_bad hx hkp (by omega))]; done)
      | (rw [pt_yes (by omega) hin (kp_end hkp (by omega))]; done)

theorem rCheckPoint_s (n : Nat) (m : Int) (al : Option Addr) (cl : Nat) (ls : List (List Int)) (ax : Option Addr) (cx : Nat) (x : List Int) (s : St) (hs : Wf s) (hn : 1125899906842624 ≤ n) (hL : RowsE s 4 al ls) (hX : IntsE s ax x) : Spec Tryz.prog (tabK tabw) X (n + 1300) 16 [.agg ⟨[.int .i64 m, .slice al ls.length cl]⟩, .slice ax x.length cx] s (fun v A => v = .int .i64 (if sysE m ls = 0 then (if ptB m ls x = true then 0 else 25) else sysE m ls) ∧ A = []) := by
 refine enter bw16_at rfl hs ?_
 unfold bw16
 have hlen := hL.len
 have hlenX := hX.len
 refine rS (kO rfl (a_box rfl rfl rfl (fun b1 => (kM rfl rfl (i_nil (rS (kO rfl (a_lda rfl (by decide) .here rfl (kO rfl (a_callV rfl rfl (fun s1 h1 => rCheck_s _ _ _ _ _ s1 h1.wf (by omega) (hL.ext hs h1.2.1)) (kM rfl rfl (i_nil (rQ (rS (kM rfl rfl (kO rfl (a_neq rfl rfl (fun h2 => ?_) (fun h2 => ?_))))))))))))))))))
 ·refine i_nil (r_cond_t rfl (rS (kM rfl rfl (kM rfl rfl (i_nil (r_ret (then_r (end1 rfl ⟨congrArg (Value.int .i64) ?_, rfl⟩))))))))
  first
   | (rw [if_neg (by omega)]; done)
   | (rw [if_pos hsys, hkp]; rfl)
 ·have hsys : sysE m ls = 0 := by omega
  refine i_nil (r_cond_f rfl (r_skip (then_n (rQ (rS (kO rfl (a_lda rfl (by decide) .here rfl (kM rfl rfl (kO rfl (a_callb rfl rfl (fun s1 h1 => keeps_s _ _ _ _ _ _ _ _ s1 h1.wf (by omega) (hL.ext hs h1.2.1) (hX.ext hs h1.2.1) hsys) (fun h3 => ?_) (fun h3 => ?_)))))))))))
  ·have hkp := h3
   refine kO rfl (a_not rfl (i_nil (r_cond_f rfl (r_skip (then_n (rS (kM rfl rfl (i_nil (r_ret (end1 rfl ⟨congrArg (Value.int .i64) ?_, rfl⟩))))))))))
   first
    | (rw [if_neg (by omega)]; done)
    | (rw [if_pos hsys, hkp]; rfl)
  ·have hkp := h3
   refine kO rfl (a_not rfl (i_nil (r_cond_t rfl (rS (kM rfl rfl (i_nil (r_ret (then_r (end1 rfl ⟨congrArg (Value.int .i64) ?_, rfl⟩)))))))))
   first
    | (rw [if_neg (by omega)]; done)
    | (rw [if_pos hsys, hkp]; rfl)

end
end Ev
end Go.Proofs.YtcpebhdbpkhhiaaGreat

/- Chains that are checked. -/
namespace Go.Proofs.YtcpebhdbpkhhiaaGreat
open Go Go.RowKit
namespace Ev
def csum (ls : List (List Int)) (l : List Int) : Nat → Int
  | 0 => 0
  | t + 1 => csum ls l t + lw ls (l.getD t 0).toNat
/-- Limits one after the other, in a circle, below 0. -/
structure Chn (ls : List (List Int)) (l : List Int) : Prop where
  pos : 0 < l.length
  len : l.length ≤ 400
  ix : ∀ t, t < l.length → ∃ i : Nat, l.getD t 0 = (i : Int) ∧ i < ls.length
  nx : ∀ t, t + 1 < l.length → lb ls (l.getD t 0).toNat = la ls (l.getD (t + 1) 0).toNat
  cl : lb ls (l.getD (l.length - 1) 0).toNat = la ls (l.getD 0 0).toNat
  neg : csum ls l l.length < 0
theorem csum_bd {ls : List (List Int)} {M : Nat} {l : List Int} (hl : lmB (M : Int) ls = true) (h : Chn ls l) : ∀ {t : Nat}, t ≤ l.length → -20000 * (t : Int) ≤ csum ls l t ∧ csum ls l t ≤ 20000 * (t : Int)
  | 0, _ => ⟨by show _ ≤ (0 : Int); omega, by show (0 : Int) ≤ _; omega⟩
  | t + 1, ht => by
    have ih := csum_bd hl h (t := t) (by omega)
    obtain ⟨i, h1, h2⟩ := h.ix t (by omega)
    obtain ⟨u0, u1, y2, y3, e, hc⟩ := lm_row hl h2
    have e3 : ls.getD i [] = [(u0 : Int), (u1 : Int), y2, y3] := by rw [List.getD_eq_getElem?_getD, e]; rfl
    have e2 : lw ls i = y2 := by unfold lw; rw [e3]; rfl
    show _ ≤ csum ls l t + lw ls (l.getD t 0).toNat ∧ csum ls l t + lw ls (l.getD t 0).toNat ≤ _
    rw [h1, Int.toNat_natCast, e2]
    omega
theorem csum_step {ls : List (List Int)} {l : List Int} {t i : Nat} (h : l.getD t 0 = (i : Int)) : csum ls l t + lw ls i = csum ls l (t + 1) := by
  show _ = csum ls l t + lw ls (l.getD t 0).toNat
  rw [h, Int.toNat_natCast]
/-- Of the chain that Cycle tells. -/
theorem chn_of {ls : List (List Int)} {c : Nat → Nat × Nat × Nat × Int} {a k : Nat} {w : List Int} (hw : w.length = k + 1) (hk : k + 1 ≤ 400) (hr : ∀ t, t ≤ k → w.getD t 0 = (cyl c a k).getD (k - t) 0) (hp : itr c a (k + 1) = a)
    (h : ∀ m, (c (itr c a m)).1 < ls.length ∧ lb ls (c (itr c a m)).1 = itr c a m ∧ la ls (c (itr c a m)).1 = itr c a (m + 1)) (hn : sumC ls c a (k + 1) < 0) : Chn ls w := by
  have hcy : ∀ m t, t ≤ m → (cyl c a m).getD t 0 = ((c (itr c a t)).1 : Int) := by
    intro m
    induction m with
    | zero => intro t ht; have : t = 0 := by omega
              subst this; rfl
    | succ m ih =>
      intro t ht
      show (cyl c a m ++ [((c (itr c a (m + 1))).1 : Int)]).getD t 0 = _
      rw [List.getD_eq_getElem?_getD]
      by_cases q : t ≤ m
      · rw [List.getElem?_append_left (by rw [cyl_len]; omega), ← List.getD_eq_getElem?_getD]; exact ih t q
      · have : t = m + 1 := by omega
        subst this
        rw [List.getElem?_append_right (by rw [cyl_len]; exact Nat.le_refl _), cyl_len]; simp
  have hwt : ∀ t, t ≤ k → w.getD t 0 = ((c (itr c a (k - t))).1 : Int) := fun t ht => by rw [hr t ht, hcy k (k - t) (by omega)]
  refine ⟨by omega, by omega, fun t ht => ⟨_, hwt t (by omega), (h _).1⟩, fun t ht => ?_, ?_, ?_⟩
  · rw [hwt t (by omega), hwt (t + 1) (by omega), Int.toNat_natCast, Int.toNat_natCast, (h _).2.1, (h _).2.2]
    congr 1; omega
  · rw [hwt _ (by omega), hwt 0 (by omega), Int.toNat_natCast, Int.toNat_natCast, (h _).2.1, (h _).2.2, show k - (w.length - 1) = 0 by omega, show k - 0 + 1 = k + 1 by omega, hp]; rfl
  · have key : ∀ t, t ≤ k + 1 → csum ls w t + sumC ls c a (k + 1 - t) = sumC ls c a (k + 1) := by
      intro t
      induction t with
      | zero => intro _; show 0 + _ = _; rw [Nat.sub_zero]; omega
      | succ t ih =>
        intro ht
        have ih := ih (by omega)
        have e : k + 1 - t = (k - t) + 1 := by omega
        rw [e] at ih
        have e1 : sumC ls c a (k - t + 1) = sumC ls c a (k - t) + lw ls (c (itr c a (k - t))).1 := rfl
        have e2 : csum ls w (t + 1) = csum ls w t + lw ls (w.getD t 0).toNat := rfl
        rw [hwt t (by omega), Int.toNat_natCast] at e2
        rw [show k + 1 - (t + 1) = k - t by omega]
        omega
    have h0 := key (k + 1) (Nat.le_refl _)
    rw [Nat.sub_self] at h0
    have h1 : sumC ls c a 0 = 0 := rfl
    rw [hw]; omega

section
variable {X : FuncId → List Value → St → (Value → St → Bool) → Bool}
theorem CheckCycle_s (n : Nat) (M : Nat) (al : Option Addr) (cl : Nat) (ls : List (List Int)) (ax : Option Addr) (cx : Nat) (x : List Int) (s : St) (hs : Wf s) (hn : 1688849860263936 ≤ n) (hL : RowsE s 4 al ls) (hX : IntsE s ax x) (hsys : sysE (M : Int) ls = 0) (hC : Chn ls x) : Spec Tryz.prog (tabK tabw) X (n + 2500) 13 [.agg ⟨[.int .i64 (M : Int), .slice al ls.length cl]⟩, .slice ax x.length cx] s (fun v A => v = .int .i64 0 ∧ A = []) := by
 refine enter bw13_at rfl hs ?_
 unfold bw13
 have hlen := hL.len
 have hlenX := hX.len
 obtain ⟨hm0, hM, h400, hlm⟩ := sysE_ok hsys
 have hcp := hC.pos
 have hcl := hC.len
 have hcb := fun t ht => csum_bd hlm hC (t := t) ht
 refine rS (kO rfl (a_box rfl rfl rfl (fun b1 => (kM rfl rfl (i_nil (rQ (rS (kO rfl (a_lda rfl (by decide) .here rfl (kO rfl (a_callV rfl rfl (fun s1 h1 => Check_s _ _ _ _ _ s1 h1.wf (by omega) (hL.ext hs h1.2.1)) (kM rfl rfl (i_nil (rS (kM rfl rfl (kO rfl (a_neq rfl rfl (fun h2 => ?_) (fun h2 => ?_))))))))))))))))))
 ·exfalso; omega
 ·refine i_nil (r_cond_f rfl (r_skip (then_n (rQ (rS (kM rfl rfl (kO rfl (a_lenx rfl hX.spot (kO rfl (a_eql rfl rfl (fun h3 => ?_) (fun h3 => ?_)))))))))))
  ·exfalso; omega
  ·refine kM rfl rfl (kG rfl rfl (a_mov rfl (kG rfl rfl (a_lenx rfl hX.spot (kG rfl rfl (a_gtr rfl rfl (fun h4 => ?_) (fun h4 => ?_)))))))
   ·exfalso; omega
   ·refine kO rfl (a_pick_f rfl rfl rfl (kM rfl rfl (kG rfl rfl (a_lda rfl (by decide) .here rfl (kG rfl rfl (a_mov rfl (kG rfl rfl (a_inl rfl rfl bw33_at rfl ?_))))))))
    unfold bw33
    refine rS (kO rfl (a_box rfl rfl rfl (fun b5 => (kM rfl rfl (i_nil (rS (kM rfl rfl (kO rfl (a_fn rfl rfl (kG rfl rfl (a_inl rfl rfl bw49_at rfl ?_)))))))))))
    unfold bw49
    refine rS (kM rfl rfl (i_nil (rS (kM rfl rfl (kM rfl rfl (kG rfl rfl (a_inl rfl rfl bw70_at rfl ?_)))))))
    unfold bw70
    refine rS (kM rfl rfl (i_nil (rQ (rS (kM rfl rfl (kO rfl (a_lenx rfl hX.spot (kM rfl rfl (i_nil (r_block (r_loop (fun j e A => ∃ (t : Nat), e = [(0, .slice ax x.length cx), (1, .func (.func 50) ⟨[]⟩ ⟨[.pointer (some ⟨b5, 0, none⟩)]⟩), (7, .int .i64 (x.length : Int)), (8, .int .i64 (t : Int))] ∧ A = (.row b5 24 false ([.int .i64 (M : Int), .slice al ls.length cl]) :: (.row b1 24 false ([.int .i64 (M : Int), .slice al ls.length cl]) :: [])) ∧ j = x.length - t ∧ t ≤ x.length) 400 281474976710656 281474976710656 ?_ (j := _) (env2 := _) (A2 := _) ?_ ?_ ?_ ?_ ⟨0, rfl, rfl, rfl, Nat.zero_le _⟩)))))))))))
    rotate_left
    ·omega
    ·omega
    ·exact (lc 0 rfl (lc 1 rfl (lc 7 rfl (lc 8 rfl Less.nil))))
    ·exact (.cons_cons _ (.cons_cons _ .slnil))
    rintro n hn j _ _ ⟨t, rfl, rfl, rfl, ht⟩
    refine rS (kO rfl (a_lss rfl rfl (fun h6 => ?_) (fun h6 => ?_)))
    ·obtain ⟨it, hit, hil⟩ := hC.ix t (by omega)
     refine i_nil (rQ (r_cond_t rfl (r_skip (then_n (rQ (r_block (rS (kM rfl rfl (kM rfl rfl (i_nil (rS (kM rfl rfl (kM rfl rfl (kM rfl rfl (kO rfl (a_iaI (j := t) hX rfl rfl (by omega) (by first | rfl | omega) (by omega) (fun _ _ a7 => (kO rfl (a_ldr rfl (hX.at a7 (by omega)) ?_)))))))))))))))))))
     rw [hit]
     refine kG rfl rfl (a_inl rfl rfl bw50_at rfl ?_)
     unfold bw50
     refine rS (kM rfl rfl (i_nil (rS (kM rfl rfl (kO rfl (a_fa rfl (kO rfl (a_ld rfl .here rfl (kO rfl (a_lenx rfl (by first | exact hL.spot | exact hX.spot) (kO rfl (a_sub rfl rfl (by omega) (kO rfl (a_callB rfl rfl (fun s1 h1 => inside_s _ _ _ _ s1 h1.wf) (fun h8 => ?_) (fun h8 => ?_)))))))))))))))
     ·refine kO rfl (a_not rfl (kM rfl rfl (i_nil (r_ret (endD1 rfl .nil (i_nil (r_cond_f rfl (r_skip (block_n (then_n (rI (kO rfl (a_add rfl rfl (by omega) (kM rfl rfl (i_nil (then_n ?_))))))))))))))))
      exact ⟨rfl, _, _, _, (show x.length - (t + 1) < x.length - t by omega), (lc 0 rfl (lc 1 rfl (lc 7 rfl (lc 8 rfl Less.nil)))), (.cons_cons _ (.cons_cons _ .slnil)), ⟨t + 1, rfl, rfl, rfl, by omega⟩⟩
     ·exfalso; omega
    ·refine i_nil (rQ (r_cond_f rfl (r_exit (then_e (then_e (block_hit (then_n (rS (kM rfl rfl (i_nil (r_ret (endD1 rfl .nil (kO rfl (a_geq rfl rfl (fun h => absurd h (by decide)) (fun _ => (kM rfl rfl (i_nil (r_ret (endD1 rfl .nil (kO rfl (a_not rfl (kM rfl rfl (i_nil (r_ret (endD1 rfl .nil (kG rfl rfl (a_not rfl ?_)))))))))))))))))))))))))))
     refine kO rfl (a_pick_f rfl rfl rfl (i_nil (r_cond_f rfl (r_skip (then_n (rS (kO rfl (a_fa rfl (kO rfl (a_ld rfl (.next .here) rfl (kM rfl rfl (kM rfl rfl (kO rfl (a_lenx rfl hX.spot (kO rfl (a_sub rfl rfl (by omega) (kO rfl (a_iaI (j := (x.length - 1)) hX rfl rfl (by omega) (by first | rfl | omega) (by omega) (fun _ _ a10 => (kO rfl (a_ldr rfl (hX.at a10 (by omega)) ?_)))))))))))))))))))))
     obtain ⟨it, hit, hil⟩ := hC.ix (x.length - 1) (by omega)
     rw [hit]
     obtain ⟨q4, o4, y0, y1, y2, y3, ahL, hx, hat, i0, i1, i2, i3⟩ := hL.row4 (k := it) (by omega)
     have hat2 := hat
     obtain ⟨d0, d1, d2, d3, _⟩ := hat2
     have := i0.lo; have := i0.hi
     have := i1.lo; have := i1.hi
     have := i2.lo; have := i2.hi
     have := i3.lo; have := i3.hi
     have hL9 := lim_of hlm hil
     obtain ⟨w3, hrow⟩ := hL9.row
     rw [hx] at hrow
     simp only [Option.some.injEq, List.cons.injEq, and_true] at hrow
     obtain ⟨rfl, rfl, rfl, rfl⟩ := hrow
     refine kO rfl (a_iaA (j := it) ahL rfl rfl (by first | rfl | omega) (by first | decide | omega) (kO rfl (a_ldar rfl (by decide) (by assumption) rfl (kO rfl (a_new rfl rfl (fun b11 => (kM rfl rfl (kZ rfl (a_sta rfl rfl .here rfl rfl rfl rfl (i_nil (rQ (rS (kM rfl rfl (kO rfl (a_lenx rfl hX.spot (kM rfl rfl (i_nil (r_block (r_loop (fun j e A => ∃ (t pv : Nat) (yv : Int), e = [(1, .slice ax x.length cx), (2, .pointer (some ⟨b1, 0, none⟩)), (6, .int .i64 (csum ls x t)), (7, .pointer (some ⟨b11, 0, none⟩)), (39, .slice ax x.length cx), (40, .int .i64 (x.length : Int)), (41, .int .i64 (t : Int))] ∧ A = (.row b11 55 false ([.int .i64 (la ls pv : Int), .int .i64 (lb ls pv : Int), .int .i64 (lw ls pv), .int .i64 yv]) :: (.row b1 24 false ([.int .i64 (M : Int), .slice al ls.length cl]) :: [])) ∧ j = x.length - t ∧ t ≤ x.length ∧ (t < x.length → lb ls pv = la ls (x.getD t 0).toNat)) 400 0 281474976710656 ?_ (j := _) (env2 := _) (A2 := _) ?_ ?_ ?_ ?_ ⟨0, it, y3, rfl, rfl, rfl, Nat.zero_le _, (fun _ => by have := hC.cl; rwa [hit, Int.toNat_natCast] at this)⟩)))))))))))))))))))
     rotate_left
     ·omega
     ·omega
     ·exact (lc 1 rfl (lc 2 rfl (lc 6 rfl (lc 7 rfl (lc 39 rfl (lc 40 rfl (lc 41 rfl Less.nil)))))))
     ·exact (.cons_cons _ (.cons _ (.cons_cons _ .slnil)))
     rintro n hn j _ _ ⟨t, pv, yv, rfl, rfl, rfl, ht, hpv⟩
     refine rS (kO rfl (a_lss rfl rfl (fun h12 => ?_) (fun h12 => ?_)))
     ·obtain ⟨it, hit, hil⟩ := hC.ix t (by omega)
      refine i_nil (rQ (r_cond_t rfl (r_skip (then_n (rQ (r_block (rS (kO rfl (a_iaI (j := t) hX rfl rfl (by omega) (by first | rfl | omega) (by omega) (fun _ _ a13 => (kO rfl (a_ldr rfl (hX.at a13 (by omega)) ?_))))))))))))
      rw [hit]
      obtain ⟨q4, o4, y0, y1, y2, y3, ahL, hx, hat, i0, i1, i2, i3⟩ := hL.row4 (k := it) (by omega)
      have hat2 := hat
      obtain ⟨d0, d1, d2, d3, _⟩ := hat2
      have := i0.lo; have := i0.hi
      have := i1.lo; have := i1.hi
      have := i2.lo; have := i2.hi
      have := i3.lo; have := i3.hi
      have hL9 := lim_of hlm hil
      obtain ⟨w3, hrow⟩ := hL9.row
      rw [hx] at hrow
      simp only [Option.some.injEq, List.cons.injEq, and_true] at hrow
      obtain ⟨rfl, rfl, rfl, rfl⟩ := hrow
      have hpv2 := hpv (by omega)
      rw [hit, Int.toNat_natCast] at hpv2
      have hcb1 := hcb t (by omega)
      have hcb2 := hcb (t + 1) (by omega)
      rw [← csum_step hit] at hcb2
      refine kM rfl rfl (i_nil (rQ (rS (kO rfl (a_fa rfl (kO rfl (a_ld rfl (.next .here) rfl (kM rfl rfl (kO rfl (a_iaA (j := it) ahL rfl rfl (by first | rfl | omega) (by first | decide | omega) (kO rfl (a_fa rfl (kO rfl (a_ldr rfl (by assumption) (kO rfl (a_fa rfl (kO rfl (a_ld rfl .here rfl (kO rfl (a_neq rfl rfl (fun h14 => ?_) (fun h14 => ?_)))))))))))))))))))))
      ·exfalso; omega
      ·refine i_nil (r_cond_f rfl (r_skip (then_n (rS (kO rfl (a_fa rfl (kO rfl (a_ld rfl (.next .here) rfl (kM rfl rfl (kO rfl (a_iaA (j := it) ahL rfl rfl (by first | rfl | omega) (by first | decide | omega) (kO rfl (a_ldar rfl (by decide) (by assumption) rfl (kZ rfl (a_sta rfl rfl .here rfl rfl rfl rfl (i_nil (rI (kM rfl rfl (kO rfl (a_fa rfl (kO rfl (a_ld rfl .here rfl (kO rfl (a_add rfl rfl (by omega) (kM rfl rfl (i_nil (block_n (then_n (rI (kO rfl (a_add rfl rfl (by omega) (kM rfl rfl ?_))))))))))))))))))))))))))))))))
       refine i_nil (then_n ?_)
       exact ⟨rfl, _, _, _, (show x.length - (t + 1) < x.length - t by omega), (lc 1 rfl (lc 2 rfl (lc 6 rfl (lc 7 rfl (lc 39 rfl (lc 40 rfl (lc 41 rfl Less.nil))))))), (.cons_cons _ (.cons_cons _ .slnil)), ⟨t + 1, it, y3, (by rw [← csum_step hit]; rfl), rfl, rfl, by omega, (fun hq => by have := hC.nx t hq; rwa [hit, Int.toNat_natCast] at this)⟩⟩
     ·refine i_nil (rQ (r_cond_f rfl (r_exit (then_e (then_e (block_hit (then_n (rQ (rS (kM rfl rfl (kO rfl (a_geq rfl rfl (fun h15 => ?_) (fun h15 => ?_)))))))))))))
      ·have hte : t = x.length := by omega
       have hng := hC.neg
       rw [← hte] at hng
       exfalso; omega
      ·refine i_nil (r_cond_f rfl (r_skip (then_n (rS (kM rfl rfl (i_nil (r_ret ?_)))))))
       first
        | exact end1 rfl ⟨rfl, rfl⟩
        | (exfalso; omega)

end
end Ev
end Go.Proofs.YtcpebhdbpkhhiaaGreat

/- How far unknowns are from one. -/
namespace Go.Proofs.YtcpebhdbpkhhiaaGreat
open Go Go.RowKit
namespace Ev
/-- A way along limits, and what it adds up to. -/
inductive Wk (ls : List (List Int)) : Nat → Nat → Int → Prop where
  | nil {f : Nat} : Wk ls f f 0
  | step {f i : Nat} {w : Int} (hi : i < ls.length) (h : Wk ls f (la ls i) w) : Wk ls f (lb ls i) (w + lw ls i)
theorem Wk.pot {ls : List (List Int)} {y : Nat → Int} (hy : ∀ i, i < ls.length → y (lb ls i) ≤ y (la ls i) + lw ls i) {f a : Nat} {w : Int} (h : Wk ls f a w) : y a ≤ y f + w := by
  induction h with
  | nil => omega
  | step hi _ ih => have := hy _ hi; omega
/-- How many numbers are not Free. -/
def fcn (x : Nat → Int) : Nat → Int
  | 0 => 0
  | k + 1 => fcn x k + (if x k = 1000000000 then 0 else 1)
theorem cnt_bd {x : Nat → Int} : ∀ {N : Nat}, 0 ≤ fcn x N ∧ fcn x N ≤ N
  | 0 => ⟨Int.le_refl _, Int.le_refl _⟩
  | N + 1 => by
    have := cnt_bd (x := x) (N := N)
    show 0 ≤ fcn x N + (if x N = 1000000000 then 0 else 1) ∧ fcn x N + (if x N = 1000000000 then 0 else 1) ≤ ((N + 1 : Nat) : Int)
    split <;> omega
theorem cnt_far {x : Nat → Int} {b : Nat} {z : Int} : ∀ {N : Nat}, N ≤ b → fcn (updX x b z) N = fcn x N
  | 0, _ => rfl
  | N + 1, h => by
    show fcn (updX x b z) N + (if updX x b z N = 1000000000 then 0 else 1) = fcn x N + (if x N = 1000000000 then 0 else 1)
    rw [cnt_far (N := N) (by omega), updX_ne (show N ≠ b by omega)]
theorem cnt_upd {x : Nat → Int} {b : Nat} {z : Int} (hz : ¬ z = 1000000000) : ∀ {N : Nat}, b < N → fcn (updX x b z) N = fcn x N + (if x b = 1000000000 then 1 else 0)
  | N + 1, h => by
    show fcn (updX x b z) N + (if updX x b z N = 1000000000 then 0 else 1) = fcn x N + (if x N = 1000000000 then 0 else 1) + _
    by_cases q : b = N
    · subst q
      rw [cnt_far (Nat.le_refl _), updX_eq, if_neg hz]
      split <;> omega
    · rw [cnt_upd hz (N := N) (by omega), updX_ne (show N ≠ b by omega)]; omega
/-- All numbers together. -/
def tot (x : Nat → Int) : Nat → Int
  | 0 => 0
  | k + 1 => tot x k + x k
theorem tot_far {x : Nat → Int} {b : Nat} {z : Int} : ∀ {N : Nat}, N ≤ b → tot (updX x b z) N = tot x N
  | 0, _ => rfl
  | N + 1, h => by
    show tot (updX x b z) N + updX x b z N = tot x N + x N
    rw [tot_far (N := N) (by omega), updX_ne (show N ≠ b by omega)]
theorem tot_upd {x : Nat → Int} {b : Nat} {z : Int} : ∀ {N : Nat}, b < N → tot (updX x b z) N = tot x N + (z - x b)
  | N + 1, h => by
    show tot (updX x b z) N + updX x b z N = tot x N + x N + _
    by_cases q : b = N
    · subst q
      rw [tot_far (Nat.le_refl _), updX_eq]; omega
    · rw [tot_upd (N := N) (by omega), updX_ne (show N ≠ b by omega)]; omega
theorem tot_bd {x : Nat → Int} {lo hi : Int} : ∀ {N : Nat}, (∀ a, a < N → lo ≤ x a ∧ x a ≤ hi) → lo * N ≤ tot x N ∧ tot x N ≤ hi * N
  | 0, _ => ⟨by show lo * 0 ≤ 0; omega, by show 0 ≤ hi * 0; omega⟩
  | N + 1, h => by
    have h1 := tot_bd (N := N) (fun a ha => h a (by omega))
    have h2 := h N (by omega)
    show lo * ((N + 1 : Nat) : Int) ≤ tot x N + x N ∧ tot x N + x N ≤ hi * ((N + 1 : Nat) : Int)
    rw [Int.natCast_add, Int.mul_add, Int.mul_add]
    omega
/-- Numbers that are ways from an unknown, or Free. -/
structure Dv (ls : List (List Int)) (N f : Nat) (s : Fs) : Prop where
  way : ∀ a, a < N → ¬ s.x a = 1000000000 → Wk ls f a (s.x a)
  up : ∀ a, a < N → ¬ s.x a = 1000000000 → s.x a ≤ 20000 * (fcn s.x N - 1)
  own : s.x f ≤ 0
  par : ∀ a, a < N → (s.c a).2.1 < N
  last : s.l = -1 ∨ ∃ u : Nat, u < N ∧ s.l = (u : Int)
theorem Dv.hi {ls : List (List Int)} {N f : Nat} {s : Fs} (h : Dv ls N f s) (hN : N ≤ 65) {a : Nat} (ha : a < N) : s.x a = 1000000000 ∨ s.x a ≤ 1280000 := by
  by_cases q : s.x a = 1000000000
  · exact .inl q
  · have := h.up a ha q
    have := (cnt_bd (x := s.x) (N := N)).2
    exact .inr (by omega)
theorem Dv.lo {ls : List (List Int)} {M f : Nat} {s : Fs} {y : Nat → Int} (hy : ∀ i, i < ls.length → y (lb ls i) ≤ y (la ls i) + lw ls i) (hb : ∀ a, a < M + 1 → -1300000 ≤ y a ∧ y a ≤ 0) (hf : f < M + 1) (h : Dv ls (M + 1) f s) {a : Nat} (ha : a < M + 1) : -1300000 ≤ s.x a := by
  by_cases q : s.x a = 1000000000
  · rw [q]; decide
  · have h1 := (h.way a ha q).pot hy
    have h2 := hb a ha
    have h3 := hb f hf
    omega
theorem Dv.rlx {ls : List (List Int)} {M f v i : Nat} {s : Fs} (hl : lmB (M : Int) ls = true) (hM : M ≤ 64) (hi : i < ls.length) (hn : nam (ls.getD i []) v) (hv : v < M + 1) (hF : ¬ s.x v = 1000000000) (h : Dv ls (M + 1) f s) : Dv ls (M + 1) f (rlx ls s v i) ∧ ¬ (Ev.rlx ls s v i).x v = 1000000000 ∧ (Ev.rlx ls s v i = s ∨ tot (Ev.rlx ls s v i).x (M + 1) < tot s.x (M + 1)) := by
  have hL := lim_of hl hi
  obtain ⟨u0, u1, y2, y3, e, hc⟩ := lm_row hl hi
  have hw : -20000 ≤ lw ls i ∧ lw ls i ≤ 20000 := by
    have e3 : ls.getD i [] = [(u0 : Int), (u1 : Int), y2, y3] := by rw [List.getD_eq_getElem?_getD, e]; rfl
    have e2 : lw ls i = y2 := by unfold lw; rw [e3]; rfl
    omega
  rw [rlx_eq hL]
  by_cases c1 : lb ls i = v
  · rw [if_pos c1]; exact ⟨h, hF, .inl rfl⟩
  · rw [if_neg c1]
    by_cases c2 : s.x v + lw ls i < s.x (lb ls i)
    · rw [if_pos c2]
      have hav : la ls i = v := by
        rcases hn with hn | hn
        · rw [hL.ea] at hn; omega
        · rw [hL.eb] at hn; omega
      have hb := hL.hb
      have hvu := (h.hi (by omega) hv).resolve_left hF
      have hz : ¬ s.x v + lw ls i = 1000000000 := by omega
      have hcn := cnt_upd (x := s.x) hz hb
      have hup := h.up v hv hF
      refine ⟨⟨fun a ha hfa => ?_, fun a ha hfa => ?_, ?_, fun a ha => ?_, .inr ⟨lb ls i, hb, rfl⟩⟩, ?_, .inr ?_⟩
      · show Wk ls f a (updX s.x (lb ls i) (s.x v + lw ls i) a)
        by_cases q : a = lb ls i
        · subst q
          rw [updX_eq]
          have := h.way v hv hF
          rw [← hav] at this ⊢
          exact .step hi this
        · have hfa' : ¬ updX s.x (lb ls i) (s.x v + lw ls i) a = 1000000000 := hfa
          rw [updX_ne q] at hfa' ⊢
          exact h.way a ha hfa'
      · show updX s.x (lb ls i) (s.x v + lw ls i) a ≤ 20000 * (fcn (updX s.x (lb ls i) (s.x v + lw ls i)) (M + 1) - 1)
        rw [hcn]
        by_cases q : a = lb ls i
        · subst q
          rw [updX_eq]
          by_cases q2 : s.x (lb ls i) = 1000000000
          · rw [if_pos q2]; omega
          · rw [if_neg q2]
            have := h.up (lb ls i) hb q2
            omega
        · have hfa' : ¬ updX s.x (lb ls i) (s.x v + lw ls i) a = 1000000000 := hfa
          rw [updX_ne q] at hfa' ⊢
          have := h.up a ha hfa'
          split <;> omega
      · show updX s.x (lb ls i) (s.x v + lw ls i) f ≤ 0
        have := h.own
        by_cases q : f = lb ls i
        · rw [q, updX_eq]; rw [q] at this; omega
        · rw [updX_ne q]; exact this
      · show (updX s.c (lb ls i) (i, v, lb ls i, lw ls i) a).2.1 < M + 1
        by_cases q : a = lb ls i
        · rw [q, updX_eq]; exact hv
        · rw [updX_ne q]; exact h.par a ha
      · show ¬ updX s.x (lb ls i) (s.x v + lw ls i) v = 1000000000
        rw [updX_ne (fun q => c1 q.symm)]; exact hF
      · show tot (updX s.x (lb ls i) (s.x v + lw ls i)) (M + 1) < _
        rw [tot_upd hb]; omega
    · rw [if_neg c2]; exact ⟨h, hF, .inl rfl⟩
theorem Dv.rws {ls : List (List Int)} {M f v : Nat} {s : Fs} (hl : lmB (M : Int) ls = true) (hM : M ≤ 64) (hv : v < M + 1) (hF : ¬ s.x v = 1000000000) (h : Dv ls (M + 1) f s) : ∀ {q : Nat}, q ≤ (nl ls ls.length v).length → Dv ls (M + 1) f (rwS ls s v q) ∧ ¬ (rwS ls s v q).x v = 1000000000 ∧ (rwS ls s v q = s ∨ tot (rwS ls s v q).x (M + 1) < tot s.x (M + 1))
  | 0, _ => ⟨h, hF, .inl rfl⟩
  | q + 1, hq => by
    obtain ⟨h1, h2, h3⟩ := Dv.rws hl hM hv hF h (q := q) (by omega)
    obtain ⟨i, hi, hil, hn⟩ := nl_mem (ls := ls) (v := v) (k := ls.length) (q := q) (by omega)
    have e : rwS ls s v (q + 1) = Ev.rlx ls (rwS ls s v q) v i := by
      show Ev.rlx ls (rwS ls s v q) v ((nl ls ls.length v).getD q 0).toNat = _
      rw [hi, Int.toNat_natCast]
    rw [e]
    obtain ⟨k1, k2, k3⟩ := Dv.rlx hl hM hil hn hv h2 h1
    refine ⟨k1, k2, ?_⟩
    rcases k3 with k3 | k3
    · rw [k3]; exact h3
    · rcases h3 with h3 | h3
      · rw [h3] at k3 ⊢; exact .inr k3
      · exact .inr (by omega)
theorem Dv.lws {ls : List (List Int)} {M f : Nat} {s : Fs} (hl : lmB (M : Int) ls = true) (hM : M ≤ 64) (h : Dv ls (M + 1) f s) : ∀ {v : Nat}, v ≤ M + 1 → Dv ls (M + 1) f (lwS ls s v) ∧ (lwS ls s v = s ∨ tot (lwS ls s v).x (M + 1) < tot s.x (M + 1))
  | 0, _ => ⟨h, .inl rfl⟩
  | v + 1, hv => by
    obtain ⟨h1, h2⟩ := Dv.lws hl hM h (v := v) (by omega)
    by_cases c : (lwS ls s v).x v = 1000000000
    · rw [lws_free c]; exact ⟨h1, h2⟩
    · rw [lws_go c]
      obtain ⟨k1, _, k3⟩ := Dv.rws hl hM (by omega) c h1 (Nat.le_refl _)
      refine ⟨k1, ?_⟩
      rcases k3 with k3 | k3
      · rw [k3]; exact h2
      · rcases h2 with h2 | h2
        · rw [h2] at k3 ⊢; exact .inr k3
        · exact .inr (by omega)
theorem Dv.zero {ls : List (List Int)} {N f : Nat} (hf : f < N) : Dv ls N f ⟨updX (fun _ => 1000000000) f 0, fun _ => (0, 0, 0, 0), -1⟩ := by
  have hc : ∀ k, k ≤ N → fcn (updX (fun _ => (1000000000 : Int)) f 0) k = if f < k then 1 else 0 := by
    intro k
    induction k with
    | zero => intro _; rfl
    | succ k ih =>
      intro hk
      show fcn (updX (fun _ => (1000000000 : Int)) f 0) k + (if updX (fun _ => (1000000000 : Int)) f 0 k = 1000000000 then 0 else 1) = _
      rw [ih (by omega)]
      by_cases q : k = f
      · subst q
        rw [updX_eq, if_neg (by omega), if_neg (by decide), if_pos (by omega)]; rfl
      · rw [updX_ne q, if_pos rfl]
        by_cases q2 : f < k
        · rw [if_pos q2, if_pos (by omega)]; rfl
        · rw [if_neg q2, if_neg (by omega)]; rfl
  have hx : ∀ a, ¬ updX (fun _ => (1000000000 : Int)) f 0 a = 1000000000 → a = f := fun a h => by
    by_cases q : a = f
    · exact q
    · rw [updX_ne q] at h; exact absurd rfl h
  refine ⟨fun a _ h => ?_, fun a _ h => ?_, ?_, fun a ha => by show 0 < N; omega, .inl rfl⟩
  · have := hx a h
    subst this
    show Wk ls a a (updX (fun _ => (1000000000 : Int)) a 0 a)
    rw [updX_eq]; exact .nil
  · have := hx a h
    subst this
    show updX (fun _ => (1000000000 : Int)) a 0 a ≤ 20000 * (fcn (updX (fun _ => (1000000000 : Int)) a 0) N - 1)
    rw [updX_eq, hc N (Nat.le_refl _), if_pos hf]; decide
  · show updX (fun _ => (1000000000 : Int)) f 0 f ≤ 0
    rw [updX_eq]; decide

section
variable {X : FuncId → List Value → St → (Value → St → Bool) → Bool}

end
end Ev
end Go.Proofs.YtcpebhdbpkhhiaaGreat

/- Distances at their end; points within them. -/
namespace Go.Proofs.YtcpebhdbpkhhiaaGreat
open Go Go.RowKit
namespace Ev
/-- How far unknowns are from one, at the end. -/
structure Dd (ls : List (List Int)) (N f : Nat) (x : Nat → Int) : Prop where
  own : x f = 0
  way : ∀ a, a < N → ¬ x a = 1000000000 → Wk ls f a (x a)
  hi : ∀ a, a < N → x a = 1000000000 ∨ x a ≤ 1280000
  fix : ∀ i, i < ls.length → ¬ x (la ls i) = 1000000000 → ¬ x (lb ls i) = 1000000000 ∧ x (lb ls i) ≤ x (la ls i) + lw ls i
theorem dd_of {ls : List (List Int)} {M f : Nat} {s : Fs} {y : Nat → Int} (hl : lmB (M : Int) ls = true) (hM : M ≤ 64) (hf : f < M + 1) (hy : ∀ i, i < ls.length → y (lb ls i) ≤ y (la ls i) + lw ls i) (h : Dv ls (M + 1) f s) (he : (lwS ls (st0 s) (M + 1)).l = -1) : lwS ls (st0 s) (M + 1) = st0 s ∧ Dd ls (M + 1) f s.x := by
  obtain ⟨e, hc⟩ := lws_l (s := st0 s) hl he
  have hhi := fun a ha => h.hi (a := a) (by omega) ha
  have hff : ¬ s.x f = 1000000000 := by have := h.own; omega
  refine ⟨e, ⟨?_, h.way, hhi, fun i hi hfi => ?_⟩⟩
  · have h1 := (h.way f hf hff).pot hy
    have h2 := h.own
    omega
  · have hL := lim_of hl hi
    have h1 : s.x (lb ls i) ≤ s.x (la ls i) + lw ls i := hc (la ls i) hL.ha hfi i hi rfl
    have h2 := (hhi (la ls i) hL.ha).resolve_left hfi
    obtain ⟨u0, u1, y2, y3, e3, hc3⟩ := lm_row hl hi
    have e4 : ls.getD i [] = [(u0 : Int), (u1 : Int), y2, y3] := by rw [List.getD_eq_getElem?_getD, e3]; rfl
    have e5 : lw ls i = y2 := by unfold lw; rw [e4]; rfl
    exact ⟨by omega, h1⟩
theorem Dd.walk {ls : List (List Int)} {N f : Nat} {x : Nat → Int} (h : Dd ls N f x) {a b : Nat} {w : Int} (hw : Wk ls a b w) (ha : ¬ x a = 1000000000) : ¬ x b = 1000000000 ∧ x b ≤ x a + w := by
  induction hw with
  | nil => exact ⟨ha, by omega⟩
  | step hi _ ih =>
    obtain ⟨h1, h2⟩ := ih
    obtain ⟨h3, h4⟩ := h.fix _ hi h1
    exact ⟨h3, by omega⟩
/-- All distances. -/
def DT (ls : List (List Int)) (N : Nat) (D : Nat → Nat → Int) : Prop := ∀ f, f < N → Dd ls N f (D f)
theorem DT.tri {ls : List (List Int)} {N : Nat} {D : Nat → Nat → Int} (h : DT ls N D) {a b c : Nat} (ha : a < N) (hb : b < N) (hc : c < N) (h1 : ¬ D a b = 1000000000) (h2 : ¬ D b c = 1000000000) : ¬ D a c = 1000000000 ∧ D a c ≤ D a b + D b c := (h a ha).walk ((h b hb).way c hc h2) h1
/-- The first numbers of a point keep all distances between them. -/
def Pk (D : Nat → Nat → Int) (x : List Int) : Prop := ∀ i j, i < x.length → j < x.length → ¬ D i j = 1000000000 → x.getD j 0 - x.getD i 0 ≤ D i j
/-- What is left to the next number: below, above. -/
def Lo (D : Nat → Nat → Int) (x : List Int) (k : Nat) (lo : Int) : Prop := (lo = -1000000000 ∧ ∀ i, i < k → D x.length i = 1000000000) ∨ (∃ i, i < k ∧ ¬ D x.length i = 1000000000 ∧ lo = x.getD i 0 - D x.length i) ∧ ∀ i, i < k → ¬ D x.length i = 1000000000 → x.getD i 0 - D x.length i ≤ lo
def Hi (D : Nat → Nat → Int) (x : List Int) (k : Nat) (hi : Int) : Prop := (hi = 1000000000 ∧ ∀ i, i < k → D i x.length = 1000000000) ∨ (∃ i, i < k ∧ ¬ D i x.length = 1000000000 ∧ hi = x.getD i 0 + D i x.length) ∧ ∀ i, i < k → ¬ D i x.length = 1000000000 → hi ≤ x.getD i 0 + D i x.length
theorem Lo.zero {D : Nat → Nat → Int} {x : List Int} : Lo D x 0 (-1000000000) := .inl ⟨rfl, fun i hi => absurd hi (Nat.not_lt_zero i)⟩
theorem Hi.zero {D : Nat → Nat → Int} {x : List Int} : Hi D x 0 1000000000 := .inl ⟨rfl, fun i hi => absurd hi (Nat.not_lt_zero i)⟩
theorem Lo.skip {D : Nat → Nat → Int} {x : List Int} {k : Nat} {lo : Int} (h : Lo D x k lo) (hd : D x.length k = 1000000000) : Lo D x (k + 1) lo := by
  rcases h with ⟨h1, h2⟩ | ⟨⟨i, h1, h2, h3⟩, h4⟩
  · exact .inl ⟨h1, fun i hi => by by_cases e : i = k; · exact e ▸ hd
                                   · exact h2 i (by omega)⟩
  · exact .inr ⟨⟨i, by omega, h2, h3⟩, fun i hi hf => by by_cases e : i = k; · subst e; exact absurd hd hf
                                                         · exact h4 i (by omega) hf⟩
theorem Hi.skip {D : Nat → Nat → Int} {x : List Int} {k : Nat} {hi : Int} (h : Hi D x k hi) (hd : D k x.length = 1000000000) : Hi D x (k + 1) hi := by
  rcases h with ⟨h1, h2⟩ | ⟨⟨i, h1, h2, h3⟩, h4⟩
  · exact .inl ⟨h1, fun i hi => by by_cases e : i = k; · exact e ▸ hd
                                   · exact h2 i (by omega)⟩
  · exact .inr ⟨⟨i, by omega, h2, h3⟩, fun i hi hf => by by_cases e : i = k; · subst e; exact absurd hd hf
                                                         · exact h4 i (by omega) hf⟩
theorem Lo.put {D : Nat → Nat → Int} {x : List Int} {k : Nat} {lo : Int} (h : Lo D x k lo) (hd : ¬ D x.length k = 1000000000) (hb : -1000000000 ≤ x.getD k 0 - D x.length k) : Lo D x (k + 1) (max lo (x.getD k 0 - D x.length k)) := by
  rcases h with ⟨h1, h2⟩ | ⟨⟨i, h1, h2, h3⟩, h4⟩
  · refine .inr ⟨⟨k, by omega, hd, by omega⟩, fun i hi hf => ?_⟩
    by_cases e : i = k
    · subst e; omega
    · exact absurd (h2 i (by omega)) hf
  · refine .inr ⟨?_, fun i hi hf => ?_⟩
    · by_cases q : x.getD k 0 - D x.length k ≤ lo
      · exact ⟨i, by omega, h2, by omega⟩
      · exact ⟨k, by omega, hd, by omega⟩
    · by_cases e : i = k
      · subst e; omega
      · have := h4 i (by omega) hf; omega
theorem Hi.put {D : Nat → Nat → Int} {x : List Int} {k : Nat} {hi : Int} (h : Hi D x k hi) (hd : ¬ D k x.length = 1000000000) (hb : x.getD k 0 + D k x.length ≤ 1000000000) : Hi D x (k + 1) (min hi (x.getD k 0 + D k x.length)) := by
  rcases h with ⟨h1, h2⟩ | ⟨⟨i, h1, h2, h3⟩, h4⟩
  · refine .inr ⟨⟨k, by omega, hd, by omega⟩, fun i hi hf => ?_⟩
    by_cases e : i = k
    · subst e; omega
    · exact absurd (h2 i (by omega)) hf
  · refine .inr ⟨?_, fun i hi hf => ?_⟩
    · by_cases q : hi ≤ x.getD k 0 + D k x.length
      · exact ⟨i, by omega, h2, by omega⟩
      · exact ⟨k, by omega, hd, by omega⟩
    · by_cases e : i = k
      · subst e; omega
      · have := h4 i (by omega) hf; omega
/-- There is room. -/
theorem lo_hi {ls : List (List Int)} {N : Nat} {D : Nat → Nat → Int} {x : List Int} {lo hi : Int} (hD : DT ls N D) (hN : x.length < N) (hP : Pk D x) (h1 : Lo D x x.length lo) (h2 : Hi D x x.length hi) (hl : ¬ lo = -1000000000) (hh : ¬ hi = 1000000000) : lo ≤ hi := by
  rcases h1 with ⟨q, _⟩ | ⟨⟨i, a1, a2, a3⟩, _⟩
  · exact absurd q hl
  · rcases h2 with ⟨q, _⟩ | ⟨⟨j, b1, b2, b3⟩, _⟩
    · exact absurd q hh
    · obtain ⟨t1, t2⟩ := hD.tri (a := j) (b := x.length) (c := i) (by omega) hN (by omega) b2 a2
      have := hP j i b1 a1 t1
      omega
/-- A number within the room may be put behind. -/
theorem Pk.add {ls : List (List Int)} {N : Nat} {D : Nat → Nat → Int} {x : List Int} {lo hi z : Int} (hD : DT ls N D) (hN : x.length < N) (hP : Pk D x) (h1 : Lo D x x.length lo) (h2 : Hi D x x.length hi) (hz : (lo = -1000000000 ∨ lo ≤ z) ∧ (hi = 1000000000 ∨ z ≤ hi)) (hlo : ∀ i, i < x.length → ¬ D x.length i = 1000000000 → ¬ x.getD i 0 - D x.length i ≤ -1000000000) (hhi : ∀ i, i < x.length → ¬ D i x.length = 1000000000 → ¬ 1000000000 ≤ x.getD i 0 + D i x.length) : Pk D (x ++ [z]) := by
  have g1 : ∀ i, i < x.length → (x ++ [z]).getD i 0 = x.getD i 0 := fun i hi => by rw [List.getD_eq_getElem?_getD, List.getElem?_append_left hi, ← List.getD_eq_getElem?_getD]
  have g2 : (x ++ [z]).getD x.length 0 = z := by rw [List.getD_eq_getElem?_getD, List.getElem?_append_right (Nat.le_refl _)]; simp
  intro i j hi' hj' hf
  rw [List.length_append] at hi' hj'
  have hi' : i < x.length + 1 := hi'
  have hj' : j < x.length + 1 := hj'
  by_cases q1 : i = x.length
  · subst q1
    rw [g2]
    by_cases q2 : j = x.length
    · rw [q2, g2]
      have := (hD x.length hN).own
      omega
    · rw [g1 j (by omega)]
      rcases h1 with ⟨a, b⟩ | ⟨_, b⟩
      · exact absurd (b j (by omega)) hf
      · have h3 := b j (by omega) hf
        have h4 := hlo j (by omega) hf
        rcases hz.1 with q | q <;> omega
  · rw [g1 i (by omega)]
    by_cases q2 : j = x.length
    · subst q2
      rw [g2]
      rcases h2 with ⟨a, b⟩ | ⟨_, b⟩
      · exact absurd (b i (by omega)) hf
      · have h3 := b i (by omega) hf
        have h4 := hhi i (by omega) hf
        rcases hz.2 with q | q <;> omega
    · rw [g1 j (by omega)]
      exact hP i j (by omega) (by omega) hf
/-- A point that keeps all distances keeps all limits. -/
theorem Pk.kept {ls : List (List Int)} {M : Nat} {D : Nat → Nat → Int} {x : List Int} (hl : lmB (M : Int) ls = true) (hD : DT ls (M + 1) D) (hx : x.length = M + 1) (hP : Pk D x) : kpB x ls = true := by
  have key : ∀ d k, k + d = ls.length → kpB x (ls.drop k) = true := by
    intro d
    induction d with
    | zero => intro k hk; rw [List.drop_eq_nil_of_le (by omega)]; rfl
    | succ d ih =>
      intro k hk
      have hL := lim_of hl (show k < ls.length by omega)
      obtain ⟨y3, e⟩ := hL.row
      rw [kp_step e, ih (k + 1) (by omega), Bool.and_true, Int.toNat_natCast, Int.toNat_natCast]
      refine decide_eq_true ?_
      have h1 := (hD (la ls k) hL.ha).own
      obtain ⟨h2, h3⟩ := (hD (la ls k) hL.ha).fix k (by omega) (by omega)
      have := hP (la ls k) (lb ls k) (by rw [hx]; exact hL.ha) (by rw [hx]; exact hL.hb) h2
      omega
  exact key ls.length 0 (by omega)

section
variable {X : FuncId → List Value → St → (Value → St → Bool) → Bool}

end
end Ev
end Go.Proofs.YtcpebhdbpkhhiaaGreat

/- Contract: a row of one number, repeated. -/
namespace Go.Proofs.YtcpebhdbpkhhiaaGreat
open Go Go.RowKit
namespace Ev
set_option maxRecDepth 100000
theorem u_and : ∀ m : Nat, m ≤ 65 → evBin Tryz.prog .and 105 0 (.int .u64 (m : Int)) (.int .u64 4294967295) = some (.int .u64 (m : Int))
  | 0, _ => by kernel_rfl
  | 1, _ => by kernel_rfl
  | 2, _ => by kernel_rfl
  | 3, _ => by kernel_rfl
  | 4, _ => by kernel_rfl
  | 5, _ => by kernel_rfl
  | 6, _ => by kernel_rfl
  | 7, _ => by kernel_rfl
  | 8, _ => by kernel_rfl
  | 9, _ => by kernel_rfl
  | 10, _ => by kernel_rfl
  | 11, _ => by kernel_rfl
  | 12, _ => by kernel_rfl
  | 13, _ => by kernel_rfl
  | 14, _ => by kernel_rfl
  | 15, _ => by kernel_rfl
  | 16, _ => by kernel_rfl
  | 17, _ => by kernel_rfl
  | 18, _ => by kernel_rfl
  | 19, _ => by kernel_rfl
  | 20, _ => by kernel_rfl
  | 21, _ => by kernel_rfl
  | 22, _ => by kernel_rfl
  | 23, _ => by kernel_rfl
  | 24, _ => by kernel_rfl
  | 25, _ => by kernel_rfl
  | 26, _ => by kernel_rfl
  | 27, _ => by kernel_rfl
  | 28, _ => by kernel_rfl
  | 29, _ => by kernel_rfl
  | 30, _ => by kernel_rfl
  | 31, _ => by kernel_rfl
  | 32, _ => by kernel_rfl
  | 33, _ => by kernel_rfl
  | 34, _ => by kernel_rfl
  | 35, _ => by kernel_rfl
  | 36, _ => by kernel_rfl
  | 37, _ => by kernel_rfl
  | 38, _ => by kernel_rfl
  | 39, _ => by kernel_rfl
  | 40, _ => by kernel_rfl
  | 41, _ => by kernel_rfl
  | 42, _ => by kernel_rfl
  | 43, _ => by kernel_rfl
  | 44, _ => by kernel_rfl
  | 45, _ => by kernel_rfl
  | 46, _ => by kernel_rfl
  | 47, _ => by kernel_rfl
  | 48, _ => by kernel_rfl
  | 49, _ => by kernel_rfl
  | 50, _ => by kernel_rfl
  | 51, _ => by kernel_rfl
  | 52, _ => by kernel_rfl
  | 53, _ => by kernel_rfl
  | 54, _ => by kernel_rfl
  | 55, _ => by kernel_rfl
  | 56, _ => by kernel_rfl
  | 57, _ => by kernel_rfl
  | 58, _ => by kernel_rfl
  | 59, _ => by kernel_rfl
  | 60, _ => by kernel_rfl
  | 61, _ => by kernel_rfl
  | 62, _ => by kernel_rfl
  | 63, _ => by kernel_rfl
  | 64, _ => by kernel_rfl
  | 65, _ => by kernel_rfl
  | n + 66, h => absurd h (by omega)
theorem u_shr : ∀ m : Nat, m ≤ 65 → evBin Tryz.prog .shr 105 0 (.int .u64 (m : Int)) (.int .u64 32) = some (.int .u64 0)
  | 0, _ => by kernel_rfl
  | 1, _ => by kernel_rfl
  | 2, _ => by kernel_rfl
  | 3, _ => by kernel_rfl
  | 4, _ => by kernel_rfl
  | 5, _ => by kernel_rfl
  | 6, _ => by kernel_rfl
  | 7, _ => by kernel_rfl
  | 8, _ => by kernel_rfl
  | 9, _ => by kernel_rfl
  | 10, _ => by kernel_rfl
  | 11, _ => by kernel_rfl
  | 12, _ => by kernel_rfl
  | 13, _ => by kernel_rfl
  | 14, _ => by kernel_rfl
  | 15, _ => by kernel_rfl
  | 16, _ => by kernel_rfl
  | 17, _ => by kernel_rfl
  | 18, _ => by kernel_rfl
  | 19, _ => by kernel_rfl
  | 20, _ => by kernel_rfl
  | 21, _ => by kernel_rfl
  | 22, _ => by kernel_rfl
  | 23, _ => by kernel_rfl
  | 24, _ => by kernel_rfl
  | 25, _ => by kernel_rfl
  | 26, _ => by kernel_rfl
  | 27, _ => by kernel_rfl
  | 28, _ => by kernel_rfl
  | 29, _ => by kernel_rfl
  | 30, _ => by kernel_rfl
  | 31, _ => by kernel_rfl
  | 32, _ => by kernel_rfl
  | 33, _ => by kernel_rfl
  | 34, _ => by kernel_rfl
  | 35, _ => by kernel_rfl
  | 36, _ => by kernel_rfl
  | 37, _ => by kernel_rfl
  | 38, _ => by kernel_rfl
  | 39, _ => by kernel_rfl
  | 40, _ => by kernel_rfl
  | 41, _ => by kernel_rfl
  | 42, _ => by kernel_rfl
  | 43, _ => by kernel_rfl
  | 44, _ => by kernel_rfl
  | 45, _ => by kernel_rfl
  | 46, _ => by kernel_rfl
  | 47, _ => by kernel_rfl
  | 48, _ => by kernel_rfl
  | 49, _ => by kernel_rfl
  | 50, _ => by kernel_rfl
  | 51, _ => by kernel_rfl
  | 52, _ => by kernel_rfl
  | 53, _ => by kernel_rfl
  | 54, _ => by kernel_rfl
  | 55, _ => by kernel_rfl
  | 56, _ => by kernel_rfl
  | 57, _ => by kernel_rfl
  | 58, _ => by kernel_rfl
  | 59, _ => by kernel_rfl
  | 60, _ => by kernel_rfl
  | 61, _ => by kernel_rfl
  | 62, _ => by kernel_rfl
  | 63, _ => by kernel_rfl
  | 64, _ => by kernel_rfl
  | 65, _ => by kernel_rfl
  | n + 66, h => absurd h (by omega)
theorem u_mul1 : ∀ m : Nat, m ≤ 65 → evBin Tryz.prog .mul 105 0 (.int .u64 1) (.int .u64 (m : Int)) = some (.int .u64 (m : Int))
  | 0, _ => by kernel_rfl
  | 1, _ => by kernel_rfl
  | 2, _ => by kernel_rfl
  | 3, _ => by kernel_rfl
  | 4, _ => by kernel_rfl
  | 5, _ => by kernel_rfl
  | 6, _ => by kernel_rfl
  | 7, _ => by kernel_rfl
  | 8, _ => by kernel_rfl
  | 9, _ => by kernel_rfl
  | 10, _ => by kernel_rfl
  | 11, _ => by kernel_rfl
  | 12, _ => by kernel_rfl
  | 13, _ => by kernel_rfl
  | 14, _ => by kernel_rfl
  | 15, _ => by kernel_rfl
  | 16, _ => by kernel_rfl
  | 17, _ => by kernel_rfl
  | 18, _ => by kernel_rfl
  | 19, _ => by kernel_rfl
  | 20, _ => by kernel_rfl
  | 21, _ => by kernel_rfl
  | 22, _ => by kernel_rfl
  | 23, _ => by kernel_rfl
  | 24, _ => by kernel_rfl
  | 25, _ => by kernel_rfl
  | 26, _ => by kernel_rfl
  | 27, _ => by kernel_rfl
  | 28, _ => by kernel_rfl
  | 29, _ => by kernel_rfl
  | 30, _ => by kernel_rfl
  | 31, _ => by kernel_rfl
  | 32, _ => by kernel_rfl
  | 33, _ => by kernel_rfl
  | 34, _ => by kernel_rfl
  | 35, _ => by kernel_rfl
  | 36, _ => by kernel_rfl
  | 37, _ => by kernel_rfl
  | 38, _ => by kernel_rfl
  | 39, _ => by kernel_rfl
  | 40, _ => by kernel_rfl
  | 41, _ => by kernel_rfl
  | 42, _ => by kernel_rfl
  | 43, _ => by kernel_rfl
  | 44, _ => by kernel_rfl
  | 45, _ => by kernel_rfl
  | 46, _ => by kernel_rfl
  | 47, _ => by kernel_rfl
  | 48, _ => by kernel_rfl
  | 49, _ => by kernel_rfl
  | 50, _ => by kernel_rfl
  | 51, _ => by kernel_rfl
  | 52, _ => by kernel_rfl
  | 53, _ => by kernel_rfl
  | 54, _ => by kernel_rfl
  | 55, _ => by kernel_rfl
  | 56, _ => by kernel_rfl
  | 57, _ => by kernel_rfl
  | 58, _ => by kernel_rfl
  | 59, _ => by kernel_rfl
  | 60, _ => by kernel_rfl
  | 61, _ => by kernel_rfl
  | 62, _ => by kernel_rfl
  | 63, _ => by kernel_rfl
  | 64, _ => by kernel_rfl
  | 65, _ => by kernel_rfl
  | n + 66, h => absurd h (by omega)
theorem u_mul0 : ∀ m : Nat, m ≤ 65 → evBin Tryz.prog .mul 105 0 (.int .u64 0) (.int .u64 (m : Int)) = some (.int .u64 0)
  | 0, _ => by kernel_rfl
  | 1, _ => by kernel_rfl
  | 2, _ => by kernel_rfl
  | 3, _ => by kernel_rfl
  | 4, _ => by kernel_rfl
  | 5, _ => by kernel_rfl
  | 6, _ => by kernel_rfl
  | 7, _ => by kernel_rfl
  | 8, _ => by kernel_rfl
  | 9, _ => by kernel_rfl
  | 10, _ => by kernel_rfl
  | 11, _ => by kernel_rfl
  | 12, _ => by kernel_rfl
  | 13, _ => by kernel_rfl
  | 14, _ => by kernel_rfl
  | 15, _ => by kernel_rfl
  | 16, _ => by kernel_rfl
  | 17, _ => by kernel_rfl
  | 18, _ => by kernel_rfl
  | 19, _ => by kernel_rfl
  | 20, _ => by kernel_rfl
  | 21, _ => by kernel_rfl
  | 22, _ => by kernel_rfl
  | 23, _ => by kernel_rfl
  | 24, _ => by kernel_rfl
  | 25, _ => by kernel_rfl
  | 26, _ => by kernel_rfl
  | 27, _ => by kernel_rfl
  | 28, _ => by kernel_rfl
  | 29, _ => by kernel_rfl
  | 30, _ => by kernel_rfl
  | 31, _ => by kernel_rfl
  | 32, _ => by kernel_rfl
  | 33, _ => by kernel_rfl
  | 34, _ => by kernel_rfl
  | 35, _ => by kernel_rfl
  | 36, _ => by kernel_rfl
  | 37, _ => by kernel_rfl
  | 38, _ => by kernel_rfl
  | 39, _ => by kernel_rfl
  | 40, _ => by kernel_rfl
  | 41, _ => by kernel_rfl
  | 42, _ => by kernel_rfl
  | 43, _ => by kernel_rfl
  | 44, _ => by kernel_rfl
  | 45, _ => by kernel_rfl
  | 46, _ => by kernel_rfl
  | 47, _ => by kernel_rfl
  | 48, _ => by kernel_rfl
  | 49, _ => by kernel_rfl
  | 50, _ => by kernel_rfl
  | 51, _ => by kernel_rfl
  | 52, _ => by kernel_rfl
  | 53, _ => by kernel_rfl
  | 54, _ => by kernel_rfl
  | 55, _ => by kernel_rfl
  | 56, _ => by kernel_rfl
  | 57, _ => by kernel_rfl
  | 58, _ => by kernel_rfl
  | 59, _ => by kernel_rfl
  | 60, _ => by kernel_rfl
  | 61, _ => by kernel_rfl
  | 62, _ => by kernel_rfl
  | 63, _ => by kernel_rfl
  | 64, _ => by kernel_rfl
  | 65, _ => by kernel_rfl
  | n + 66, h => absurd h (by omega)
theorem u_conv : ∀ m : Nat, m ≤ 65 → ev1 Tryz.prog (convert 3 86) (.int .i64 (m : Int)) = some (.int .u64 (m : Int))
  | 0, _ => by kernel_rfl
  | 1, _ => by kernel_rfl
  | 2, _ => by kernel_rfl
  | 3, _ => by kernel_rfl
  | 4, _ => by kernel_rfl
  | 5, _ => by kernel_rfl
  | 6, _ => by kernel_rfl
  | 7, _ => by kernel_rfl
  | 8, _ => by kernel_rfl
  | 9, _ => by kernel_rfl
  | 10, _ => by kernel_rfl
  | 11, _ => by kernel_rfl
  | 12, _ => by kernel_rfl
  | 13, _ => by kernel_rfl
  | 14, _ => by kernel_rfl
  | 15, _ => by kernel_rfl
  | 16, _ => by kernel_rfl
  | 17, _ => by kernel_rfl
  | 18, _ => by kernel_rfl
  | 19, _ => by kernel_rfl
  | 20, _ => by kernel_rfl
  | 21, _ => by kernel_rfl
  | 22, _ => by kernel_rfl
  | 23, _ => by kernel_rfl
  | 24, _ => by kernel_rfl
  | 25, _ => by kernel_rfl
  | 26, _ => by kernel_rfl
  | 27, _ => by kernel_rfl
  | 28, _ => by kernel_rfl
  | 29, _ => by kernel_rfl
  | 30, _ => by kernel_rfl
  | 31, _ => by kernel_rfl
  | 32, _ => by kernel_rfl
  | 33, _ => by kernel_rfl
  | 34, _ => by kernel_rfl
  | 35, _ => by kernel_rfl
  | 36, _ => by kernel_rfl
  | 37, _ => by kernel_rfl
  | 38, _ => by kernel_rfl
  | 39, _ => by kernel_rfl
  | 40, _ => by kernel_rfl
  | 41, _ => by kernel_rfl
  | 42, _ => by kernel_rfl
  | 43, _ => by kernel_rfl
  | 44, _ => by kernel_rfl
  | 45, _ => by kernel_rfl
  | 46, _ => by kernel_rfl
  | 47, _ => by kernel_rfl
  | 48, _ => by kernel_rfl
  | 49, _ => by kernel_rfl
  | 50, _ => by kernel_rfl
  | 51, _ => by kernel_rfl
  | 52, _ => by kernel_rfl
  | 53, _ => by kernel_rfl
  | 54, _ => by kernel_rfl
  | 55, _ => by kernel_rfl
  | 56, _ => by kernel_rfl
  | 57, _ => by kernel_rfl
  | 58, _ => by kernel_rfl
  | 59, _ => by kernel_rfl
  | 60, _ => by kernel_rfl
  | 61, _ => by kernel_rfl
  | 62, _ => by kernel_rfl
  | 63, _ => by kernel_rfl
  | 64, _ => by kernel_rfl
  | 65, _ => by kernel_rfl
  | n + 66, h => absurd h (by omega)
theorem i_conv : ∀ m : Nat, m ≤ 65 → ev1 Tryz.prog (convert 86 3) (.int .u64 (m : Int)) = some (.int .i64 (m : Int))
  | 0, _ => by kernel_rfl
  | 1, _ => by kernel_rfl
  | 2, _ => by kernel_rfl
  | 3, _ => by kernel_rfl
  | 4, _ => by kernel_rfl
  | 5, _ => by kernel_rfl
  | 6, _ => by kernel_rfl
  | 7, _ => by kernel_rfl
  | 8, _ => by kernel_rfl
  | 9, _ => by kernel_rfl
  | 10, _ => by kernel_rfl
  | 11, _ => by kernel_rfl
  | 12, _ => by kernel_rfl
  | 13, _ => by kernel_rfl
  | 14, _ => by kernel_rfl
  | 15, _ => by kernel_rfl
  | 16, _ => by kernel_rfl
  | 17, _ => by kernel_rfl
  | 18, _ => by kernel_rfl
  | 19, _ => by kernel_rfl
  | 20, _ => by kernel_rfl
  | 21, _ => by kernel_rfl
  | 22, _ => by kernel_rfl
  | 23, _ => by kernel_rfl
  | 24, _ => by kernel_rfl
  | 25, _ => by kernel_rfl
  | 26, _ => by kernel_rfl
  | 27, _ => by kernel_rfl
  | 28, _ => by kernel_rfl
  | 29, _ => by kernel_rfl
  | 30, _ => by kernel_rfl
  | 31, _ => by kernel_rfl
  | 32, _ => by kernel_rfl
  | 33, _ => by kernel_rfl
  | 34, _ => by kernel_rfl
  | 35, _ => by kernel_rfl
  | 36, _ => by kernel_rfl
  | 37, _ => by kernel_rfl
  | 38, _ => by kernel_rfl
  | 39, _ => by kernel_rfl
  | 40, _ => by kernel_rfl
  | 41, _ => by kernel_rfl
  | 42, _ => by kernel_rfl
  | 43, _ => by kernel_rfl
  | 44, _ => by kernel_rfl
  | 45, _ => by kernel_rfl
  | 46, _ => by kernel_rfl
  | 47, _ => by kernel_rfl
  | 48, _ => by kernel_rfl
  | 49, _ => by kernel_rfl
  | 50, _ => by kernel_rfl
  | 51, _ => by kernel_rfl
  | 52, _ => by kernel_rfl
  | 53, _ => by kernel_rfl
  | 54, _ => by kernel_rfl
  | 55, _ => by kernel_rfl
  | 56, _ => by kernel_rfl
  | 57, _ => by kernel_rfl
  | 58, _ => by kernel_rfl
  | 59, _ => by kernel_rfl
  | 60, _ => by kernel_rfl
  | 61, _ => by kernel_rfl
  | 62, _ => by kernel_rfl
  | 63, _ => by kernel_rfl
  | 64, _ => by kernel_rfl
  | 65, _ => by kernel_rfl
  | n + 66, h => absurd h (by omega)
/-- A row whose first numbers have been laid. -/
def rr (z : Int) (m k : Nat) : List Int := List.replicate k z ++ List.replicate (m - k) 0
theorem rr_len {z : Int} {m k : Nat} (h : k ≤ m) : (rr z m k).length = m := by simp [rr]; omega
theorem rr_all {z : Int} {m : Nat} : rr z m m = List.replicate m z := by simp [rr]
theorem rr_step {z : Int} {m k j : Nat} (h : k + j ≤ m) : over (ints (rr z m k)) k (ints (List.replicate j z)) = ints (rr z m (k + j)) := by
  unfold over ints rr
  rw [← List.map_take, ← List.map_drop, ← List.map_append, ← List.map_append]
  congr 1
  rw [List.length_map, List.length_replicate, List.take_left' (by simp), List.drop_append, List.drop_eq_nil_of_le (by simp), List.nil_append, List.drop_replicate, List.length_replicate, ← List.replicate_append_replicate]
  rw [show m - k - (k + j - k) = m - (k + j) by omega]
theorem rr_zero {z : Int} {m : Nat} : List.replicate m 0 = rr z m 0 := by simp [rr]
theorem seg_some {l : List Value} {j : Nat} (h : j ≤ l.length) : ∀ {i : Nat}, i + j ≤ l.length → segL l i j = some ((l.drop i).take j) := by
  induction j with
  | zero => intro i _; simp [segL]
  | succ j ih =>
    intro i hi
    have h1 : i < l.length := by omega
    unfold segL
    rw [List.getElem?_eq_getElem h1, ih (by omega) (i := i + 1) (by omega), List.drop_eq_getElem_cons h1]
    rfl
theorem rr_seg {z : Int} {m k j : Nat} (hj : j ≤ k) (hk : k ≤ m) : segL (ints (rr z m k)) 0 (ints (List.replicate j z)).length = some (ints (List.replicate j z)) := by
  rw [ints_len, List.length_replicate, seg_some (by rw [ints_len, rr_len hk]; omega) (by rw [ints_len, rr_len hk]; omega)]
  unfold ints rr
  rw [List.drop_zero, ← List.map_take, List.take_append_of_le_length (by simpa using hj), List.take_replicate, Nat.min_eq_left hj]

section
variable {X : FuncId → List Value → St → (Value → St → Bool) → Bool}
theorem Mul64_s (n : Nat) (m : Nat) (s : St) (hs : Wf s) (hm : m ≤ 65) : Spec Tryz.prog (tabK tabw) X (n + 100) 86 [.int .u64 1, .int .u64 (m : Int)] s (fun v A => v = .tuple #[.int .u64 0, .int .u64 (m : Int)] ∧ A = []) := by
 refine enter bw86_at rfl hs ?_
 unfold bw86
 refine rS (kM rfl rfl (kM rfl rfl (i_nil (rS (kM rfl rfl (kO rfl (a_bin (r := .int .u64 1) rfl rfl (by kernel_rfl) (kM rfl rfl (i_nil (rS (kM rfl rfl (kO rfl (a_bin (r := .int .u64 0) rfl rfl (by kernel_rfl) (kM rfl rfl (i_nil (rS (kM rfl rfl (kO rfl (a_bin rfl rfl (u_and m hm) (kM rfl rfl (i_nil (rS (kM rfl rfl (kO rfl (a_bin rfl rfl (u_shr m hm) (kM rfl rfl (i_nil ?_)))))))))))))))))))))))))))
 refine rS (kM rfl rfl (kM rfl rfl (kO rfl (a_bin rfl rfl (u_mul1 m hm) (kM rfl rfl (i_nil (rS (kM rfl rfl (kM rfl rfl (kO rfl (a_bin rfl rfl (u_mul0 m hm) (kM rfl rfl (kO rfl (a_bin rfl rfl (u_shr m hm) (kO rfl (a_bin (r := .int .u64 0) rfl rfl (by kernel_rfl) (kM rfl rfl (i_nil (rS (kM rfl rfl (kO rfl (a_bin (r := .int .u64 0) rfl rfl (by kernel_rfl) (kM rfl rfl (i_nil (rS (kM rfl rfl (kO rfl (a_bin (r := .int .u64 0) rfl rfl (by kernel_rfl) (kM rfl rfl ?_)))))))))))))))))))))))))))))
 refine i_nil (rS (kM rfl rfl (kM rfl rfl (kM rfl rfl (kO rfl (a_bin (r := .int .u64 0) rfl rfl (by kernel_rfl) (kO rfl (a_bin (r := .int .u64 0) rfl rfl (by kernel_rfl) (kM rfl rfl (i_nil (rS (kM rfl rfl (kM rfl rfl (kO rfl (a_bin (r := .int .u64 0) rfl rfl (by kernel_rfl) (kM rfl rfl (kO rfl (a_bin (r := .int .u64 0) rfl rfl (by kernel_rfl) (kM rfl rfl (kO rfl (a_bin (r := .int .u64 0) rfl rfl (by kernel_rfl) (kO rfl (a_bin (r := .int .u64 0) rfl rfl (by kernel_rfl) (kM rfl rfl (i_nil (rS (kM rfl rfl (kM rfl rfl (kO rfl (a_bin rfl rfl (u_mul1 m hm) ?_))))))))))))))))))))))))))))))
 refine kM rfl rfl (i_nil (r_ret ?_))
 exact end2 rfl rfl ⟨rfl, rfl⟩

theorem Mul_s (n : Nat) (m : Nat) (s : St) (hs : Wf s) (hm : m ≤ 65) : Spec Tryz.prog (tabK tabw) X (n + 150) 68 [.int .u64 1, .int .u64 (m : Int)] s (fun v A => v = .tuple #[.int .u64 0, .int .u64 (m : Int)] ∧ A = []) := by
 refine enter bw68_at rfl hs ?_
 unfold bw68
 refine rS (kM rfl rfl (kM rfl rfl (i_nil (rQ (r_cond_f rfl (r_skip (then_n (rS (kM rfl rfl (kM rfl rfl (kO rfl (a_callV rfl rfl (fun s1 h1 => Mul64_s _ m s1 h1.wf (by omega)) (kM rfl rfl (kO rfl (a_ext rfl rfl (kO rfl (a_ext rfl rfl (kM rfl rfl (kM rfl rfl (i_nil (rS (kM rfl rfl (kM rfl rfl (kM rfl rfl (kM rfl rfl (i_nil ?_))))))))))))))))))))))))))
 refine r_ret ?_
 exact end2 rfl rfl ⟨rfl, rfl⟩

theorem Repeat_s (n : Nat) (b0 : Nat) (z : Int) (m : Nat) (s : St) (hs : Wf s) (hn : 281474976710656 ≤ n) (hz : Ats s b0 0 [.int .i64 z]) (hm : 1 ≤ m ∧ m ≤ 65) : Spec Tryz.prog (tabK tabw) X (n + 500) 44 [.slice (some ⟨b0, 0, none⟩) 1 1, .int .i64 (m : Int)] s (fun v A => ∃ b, v = .slice (some ⟨b, 0, none⟩) m m ∧ A = [.row b 3 false (ints (List.replicate m z))]) := by
 refine enter bw44_at rfl hs ?_
 unfold bw44
 refine rS (kM rfl rfl (i_nil (rQ (rS (kM rfl rfl (kO rfl (a_lss rfl rfl (fun h1 => ?_) (fun h1 => ?_))))))))
 ·exfalso; omega
 ·refine i_nil (r_cond_f rfl (r_skip (then_n (rS (kM rfl rfl (kO rfl (a_lenx rfl (fun b hb => by cases hb; rfl) (kO rfl (a_conv (r := .int .u64 1) rfl (by kernel_rfl) (kM rfl rfl (kO rfl (a_conv rfl (u_conv m (by omega)) (kO rfl (a_callV rfl rfl (fun s1 h1 => Mul_s _ m s1 h1.wf (by omega)) (kM rfl rfl (kO rfl (a_ext rfl rfl (kO rfl (a_ext rfl rfl (kM rfl rfl (kM rfl rfl (i_nil (rQ (rS (kM rfl rfl (kO rfl (a_gtr rfl rfl (fun h => absurd h (by decide)) (fun _ => (kM rfl rfl (kG rfl rfl (a_mov rfl (kG rfl rfl (a_gtr rfl rfl (fun h3 => ?_) (fun h3 => ?_))))))))))))))))))))))))))))))))))
  ·exfalso; omega
  ·refine kO rfl (a_pick_f rfl rfl rfl (i_nil (r_cond_f rfl (r_skip (then_n (rS (kM rfl rfl (kO rfl (a_conv rfl (i_conv m (by omega)) (kO rfl (a_mksI (m := m) (c := m) rfl rfl (by omega) (by omega) (by omega) (fun b4 => (kM rfl rfl (i_nil (rS (kM rfl rfl (kM rfl rfl ?_)))))))))))))))))
   rw [rr_zero (z := z)]
   refine kO rfl (a_copy1 (j := 1) (more := ints (List.replicate 1 z)) (off := 0) rfl rfl (by rw [if_pos (by omega)]) (by decide) (by simp [ints]) (.inr hz) .here (by rw [ints_len, rr_len (Nat.zero_le _)]; omega) ?_)
   rw [show over (ints (rr z m 0)) 0 (ints (List.replicate 1 z)) = ints (rr z m 1) from rr_step (by omega)]
   refine kM rfl rfl (i_nil (rQ (r_block (r_loop (fun j e A => ∃ (k : Nat), e = [(7, .slice (some ⟨b4, 0, none⟩) m m), (8, .int .i64 (k : Int))] ∧ A = (.row b4 3 false (ints (rr z m k)) :: []) ∧ j = m - k ∧ k ≤ m ∧ 1 ≤ k) 100 0 281474976710656 ?_ (j := _) (env2 := _) (A2 := _) ?_ ?_ ?_ ?_ ⟨1, rfl, rfl, rfl, (by omega), (Nat.le_refl _)⟩))))
   rotate_left
   ·omega
   ·omega
   ·exact (lc 7 rfl (lc 8 rfl Less.nil))
   ·exact (.cons_cons _ .slnil)
   rintro n hn j _ _ ⟨k, rfl, rfl, rfl, hk, hk1⟩
   have hmn : min k (m - k) ≤ k := by omega
   have hmn2 : k + min k (m - k) ≤ m := by omega
   refine rQ (rS (kM rfl rfl (kM rfl rfl (kO rfl (a_len rfl (kO rfl (a_lss rfl rfl (fun h5 => ?_) (fun h5 => ?_))))))))
   ·refine i_nil (r_cond_t rfl (r_skip (then_n (r_block (rI (kM rfl rfl (kM rfl rfl (kM rfl rfl (kO rfl (a_slcF (l := k) rfl rfl rfl (by omega) (Nat.le_refl _) (by omega) (by show m < 18446744073709551616; omega) (kM rfl rfl (kM rfl rfl (kO rfl (a_slcT (h := k) rfl rfl rfl (by omega) (by show m < 18446744073709551616; omega) (kO rfl (a_copy1 (j := min k (m - k)) (more := ints (List.replicate (min k (m - k)) z)) rfl rfl (by rw [Nat.min_def]) (by omega) (by simp [ints]) (.inl ⟨_, _, _, .here, rr_seg hmn hk⟩) .here (by rw [ints_len, rr_len hk]; omega) (kO rfl (a_add rfl rfl (by omega) (kM rfl rfl (i_nil (block_n (then_n ?_))))))))))))))))))))))
    exact ⟨rfl, _, _, _, (show m - (k + min k (m - k)) < m - k by omega), (lc 7 rfl (lc 8 rfl Less.nil)), (.cons_cons _ .slnil), ⟨k + min k (m - k), rfl, (by rw [Nat.zero_add, Nat.mul_one, rr_step hmn2]), rfl, by omega, by omega⟩⟩
   ·refine i_nil (r_cond_f rfl (r_exit (then_e (then_e (block_hit (then_n (rS (kM rfl rfl (kM rfl rfl (i_nil (r_ret ?_)))))))))))
    have hkm : k = m := by omega
    subst hkm
    rw [rr_all]
    exact end1A rfl (.cons_cons _ .slnil) ⟨_, rfl, rfl⟩

end
end Ev
end Go.Proofs.YtcpebhdbpkhhiaaGreat
