import Derived.Test.YtfhfjcfhanmbiaaGreatZb09
set_option linter.unusedVariables false
set_option linter.unusedSimpArgs false
/- Contract: the limits of a survey, by the reference. -/
namespace Go.Proofs.YtfhfjcfhanmbiaaGreat
open Go Go.RowKit
namespace Ev
theorem num_eq (n i k : Nat) : 1 + (i : Int) * (n : Int) + (k : Int) = ((n * i + k : Nat) : Int) + 1 := by
  simp only [Int.natCast_add, Int.natCast_mul]
  rw [Int.mul_comm]; omega
theorem acc_tail {X : List (List Int)} {f : Nat → List (List Int)} {t : Nat} : ∀ {n : Nat}, (∀ k, k < n → f (t + k) = []) → acc X f (t + n) = acc X f t
  | 0, _ => rfl
  | n + 1, h => by
    show acc X f (t + n) ++ f (t + n) = _
    rw [h n (by omega), List.append_nil, acc_tail (fun k hk => h k (by omega))]
theorem idxI_mem {L : List (List Int)} {x : List Int} (h : x ∈ L) : idxI L x = (ixN x L : Int) := if_pos h
theorem prt_mk {sp : Prop} [Decidable sp] {l1 l2 : List Int} {rs cs : List (List Int)} (h1 : sp) (h2 : ¬ (60 < (rs.length : Int) ∨ 20 < (cs.length : Int))) (h3 : rdB (l1.length : Int) (l2.length : Int) rs = true) (h4 : cpB cs = true) : prt sp l1 l2 rs cs = 0 := by
  unfold prt
  rw [if_pos h1, if_neg h2, if_pos h3, if_pos h4]
namespace Sv
variable {y : Sv}
theorem b2_end {i : Nat} (h : i + 1 = y.l1.length) : acc y.b1 y.q2 (y.l2.length * i) = y.b2 := by
  show _ = acc y.b1 y.q2 (y.l2.length * y.l1.length)
  rw [← h, Nat.mul_add, Nat.mul_one]
  exact (acc_tail (fun k hk => q2_no hk (by omega))).symm
theorem q3_end {i k : Nat} (h : k + 1 = y.l2.length) : acc y.b2 y.q3 (y.l2.length * (i + 1)) = acc y.b2 y.q3 (y.l2.length * i + k) := by
  rw [Nat.mul_add, Nat.mul_one]
  have e : y.l2.length * i + y.l2.length = y.l2.length * i + (k + 1) := by omega
  rw [e]
  exact acc_nor (q3_no (by omega) (by omega))
end Sv

section
variable {X : FuncId → List Value → St → (Value → St → Bool) → Bool}
set_option maxHeartbeats 4000000 in
theorem limits_s (n : Nat) (d r al up : Int) (a1 a2 : Option Addr) (c1 c2 : Nat) (l1 l2 : List Int) (a3 a4 : Option Addr) (c3 c4 : Nat) (rs cs : List (List Int)) (s : St) (hs : Wf s) (hn : 2814749767106560 ≤ n) (hl1 : IntsE s a1 l1) (hl2 : IntsE s a2 l2) (hr : RowsE s 7 a3 rs) (hc : RowsE s 6 a4 cs) (hpt : prt ((1 ≤ d ∧ d ≤ 99999) ∧ (1 ≤ r ∧ r ≤ 99999) ∧ (0 ≤ al ∧ al ≤ 100000) ∧ (0 ≤ up ∧ up ≤ 100000) ∧ planB l1 l2 = true) l1 l2 rs cs = 0) : Spec Tryz.prog (tabK tabw) X (n + 3000) 52 [.agg ⟨[.int .i64 d, .int .i64 r, .slice a1 l1.length c1, .slice a2 l2.length c2, .int .i64 al, .int .i64 up, .slice a3 rs.length c3, .slice a4 cs.length c4]⟩] s (fun v A => ∃ b, v = .slice (some ⟨b, 0, none⟩) (Sv.b6 (Sv.mk r al up l1 l2 rs cs)).length OPEN ∧ A = [.row b 99 true (flatV (Sv.b6 (Sv.mk r al up l1 l2 rs cs)))]) := by
 refine enter bw52_at rfl hs ?_
 unfold bw52
 have hlen1 := hl1.len
 have hlen2 := hl2.len
 have hlen3 := hr.len
 have hlen4 := hc.len
 obtain ⟨⟨hsd, hsr, hsa, hsu, hpl⟩, h60, h20, hrdb, hcpb⟩ := prt_ok hpt
 have hp1 := plan_p1 hpl
 have hp2 := plan_p2 hpl
 have hm1 := hp1.hm
 have hm2 : (l2.length : Int) ≤ 7 := hp2m hpl
 have h21 := hp1.h2
 have h22 := hp2.h2
 have hmm := mul_sm (x := (l1.length : Int)) (y := (l2.length : Int)) (by omega) (by omega)
 have hmn := mul_nn (x := l2.length) (y := l1.length) (by omega) (by omega)
 refine rS (kO rfl (a_box rfl rfl rfl (fun b1 => (kM rfl rfl (i_nil (rS (kO rfl (a_fa rfl (kO rfl (a_lda rfl (by decide) .here rfl (kO rfl (a_new rfl rfl (fun b2 => (kZ rfl (a_sta rfl rfl .here rfl rfl rfl rfl (i_nil (rS (kM rfl rfl (i_nil (rQ (rS (kM rfl rfl (i_nil (r_block (r_unroll (rQ (rS (kM rfl rfl (kO rfl (a_fa rfl (kO rfl (a_ld rfl .here rfl ?_))))))))))))))))))))))))))))))))
 refine kO rfl (a_lenx rfl hl1.spot (kO rfl (a_lss rfl rfl (fun h3 => ?_) (fun h3 => ?_))))
 ·refine i_nil (r_cond_t rfl (r_skip (then_n (rQ (r_block (rS (kM rfl rfl (i_nil (r_block (r_unroll (rQ (rS (kM rfl rfl (kO rfl (a_fa rfl (kO rfl (a_ld rfl .here rfl (kO rfl (a_lenx rfl hl2.spot (kO rfl (a_lss rfl rfl (fun h4 => ?_) (fun h4 => ?_))))))))))))))))))))))
  ·refine i_nil (r_cond_t rfl (r_skip (then_n (rQ (r_block (rS (kO rfl (a_lda rfl (by decide) .here rfl (kM rfl rfl (kM rfl rfl (kO rfl (a_callV rfl rfl (fun s1 h1 => number_s _ _ _ _ _ _ _ _ _ _ _ _ _ s1 h1.wf (by omega) (hl1.ext hs h1.2.1) (hl2.ext hs h1.2.1) (by omega) (by omega) (by omega)) ?_))))))))))))
   rw [show (1 + 0 * (l2.length : Int) + 0 : Int) = 1 by omega]
   refine kM rfl rfl (i_nil (rI (kM rfl rfl (kM rfl rfl (kO rfl (a_fa rfl (kO rfl (a_ld rfl .here rfl (kO rfl (a_build rfl rfl (kM rfl rfl (kO rfl (a_fa rfl (kO rfl (a_ld rfl .here rfl (kO rfl (a_build rfl rfl (kO rfl (a_lit rfl rfl rfl (fun b5 => (kO rfl (a_appn rfl rfl (Src.own .here rfl (by first | (simp; done) | (simp [flatV, lmP]; done))) (by decide) (by omega) (by omega) (fun b6 => (kM rfl rfl (i_nil (block_n (then_n (rI (kM rfl rfl (kO rfl (a_add rfl rfl (by decide) (kM rfl rfl (i_nil (then_n ?_))))))))))))))))))))))))))))))))))
   refine r_loop (fun j e A => ∃ (k b ln : Nat), e = [(1, .pointer (some ⟨b1, 0, none⟩)), (3, .pointer (some ⟨b2, 0, none⟩)), (4, .slice (some ⟨b, 0, none⟩) ln OPEN), (5, .int .i64 ((0 : Nat) : Int)), (6, .int .i64 (k : Int))] ∧ A = (.row b 99 true (flatV (acc [] (Sv.q1 (Sv.mk r al up l1 l2 rs cs)) (l2.length * 0 + k))) :: (.row b2 33 false ([.int .i64 d, .int .i64 r, .slice a1 l1.length c1, .slice a2 l2.length c2, .int .i64 al, .int .i64 up]) :: (.row b1 37 false ([.int .i64 d, .int .i64 r, .slice a1 l1.length c1, .slice a2 l2.length c2, .int .i64 al, .int .i64 up, .slice a3 rs.length c3, .slice a4 cs.length c4]) :: []))) ∧ j = l2.length - k ∧ k ≤ l2.length ∧ ln = (acc [] (Sv.q1 (Sv.mk r al up l1 l2 rs cs)) (l2.length * 0 + k)).length ∧ ln ≤ 0 + 2 * (l2.length * 0 + k)) 600 0 281474976710656 ?_ (j := _) (env2 := _) (A2 := _) ?_ ?_ ?_ ?_ ⟨1, b6, 2, rfl, rfl, rfl, (by omega), rfl, (by omega)⟩
   rotate_left
   ·omega
   ·omega
   ·exact (lc 1 rfl (lc 3 rfl (lc 4 rfl (lc 5 rfl (lc 6 rfl Less.nil)))))
   ·exact (.cons_cons _ (.cons _ (.cons_cons _ (.cons_cons _ .slnil))))
   rintro n hn j _ _ ⟨k, b, ln, rfl, rfl, rfl, hk, hln, hlb⟩
   have y0 := hp2.lo k
   have y1 := hp2.lo (k + 1)
   have r1 : k + 1 < l2.length → l2.getD k 0 < l2.getD (k + 1) 0 := fun h => hp2.rise k h
   refine rQ (rS (kM rfl rfl (kO rfl (a_fa rfl (kO rfl (a_ld rfl (.next .here) rfl (kO rfl (a_lenx rfl hl2.spot (kO rfl (a_lss rfl rfl (fun h7 => ?_) (fun h7 => ?_)))))))))))
   ·refine i_nil (r_cond_t rfl (r_skip (then_n (rQ (r_block (rS (kO rfl (a_lda rfl (by decide) (.next .here) rfl (kM rfl rfl (kM rfl rfl (kO rfl (a_callV rfl rfl (fun s1 h1 => number_s _ _ _ _ _ _ _ _ _ _ _ _ _ s1 h1.wf (by omega) (hl1.ext hs h1.2.1) (hl2.ext hs h1.2.1) (by omega) (by omega) (by omega)) ?_))))))))))))
    rw [show (1 + ((0 : Nat) : Int) * (l2.length : Int) + (k : Int) : Int) = ((l2.length * 0 + k : Nat) : Int) + 1 from num_eq _ _ _]
    refine kM rfl rfl (i_nil (rI (kM rfl rfl (kM rfl rfl (kO rfl (a_fa rfl (kO rfl (a_ld rfl (.next .here) rfl (kO rfl (a_build rfl rfl (kM rfl rfl (kO rfl (a_fa rfl (kO rfl (a_ld rfl (.next .here) rfl (kO rfl (a_build rfl rfl (kO rfl (a_lit rfl rfl rfl (fun b8 => (kO rfl (a_app rfl rfl (Src.own .here rfl (by first | (simp; done) | (simp [flatV, lmP]; done))) (.next .here) (by rw [hln]; first | exact flatV_len (Sv.h1 _ _) | exact flatV_len (Sv.h2 _ _) | exact flatV_len (Sv.h3 _ _) | exact flatV_len (Sv.h4 _ _) | exact flatV_len (Sv.h5i _ _ _) | exact flatV_len (Sv.h6 _ _)) (.inl ⟨rfl, rfl⟩) (by decide) (by omega) (by omega) (fun b9 => (kM rfl rfl (i_nil (block_n (then_n (rI (kM rfl rfl (kO rfl (a_add rfl rfl (by omega) (kM rfl rfl (i_nil (then_n ?_))))))))))))))))))))))))))))))))))
    exact ⟨rfl, _, _, _, (show l2.length - (k + 1) < l2.length - k by omega), (lc 1 rfl (lc 3 rfl (lc 4 rfl (lc 5 rfl (lc 6 rfl Less.nil))))), (.cons_cons _ (.cons _ (.cons_cons _ (.cons_cons _ .slnil)))), ⟨k + 1, b9, ln + 2, rfl, (by rw [acc_addr (show Sv.q1 (Sv.mk r al up l1 l2 rs cs) (l2.length * 0 + k) = lmP 0 (((l2.length * 0 + k : Nat) : Int) + 1) 20000 0 r from rfl)]; first | done | rfl), rfl, by omega, (by rw [acc_lnr (show Sv.q1 (Sv.mk r al up l1 l2 rs cs) (l2.length * 0 + k) = lmP 0 (((l2.length * 0 + k : Nat) : Int) + 1) 20000 0 r from rfl), ← hln]; first | done | rfl), (by omega)⟩⟩
   ·refine i_nil (r_cond_f rfl (r_exit (then_e (then_e (block_hit (block_n (then_n (rI (kM rfl rfl (kO rfl (a_add rfl rfl (by decide) (kM rfl rfl (i_nil (then_n ?_))))))))))))))
    have hkl : k = l2.length := by omega
    subst hkl
    refine r_loop (fun j e A => ∃ (i b ln : Nat), e = [(1, .pointer (some ⟨b1, 0, none⟩)), (3, .pointer (some ⟨b2, 0, none⟩)), (4, .slice (some ⟨b, 0, none⟩) ln OPEN), (5, .int .i64 (i : Int))] ∧ A = (.row b 99 true (flatV (acc [] (Sv.q1 (Sv.mk r al up l1 l2 rs cs)) (l2.length * i))) :: (.row b2 33 false ([.int .i64 d, .int .i64 r, .slice a1 l1.length c1, .slice a2 l2.length c2, .int .i64 al, .int .i64 up]) :: (.row b1 37 false ([.int .i64 d, .int .i64 r, .slice a1 l1.length c1, .slice a2 l2.length c2, .int .i64 al, .int .i64 up, .slice a3 rs.length c3, .slice a4 cs.length c4]) :: []))) ∧ j = l1.length - i ∧ i ≤ l1.length ∧ ln = (acc [] (Sv.q1 (Sv.mk r al up l1 l2 rs cs)) (l2.length * i)).length ∧ ln ≤ 0 + 2 * (l2.length * i)) 900 281474976710656 281474976710656 ?_ (j := _) (env2 := _) (A2 := _) ?_ ?_ ?_ ?_ ⟨1, b, ln, rfl, rfl, rfl, (by omega), hln, (by omega)⟩
    rotate_left
    ·omega
    ·omega
    ·exact (lc 1 rfl (lc 3 rfl (lc 4 rfl (lc 5 rfl Less.nil))))
    ·exact (.cons_cons _ (.cons_cons _ (.cons_cons _ .slnil)))
    rintro n hn j _ _ ⟨i, b, ln, rfl, rfl, rfl, hi, hln, hlb⟩
    have z0 := hp1.lo i
    have z1 := hp1.lo (i + 1)
    have r0 : i + 1 < l1.length → l1.getD i 0 < l1.getD (i + 1) 0 := fun h => hp1.rise i h
    have hq7 : l2.length * i ≤ 81 := mul_nn (by omega) (by omega)
    refine rQ (rS (kM rfl rfl (kO rfl (a_fa rfl (kO rfl (a_ld rfl (.next .here) rfl (kO rfl (a_lenx rfl hl1.spot (kO rfl (a_lss rfl rfl (fun h10 => ?_) (fun h10 => ?_)))))))))))
    ·refine i_nil (r_cond_t rfl (r_skip (then_n (rQ (r_block (rS (kM rfl rfl (i_nil (r_block (r_loop (fun j e A => ∃ (k b ln : Nat), e = [(1, .pointer (some ⟨b1, 0, none⟩)), (3, .pointer (some ⟨b2, 0, none⟩)), (4, .slice (some ⟨b, 0, none⟩) ln OPEN), (5, .int .i64 ((i : Nat) : Int)), (6, .int .i64 (k : Int))] ∧ A = (.row b 99 true (flatV (acc [] (Sv.q1 (Sv.mk r al up l1 l2 rs cs)) (l2.length * i + k))) :: (.row b2 33 false ([.int .i64 d, .int .i64 r, .slice a1 l1.length c1, .slice a2 l2.length c2, .int .i64 al, .int .i64 up]) :: (.row b1 37 false ([.int .i64 d, .int .i64 r, .slice a1 l1.length c1, .slice a2 l2.length c2, .int .i64 al, .int .i64 up, .slice a3 rs.length c3, .slice a4 cs.length c4]) :: []))) ∧ j = l2.length - k ∧ k ≤ l2.length ∧ ln = (acc [] (Sv.q1 (Sv.mk r al up l1 l2 rs cs)) (l2.length * i + k)).length ∧ ln ≤ 0 + 2 * (l2.length * i + k)) 600 0 281474976710656 ?_ (j := _) (env2 := _) (A2 := _) ?_ ?_ ?_ ?_ ⟨0, b, ln, rfl, rfl, rfl, (by omega), hln, (by omega)⟩))))))))))
     rotate_left
     ·omega
     ·omega
     ·exact (lc 1 rfl (lc 3 rfl (lc 4 rfl (lc 5 rfl (lc 6 rfl Less.nil)))))
     ·exact (.cons_cons _ (.cons_cons _ (.cons_cons _ .slnil)))
     rintro n hn j _ _ ⟨k, b, ln, rfl, rfl, rfl, hk, hln, hlb⟩
     have y0 := hp2.lo k
     have y1 := hp2.lo (k + 1)
     have r1 : k + 1 < l2.length → l2.getD k 0 < l2.getD (k + 1) 0 := fun h => hp2.rise k h
     refine rQ (rS (kM rfl rfl (kO rfl (a_fa rfl (kO rfl (a_ld rfl (.next .here) rfl (kO rfl (a_lenx rfl hl2.spot (kO rfl (a_lss rfl rfl (fun h11 => ?_) (fun h11 => ?_)))))))))))
     ·refine i_nil (r_cond_t rfl (r_skip (then_n (rQ (r_block (rS (kO rfl (a_lda rfl (by decide) (.next .here) rfl (kM rfl rfl (kM rfl rfl (kO rfl (a_callV rfl rfl (fun s1 h1 => number_s _ _ _ _ _ _ _ _ _ _ _ _ _ s1 h1.wf (by omega) (hl1.ext hs h1.2.1) (hl2.ext hs h1.2.1) (by omega) (by omega) (by omega)) ?_))))))))))))
      rw [show (1 + (i : Int) * (l2.length : Int) + (k : Int) : Int) = ((l2.length * i + k : Nat) : Int) + 1 from num_eq _ _ _]
      refine kM rfl rfl (i_nil (rI (kM rfl rfl (kM rfl rfl (kO rfl (a_fa rfl (kO rfl (a_ld rfl (.next .here) rfl (kO rfl (a_build rfl rfl (kM rfl rfl (kO rfl (a_fa rfl (kO rfl (a_ld rfl (.next .here) rfl (kO rfl (a_build rfl rfl (kO rfl (a_lit rfl rfl rfl (fun b12 => (kO rfl (a_app rfl rfl (Src.own .here rfl (by first | (simp; done) | (simp [flatV, lmP]; done))) (.next .here) (by rw [hln]; first | exact flatV_len (Sv.h1 _ _) | exact flatV_len (Sv.h2 _ _) | exact flatV_len (Sv.h3 _ _) | exact flatV_len (Sv.h4 _ _) | exact flatV_len (Sv.h5i _ _ _) | exact flatV_len (Sv.h6 _ _)) (.inl ⟨rfl, rfl⟩) (by decide) (by omega) (by omega) (fun b13 => (kM rfl rfl (i_nil (block_n (then_n (rI (kM rfl rfl (kO rfl (a_add rfl rfl (by omega) (kM rfl rfl (i_nil (then_n ?_))))))))))))))))))))))))))))))))))
      exact ⟨rfl, _, _, _, (show l2.length - (k + 1) < l2.length - k by omega), (lc 1 rfl (lc 3 rfl (lc 4 rfl (lc 5 rfl (lc 6 rfl Less.nil))))), (.cons_cons _ (.cons _ (.cons_cons _ (.cons_cons _ .slnil)))), ⟨k + 1, b13, ln + 2, rfl, (by rw [acc_addr (show Sv.q1 (Sv.mk r al up l1 l2 rs cs) (l2.length * i + k) = lmP 0 (((l2.length * i + k : Nat) : Int) + 1) 20000 0 r from rfl)]; first | done | rfl), rfl, by omega, (by rw [acc_lnr (show Sv.q1 (Sv.mk r al up l1 l2 rs cs) (l2.length * i + k) = lmP 0 (((l2.length * i + k : Nat) : Int) + 1) 20000 0 r from rfl), ← hln]; first | done | rfl), (by omega)⟩⟩
     ·refine i_nil (r_cond_f rfl (r_exit (then_e (then_e (block_hit (block_n (then_n (rI (kM rfl rfl (kO rfl (a_add rfl rfl (by omega) (kM rfl rfl (i_nil (then_n ?_))))))))))))))
      have hkl : k = l2.length := by omega
      subst hkl
      exact ⟨rfl, _, _, _, (show l1.length - (i + 1) < l1.length - i by omega), (lc 1 rfl (lc 3 rfl (lc 4 rfl (lc 5 rfl Less.nil)))), (.cons_cons _ (.cons_cons _ (.cons_cons _ .slnil))), ⟨i + 1, b, ln, rfl, rfl, rfl, by omega, hln, (by rw [Nat.mul_add, Nat.mul_one]; omega)⟩⟩
    ·refine i_nil (r_cond_f rfl (r_exit (then_e (then_e (block_hit (then_n (rQ (rS (kM rfl rfl (i_nil (r_block ?_)))))))))))
     have hil : i = l1.length := by omega
     subst hil
     refine r_loop (fun j e A => ∃ (i b ln : Nat), e = [(1, .pointer (some ⟨b1, 0, none⟩)), (3, .pointer (some ⟨b2, 0, none⟩)), (4, .slice (some ⟨b, 0, none⟩) ln OPEN), (8, .int .i64 (i : Int))] ∧ A = (.row b 99 true (flatV (acc (Sv.b1 (Sv.mk r al up l1 l2 rs cs)) (Sv.q2 (Sv.mk r al up l1 l2 rs cs)) (l2.length * i))) :: (.row b2 33 false ([.int .i64 d, .int .i64 r, .slice a1 l1.length c1, .slice a2 l2.length c2, .int .i64 al, .int .i64 up]) :: (.row b1 37 false ([.int .i64 d, .int .i64 r, .slice a1 l1.length c1, .slice a2 l2.length c2, .int .i64 al, .int .i64 up, .slice a3 rs.length c3, .slice a4 cs.length c4]) :: []))) ∧ j = l1.length - i ∧ i + 1 ≤ l1.length ∧ ln = (acc (Sv.b1 (Sv.mk r al up l1 l2 rs cs)) (Sv.q2 (Sv.mk r al up l1 l2 rs cs)) (l2.length * i)).length ∧ ln ≤ 162 + 2 * (l2.length * i)) 900 281474976710656 281474976710656 ?_ (j := _) (env2 := _) (A2 := _) ?_ ?_ ?_ ?_ ⟨0, b, ln, rfl, rfl, rfl, (by omega), hln, (by omega)⟩
     rotate_left
     ·omega
     ·omega
     ·exact (lc 1 rfl (lc 3 rfl (lc 4 rfl (lc 8 rfl Less.nil))))
     ·exact (.cons_cons _ (.cons_cons _ (.cons_cons _ .slnil)))
     rintro n hn j _ _ ⟨i, b, ln, rfl, rfl, rfl, hi, hln, hlb⟩
     have z0 := hp1.lo i
     have z1 := hp1.lo (i + 1)
     have r0 : i + 1 < l1.length → l1.getD i 0 < l1.getD (i + 1) 0 := fun h => hp1.rise i h
     have hq7 : l2.length * i ≤ 81 := mul_nn (by omega) (by omega)
     refine rQ (rS (kM rfl rfl (kO rfl (a_add rfl rfl (by omega) (kO rfl (a_fa rfl (kO rfl (a_ld rfl (.next .here) rfl (kO rfl (a_lenx rfl hl1.spot (kO rfl (a_lss rfl rfl (fun h14 => ?_) (fun h14 => ?_)))))))))))))
     ·refine i_nil (r_cond_t rfl (r_skip (then_n (rQ (r_block (rS (kM rfl rfl (i_nil (r_block (r_loop (fun j e A => ∃ (k b ln : Nat), e = [(1, .pointer (some ⟨b1, 0, none⟩)), (3, .pointer (some ⟨b2, 0, none⟩)), (4, .slice (some ⟨b, 0, none⟩) ln OPEN), (8, .int .i64 ((i : Nat) : Int)), (9, .int .i64 (k : Int))] ∧ A = (.row b 99 true (flatV (acc (Sv.b1 (Sv.mk r al up l1 l2 rs cs)) (Sv.q2 (Sv.mk r al up l1 l2 rs cs)) (l2.length * i + k))) :: (.row b2 33 false ([.int .i64 d, .int .i64 r, .slice a1 l1.length c1, .slice a2 l2.length c2, .int .i64 al, .int .i64 up]) :: (.row b1 37 false ([.int .i64 d, .int .i64 r, .slice a1 l1.length c1, .slice a2 l2.length c2, .int .i64 al, .int .i64 up, .slice a3 rs.length c3, .slice a4 cs.length c4]) :: []))) ∧ j = l2.length - k ∧ k ≤ l2.length ∧ ln = (acc (Sv.b1 (Sv.mk r al up l1 l2 rs cs)) (Sv.q2 (Sv.mk r al up l1 l2 rs cs)) (l2.length * i + k)).length ∧ ln ≤ 162 + 2 * (l2.length * i + k)) 600 0 281474976710656 ?_ (j := _) (env2 := _) (A2 := _) ?_ ?_ ?_ ?_ ⟨0, b, ln, rfl, rfl, rfl, (by omega), hln, (by omega)⟩))))))))))
      rotate_left
      ·omega
      ·omega
      ·exact (lc 1 rfl (lc 3 rfl (lc 4 rfl (lc 8 rfl (lc 9 rfl Less.nil)))))
      ·exact (.cons_cons _ (.cons_cons _ (.cons_cons _ .slnil)))
      rintro n hn j _ _ ⟨k, b, ln, rfl, rfl, rfl, hk, hln, hlb⟩
      have y0 := hp2.lo k
      have y1 := hp2.lo (k + 1)
      have r1 : k + 1 < l2.length → l2.getD k 0 < l2.getD (k + 1) 0 := fun h => hp2.rise k h
      refine rQ (rS (kM rfl rfl (kO rfl (a_fa rfl (kO rfl (a_ld rfl (.next .here) rfl (kO rfl (a_lenx rfl hl2.spot (kO rfl (a_lss rfl rfl (fun h15 => ?_) (fun h15 => ?_)))))))))))
      ·refine i_nil (r_cond_t rfl (r_skip (then_n (rQ (r_block (rI (kM rfl rfl (kO rfl (a_lda rfl (by decide) (.next .here) rfl (kM rfl rfl (kM rfl rfl (kO rfl (a_lda rfl (by decide) (.next .here) rfl (kM rfl rfl (kO rfl (a_add rfl rfl (by omega) (kM rfl rfl (kO rfl (a_fa rfl (kO rfl (a_fa rfl (kO rfl (a_ld rfl (.next .here) rfl (kO rfl (a_fa rfl (kO rfl (a_ld rfl (.next .here) rfl (kM rfl rfl (kO rfl (a_add rfl rfl (by omega) (kO rfl (a_iaI (j := i + 1) hl1 rfl rfl (by omega) (by simp) (by omega) (fun _ _ a16 => (kO rfl (a_ldr rfl (hl1.at a16 (by omega)) ?_)))))))))))))))))))))))))))))))))))
       refine kO rfl (a_fa rfl (kO rfl (a_ld rfl (.next .here) rfl (kM rfl rfl (kO rfl (a_iaI (j := i) hl1 rfl rfl (by omega) (by simp) (by omega) (fun _ _ a17 => (kO rfl (a_ldr rfl (hl1.at a17 (by omega)) (kO rfl (a_sub rfl rfl (by omega) (kO rfl (a_fa rfl (kO rfl (a_ld rfl (.next .here) rfl (kO rfl (a_callV rfl rfl (fun s1 h1 => number_s _ _ _ _ _ _ _ _ _ _ _ _ _ s1 h1.wf (by omega) (hl1.ext hs h1.2.1) (hl2.ext hs h1.2.1) (by omega) (by omega) (by omega)) ?_)))))))))))))))))
       rw [show (1 + (i : Int) * (l2.length : Int) + (k : Int) : Int) = ((l2.length * i + k : Nat) : Int) + 1 from num_eq _ _ _]
       refine kZ rfl (a_again rfl rfl (.next .here) rfl (by simp [eqV, eqA, eqL, kindEq, intEq_eq, eqV_sl hl1.spot, eqV_sl hl2.spot, eqV_sl hr.spot, eqV_sl hc.spot]) (kZ rfl (a_againr rfl rfl (hl1.at a17 (by omega)) (by simp [eqV, kindEq, intEq_eq]) (kZ rfl (a_again rfl rfl (.next .here) rfl (by simp [eqV, eqA, eqL, kindEq, intEq_eq, eqV_sl hl1.spot, eqV_sl hl2.spot, eqV_sl hr.spot, eqV_sl hc.spot]) (kZ rfl (a_againr rfl rfl (hl1.at a16 (by omega)) (by simp [eqV, kindEq, intEq_eq]) (kZ rfl (a_again rfl rfl (.next .here) rfl (by simp [eqV, eqA, eqL, kindEq, intEq_eq, eqV_sl hl1.spot, eqV_sl hl2.spot, eqV_sl hr.spot, eqV_sl hc.spot]) (kZ rfl (a_again rfl rfl (.next .here) rfl (by simp [eqV, eqA, eqL, kindEq, intEq_eq, eqV_sl hl1.spot, eqV_sl hl2.spot, eqV_sl hr.spot, eqV_sl hc.spot]) (kZ rfl (a_againa rfl rfl (by decide) (.next .here) rfl (by simp [eqL, eqV, eqA, kindEq, intEq_eq, eqV_sl hl1.spot, eqV_sl hl2.spot, eqV_sl hr.spot, eqV_sl hc.spot]) (kO rfl (a_callV rfl rfl (fun s1 h1 => number_s _ _ _ _ _ _ _ _ _ _ _ _ _ s1 h1.wf (by omega) (hl1.ext hs h1.2.1) (hl2.ext hs h1.2.1) (by omega) (by omega) (by omega)) (kZ rfl (a_again rfl rfl (.next .here) rfl (by simp [eqV, eqA, eqL, kindEq, intEq_eq, eqV_sl hl1.spot, eqV_sl hl2.spot, eqV_sl hr.spot, eqV_sl hc.spot]) (kZ rfl (a_againr rfl rfl (hl1.at a17 (by omega)) (by simp [eqV, kindEq, intEq_eq]) (kZ rfl (a_again rfl rfl (.next .here) rfl (by simp [eqV, eqA, eqL, kindEq, intEq_eq, eqV_sl hl1.spot, eqV_sl hl2.spot, eqV_sl hr.spot, eqV_sl hc.spot]) (kZ rfl (a_againr rfl rfl (hl1.at a16 (by omega)) (by simp [eqV, kindEq, intEq_eq]) (kZ rfl (a_again rfl rfl (.next .here) rfl (by simp [eqV, eqA, eqL, kindEq, intEq_eq, eqV_sl hl1.spot, eqV_sl hl2.spot, eqV_sl hr.spot, eqV_sl hc.spot]) (kZ rfl (a_again rfl rfl (.next .here) rfl (by simp [eqV, eqA, eqL, kindEq, intEq_eq, eqV_sl hl1.spot, eqV_sl hl2.spot, eqV_sl hr.spot, eqV_sl hc.spot]) (kO rfl (a_callV rfl rfl (fun s1 h1 => rchange_s _ _ _ s1 h1.wf (by omega) (by omega)) (kZ rfl (a_again rfl rfl (.next .here) rfl (by simp [eqV, eqA, eqL, kindEq, intEq_eq, eqV_sl hl1.spot, eqV_sl hl2.spot, eqV_sl hr.spot, eqV_sl hc.spot]) (kO rfl (a_call rfl rfl (fun s1 h1 => rpair_s _ _ _ _ _ s1 h1.wf) (fun v1 A1 q1 => ?_))))))))))))))))))))))))))))))))))
       obtain ⟨b18, rfl, rfl⟩ := q1
       refine kO rfl (a_app rfl rfl (Src.own .here rfl (by first | (simp; done) | (simp [flatV, lmP]; done))) (.next .here) (by rw [hln]; first | exact flatV_len (Sv.h1 _ _) | exact flatV_len (Sv.h2 _ _) | exact flatV_len (Sv.h3 _ _) | exact flatV_len (Sv.h4 _ _) | exact flatV_len (Sv.h5i _ _ _) | exact flatV_len (Sv.h6 _ _)) (.inl ⟨rfl, rfl⟩) (by decide) (by omega) (by omega) (fun b19 => (kM rfl rfl (i_nil (block_n (then_n (rI (kM rfl rfl (kO rfl (a_add rfl rfl (by omega) (kM rfl rfl (i_nil (then_n ?_)))))))))))))
       exact ⟨rfl, _, _, _, (show l2.length - (k + 1) < l2.length - k by omega), (lc 1 rfl (lc 3 rfl (lc 4 rfl (lc 8 rfl (lc 9 rfl Less.nil))))), (.cons_cons _ (.cons _ (.cons_cons _ (.cons_cons _ .slnil)))), ⟨k + 1, b19, ln + 2, rfl, (by rw [acc_addr (Sv.q2_yes (y := (Sv.mk r al up l1 l2 rs cs)) (show k < l2.length by omega) (show (i : Int) + 1 < (l1.length : Int) by omega))]; first | done | rfl), rfl, by omega, (by rw [acc_lnr (Sv.q2_yes (y := (Sv.mk r al up l1 l2 rs cs)) (show k < l2.length by omega) (show (i : Int) + 1 < (l1.length : Int) by omega)), ← hln]; first | done | rfl), (by omega)⟩⟩
      ·refine i_nil (r_cond_f rfl (r_exit (then_e (then_e (block_hit (block_n (then_n (rI (kM rfl rfl (kO rfl (a_add rfl rfl (by omega) (kM rfl rfl (i_nil (then_n ?_))))))))))))))
       have hkl : k = l2.length := by omega
       subst hkl
       exact ⟨rfl, _, _, _, (show l1.length - (i + 1) < l1.length - i by omega), (lc 1 rfl (lc 3 rfl (lc 4 rfl (lc 8 rfl Less.nil)))), (.cons_cons _ (.cons_cons _ (.cons_cons _ .slnil))), ⟨i + 1, b, ln, rfl, rfl, rfl, by omega, hln, (by rw [Nat.mul_add, Nat.mul_one]; omega)⟩⟩
     ·refine i_nil (r_cond_f rfl (r_exit (then_e (then_e (block_hit (then_n (rQ (rS (kM rfl rfl (i_nil (r_block ?_)))))))))))
      have hil : i + 1 = l1.length := by omega
      have hbb := Sv.b2_end (y := (Sv.mk r al up l1 l2 rs cs)) (show i + 1 = l1.length from hil)
      have hbl : l2.length * i ≤ 81 := mul_nn (by omega) (by omega)
      change acc (Sv.b1 (Sv.mk r al up l1 l2 rs cs)) (Sv.q2 (Sv.mk r al up l1 l2 rs cs)) (l2.length * i) = _ at hbb
      rw [hbb] at hln ⊢
      refine r_loop (fun j e A => ∃ (i b ln : Nat), e = [(1, .pointer (some ⟨b1, 0, none⟩)), (3, .pointer (some ⟨b2, 0, none⟩)), (4, .slice (some ⟨b, 0, none⟩) ln OPEN), (10, .int .i64 (i : Int))] ∧ A = (.row b 99 true (flatV (acc (Sv.b2 (Sv.mk r al up l1 l2 rs cs)) (Sv.q3 (Sv.mk r al up l1 l2 rs cs)) (l2.length * i))) :: (.row b2 33 false ([.int .i64 d, .int .i64 r, .slice a1 l1.length c1, .slice a2 l2.length c2, .int .i64 al, .int .i64 up]) :: (.row b1 37 false ([.int .i64 d, .int .i64 r, .slice a1 l1.length c1, .slice a2 l2.length c2, .int .i64 al, .int .i64 up, .slice a3 rs.length c3, .slice a4 cs.length c4]) :: []))) ∧ j = l1.length - i ∧ i ≤ l1.length ∧ ln = (acc (Sv.b2 (Sv.mk r al up l1 l2 rs cs)) (Sv.q3 (Sv.mk r al up l1 l2 rs cs)) (l2.length * i)).length ∧ ln ≤ 324 + 2 * (l2.length * i)) 900 281474976710656 281474976710656 ?_ (j := _) (env2 := _) (A2 := _) ?_ ?_ ?_ ?_ ⟨0, b, ln, rfl, rfl, rfl, (by omega), hln, (by omega)⟩
      rotate_left
      ·omega
      ·omega
      ·exact (lc 1 rfl (lc 3 rfl (lc 4 rfl (lc 10 rfl Less.nil))))
      ·exact (.cons_cons _ (.cons_cons _ (.cons_cons _ .slnil)))
      rintro n hn j _ _ ⟨i, b, ln, rfl, rfl, rfl, hi, hln, hlb⟩
      have z0 := hp1.lo i
      have z1 := hp1.lo (i + 1)
      have r0 : i + 1 < l1.length → l1.getD i 0 < l1.getD (i + 1) 0 := fun h => hp1.rise i h
      have hq7 : l2.length * i ≤ 81 := mul_nn (by omega) (by omega)
      refine rQ (rS (kM rfl rfl (kO rfl (a_fa rfl (kO rfl (a_ld rfl (.next .here) rfl (kO rfl (a_lenx rfl hl1.spot (kO rfl (a_lss rfl rfl (fun h20 => ?_) (fun h20 => ?_)))))))))))
      ·refine i_nil (r_cond_t rfl (r_skip (then_n (rQ (r_block (rS (kM rfl rfl (i_nil (r_block (r_loop (fun j e A => ∃ (k b ln : Nat), e = [(1, .pointer (some ⟨b1, 0, none⟩)), (3, .pointer (some ⟨b2, 0, none⟩)), (4, .slice (some ⟨b, 0, none⟩) ln OPEN), (10, .int .i64 ((i : Nat) : Int)), (11, .int .i64 (k : Int))] ∧ A = (.row b 99 true (flatV (acc (Sv.b2 (Sv.mk r al up l1 l2 rs cs)) (Sv.q3 (Sv.mk r al up l1 l2 rs cs)) (l2.length * i + k))) :: (.row b2 33 false ([.int .i64 d, .int .i64 r, .slice a1 l1.length c1, .slice a2 l2.length c2, .int .i64 al, .int .i64 up]) :: (.row b1 37 false ([.int .i64 d, .int .i64 r, .slice a1 l1.length c1, .slice a2 l2.length c2, .int .i64 al, .int .i64 up, .slice a3 rs.length c3, .slice a4 cs.length c4]) :: []))) ∧ j = l2.length - k ∧ k + 1 ≤ l2.length ∧ ln = (acc (Sv.b2 (Sv.mk r al up l1 l2 rs cs)) (Sv.q3 (Sv.mk r al up l1 l2 rs cs)) (l2.length * i + k)).length ∧ ln ≤ 324 + 2 * (l2.length * i + k)) 600 0 281474976710656 ?_ (j := _) (env2 := _) (A2 := _) ?_ ?_ ?_ ?_ ⟨0, b, ln, rfl, rfl, rfl, (by omega), hln, (by omega)⟩))))))))))
       rotate_left
       ·omega
       ·omega
       ·exact (lc 1 rfl (lc 3 rfl (lc 4 rfl (lc 10 rfl (lc 11 rfl Less.nil)))))
       ·exact (.cons_cons _ (.cons_cons _ (.cons_cons _ .slnil)))
       rintro n hn j _ _ ⟨k, b, ln, rfl, rfl, rfl, hk, hln, hlb⟩
       have y0 := hp2.lo k
       have y1 := hp2.lo (k + 1)
       have r1 : k + 1 < l2.length → l2.getD k 0 < l2.getD (k + 1) 0 := fun h => hp2.rise k h
       refine rQ (rS (kM rfl rfl (kO rfl (a_add rfl rfl (by omega) (kO rfl (a_fa rfl (kO rfl (a_ld rfl (.next .here) rfl (kO rfl (a_lenx rfl hl2.spot (kO rfl (a_lss rfl rfl (fun h21 => ?_) (fun h21 => ?_)))))))))))))
       ·refine i_nil (r_cond_t rfl (r_skip (then_n (rQ (r_block (rI (kM rfl rfl (kO rfl (a_lda rfl (by decide) (.next .here) rfl (kM rfl rfl (kM rfl rfl (kO rfl (a_lda rfl (by decide) (.next .here) rfl (kM rfl rfl (kM rfl rfl (kO rfl (a_add rfl rfl (by omega) (kO rfl (a_fa rfl (kO rfl (a_fa rfl (kO rfl (a_ld rfl (.next .here) rfl (kO rfl (a_fa rfl (kO rfl (a_ld rfl (.next .here) rfl (kM rfl rfl (kO rfl (a_add rfl rfl (by omega) (kO rfl (a_iaI (j := k + 1) hl2 rfl rfl (by omega) (by simp) (by omega) (fun _ _ a22 => (kO rfl (a_ldr rfl (hl2.at a22 (by omega)) ?_)))))))))))))))))))))))))))))))))))
        refine kO rfl (a_fa rfl (kO rfl (a_ld rfl (.next .here) rfl (kM rfl rfl (kO rfl (a_iaI (j := k) hl2 rfl rfl (by omega) (by simp) (by omega) (fun _ _ a23 => (kO rfl (a_ldr rfl (hl2.at a23 (by omega)) (kO rfl (a_sub rfl rfl (by omega) (kO rfl (a_fa rfl (kO rfl (a_ld rfl (.next .here) rfl (kO rfl (a_callV rfl rfl (fun s1 h1 => number_s _ _ _ _ _ _ _ _ _ _ _ _ _ s1 h1.wf (by omega) (hl1.ext hs h1.2.1) (hl2.ext hs h1.2.1) (by omega) (by omega) (by omega)) ?_)))))))))))))))))
        rw [show (1 + (i : Int) * (l2.length : Int) + (k : Int) : Int) = ((l2.length * i + k : Nat) : Int) + 1 from num_eq _ _ _]
        refine kZ rfl (a_again rfl rfl (.next .here) rfl (by simp [eqV, eqA, eqL, kindEq, intEq_eq, eqV_sl hl1.spot, eqV_sl hl2.spot, eqV_sl hr.spot, eqV_sl hc.spot]) (kZ rfl (a_againr rfl rfl (hl2.at a23 (by omega)) (by simp [eqV, kindEq, intEq_eq]) (kZ rfl (a_again rfl rfl (.next .here) rfl (by simp [eqV, eqA, eqL, kindEq, intEq_eq, eqV_sl hl1.spot, eqV_sl hl2.spot, eqV_sl hr.spot, eqV_sl hc.spot]) (kZ rfl (a_againr rfl rfl (hl2.at a22 (by omega)) (by simp [eqV, kindEq, intEq_eq]) (kZ rfl (a_again rfl rfl (.next .here) rfl (by simp [eqV, eqA, eqL, kindEq, intEq_eq, eqV_sl hl1.spot, eqV_sl hl2.spot, eqV_sl hr.spot, eqV_sl hc.spot]) (kZ rfl (a_again rfl rfl (.next .here) rfl (by simp [eqV, eqA, eqL, kindEq, intEq_eq, eqV_sl hl1.spot, eqV_sl hl2.spot, eqV_sl hr.spot, eqV_sl hc.spot]) (kZ rfl (a_againa rfl rfl (by decide) (.next .here) rfl (by simp [eqL, eqV, eqA, kindEq, intEq_eq, eqV_sl hl1.spot, eqV_sl hl2.spot, eqV_sl hr.spot, eqV_sl hc.spot]) (kO rfl (a_callV rfl rfl (fun s1 h1 => number_s _ _ _ _ _ _ _ _ _ _ _ _ _ s1 h1.wf (by omega) (hl1.ext hs h1.2.1) (hl2.ext hs h1.2.1) (by omega) (by omega) (by omega)) (kZ rfl (a_again rfl rfl (.next .here) rfl (by simp [eqV, eqA, eqL, kindEq, intEq_eq, eqV_sl hl1.spot, eqV_sl hl2.spot, eqV_sl hr.spot, eqV_sl hc.spot]) (kZ rfl (a_againr rfl rfl (hl2.at a23 (by omega)) (by simp [eqV, kindEq, intEq_eq]) (kZ rfl (a_again rfl rfl (.next .here) rfl (by simp [eqV, eqA, eqL, kindEq, intEq_eq, eqV_sl hl1.spot, eqV_sl hl2.spot, eqV_sl hr.spot, eqV_sl hc.spot]) (kZ rfl (a_againr rfl rfl (hl2.at a22 (by omega)) (by simp [eqV, kindEq, intEq_eq]) (kZ rfl (a_again rfl rfl (.next .here) rfl (by simp [eqV, eqA, eqL, kindEq, intEq_eq, eqV_sl hl1.spot, eqV_sl hl2.spot, eqV_sl hr.spot, eqV_sl hc.spot]) (kZ rfl (a_again rfl rfl (.next .here) rfl (by simp [eqV, eqA, eqL, kindEq, intEq_eq, eqV_sl hl1.spot, eqV_sl hl2.spot, eqV_sl hr.spot, eqV_sl hc.spot]) (kO rfl (a_callV rfl rfl (fun s1 h1 => rchange_s _ _ _ s1 h1.wf (by omega) (by omega)) (kZ rfl (a_again rfl rfl (.next .here) rfl (by simp [eqV, eqA, eqL, kindEq, intEq_eq, eqV_sl hl1.spot, eqV_sl hl2.spot, eqV_sl hr.spot, eqV_sl hc.spot]) (kO rfl (a_call rfl rfl (fun s1 h1 => rpair_s _ _ _ _ _ s1 h1.wf) (fun v1 A1 q1 => ?_))))))))))))))))))))))))))))))))))
        obtain ⟨b24, rfl, rfl⟩ := q1
        refine kO rfl (a_app rfl rfl (Src.own .here rfl (by first | (simp; done) | (simp [flatV, lmP]; done))) (.next .here) (by rw [hln]; first | exact flatV_len (Sv.h1 _ _) | exact flatV_len (Sv.h2 _ _) | exact flatV_len (Sv.h3 _ _) | exact flatV_len (Sv.h4 _ _) | exact flatV_len (Sv.h5i _ _ _) | exact flatV_len (Sv.h6 _ _)) (.inl ⟨rfl, rfl⟩) (by decide) (by omega) (by omega) (fun b25 => (kM rfl rfl (i_nil (block_n (then_n (rI (kM rfl rfl (kO rfl (a_add rfl rfl (by omega) (kM rfl rfl (i_nil (then_n ?_)))))))))))))
        exact ⟨rfl, _, _, _, (show l2.length - (k + 1) < l2.length - k by omega), (lc 1 rfl (lc 3 rfl (lc 4 rfl (lc 10 rfl (lc 11 rfl Less.nil))))), (.cons_cons _ (.cons _ (.cons_cons _ (.cons_cons _ .slnil)))), ⟨k + 1, b25, ln + 2, rfl, (by rw [acc_addr (Sv.q3_yes (y := (Sv.mk r al up l1 l2 rs cs)) (show k < l2.length by omega) (show (k : Int) + 1 < (l2.length : Int) by omega))]; first | done | rfl), rfl, by omega, (by rw [acc_lnr (Sv.q3_yes (y := (Sv.mk r al up l1 l2 rs cs)) (show k < l2.length by omega) (show (k : Int) + 1 < (l2.length : Int) by omega)), ← hln]; first | done | rfl), (by omega)⟩⟩
       ·refine i_nil (r_cond_f rfl (r_exit (then_e (then_e (block_hit (block_n (then_n (rI (kM rfl rfl (kO rfl (a_add rfl rfl (by omega) (kM rfl rfl (i_nil (then_n ?_))))))))))))))
        have hkl : k + 1 = l2.length := by omega
        have hbb := Sv.q3_end (y := (Sv.mk r al up l1 l2 rs cs)) (i := i) (show k + 1 = l2.length from hkl)
        exact ⟨rfl, _, _, _, (show l1.length - (i + 1) < l1.length - i by omega), (lc 1 rfl (lc 3 rfl (lc 4 rfl (lc 10 rfl Less.nil)))), (.cons_cons _ (.cons_cons _ (.cons_cons _ .slnil))), ⟨i + 1, b, ln, rfl, (congrArg (fun z => _ :: z) rfl |>.trans (by first | rfl | (rw [show acc (Sv.b2 (Sv.mk r al up l1 l2 rs cs)) (Sv.q3 (Sv.mk r al up l1 l2 rs cs)) (l2.length * (i + 1)) = _ from hbb]))), rfl, by omega, (hln.trans (congrArg List.length hbb.symm)), (by rw [Nat.mul_add, Nat.mul_one]; omega)⟩⟩
      ·refine i_nil (r_cond_f rfl (r_exit (then_e (then_e (block_hit (then_n (rS (kO rfl (a_fa rfl (kO rfl (a_ld rfl (.next (.next .here)) rfl (kO rfl (a_call rfl rfl (fun s1 h1 => tapes_s _ _ _ _ s1 h1.wf (by omega) (hr.ext hs h1.2.1) (by omega)) (fun v1 A1 q1 => ?_))))))))))))))
       rcases q1 with ⟨hrs, rfl, rfl⟩ | ⟨hne, bd, rfl, rfl, hWD, hDl⟩
       ·refine kM rfl rfl (i_nil (rS (kO rfl (a_lda rfl (by decide) (.next .here) rfl (kO rfl (a_callV rfl rfl (fun s1 h1 => offsets_s _ _ _ _ _ _ _ _ _ _ _ s1 h1.wf (by omega) (hl1.ext hs h1.2.1) (hl2.ext hs h1.2.1) (by omega)) (kM rfl rfl (i_nil (rQ (rS (kM rfl rfl (i_nil (r_block (r_unroll (rQ (rS (kM rfl rfl (kM rfl rfl (kO rfl (a_len0 rfl (kO rfl (a_lss rfl rfl (fun h => absurd h (by decide)) (fun _ => (i_nil (r_cond_f rfl (r_exit (then_e (then_e ?_))))))))))))))))))))))))))))
        refine block_hit (then_n (rQ (rS (kM rfl rfl (i_nil (r_block ?_))))))
        have hil : i = l1.length := by omega
        subst hil
        have hbb : acc (Sv.b2 (Sv.mk r al up l1 l2 rs cs)) (Sv.q3 (Sv.mk r al up l1 l2 rs cs)) (l2.length * l1.length) = Sv.b5 (Sv.mk r al up l1 l2 rs cs) 0 := (Sv.b4_nil (y := (Sv.mk r al up l1 l2 rs cs)) hrs).symm
        rw [hbb] at hln ⊢
        refine r_loop (fun j e A => ∃ (i b ln : Nat), e = [(1, .pointer (some ⟨b1, 0, none⟩)), (3, .pointer (some ⟨b2, 0, none⟩)), (4, .slice (some ⟨b, 0, none⟩) ln OPEN), (12, .slice none 0 0), (13, .int .i64 ((l1.length : Int) * (l2.length : Int))), (15, .int .i64 (i : Int))] ∧ A = (.row b 99 true (flatV (Sv.b5 (Sv.mk r al up l1 l2 rs cs) i)) :: (.row b2 33 false ([.int .i64 d, .int .i64 r, .slice a1 l1.length c1, .slice a2 l2.length c2, .int .i64 al, .int .i64 up]) :: (.row b1 37 false ([.int .i64 d, .int .i64 r, .slice a1 l1.length c1, .slice a2 l2.length c2, .int .i64 al, .int .i64 up, .slice a3 rs.length c3, .slice a4 cs.length c4]) :: []))) ∧ j = cs.length - i ∧ i ≤ cs.length ∧ ln = (Sv.b5 (Sv.mk r al up l1 l2 rs cs) i).length ∧ ln ≤ 606 + 120 * i) 700 844424930131968 281474976710656 ?_ (j := _) (env2 := _) (A2 := _) ?_ ?_ ?_ ?_ ⟨0, b, ln, rfl, rfl, rfl, (by omega), hln, (by omega)⟩
        rotate_left
        ·omega
        ·omega
        ·exact (lc 1 rfl (lc 3 rfl (lc 4 rfl (lc 12 rfl (lc 13 rfl (lc 15 rfl Less.nil))))))
        ·exact (.cons_cons _ (.cons_cons _ (.cons_cons _ .slnil)))
        rintro n hn j _ _ ⟨i, b, ln, rfl, rfl, rfl, hi, hln, hlb⟩
        refine rQ (rS (kM rfl rfl (kO rfl (a_fa rfl (kO rfl (a_ld rfl (.next (.next .here)) rfl (kO rfl (a_lenx rfl (by first | exact hl1.spot | exact hl2.spot | exact hr.spot | exact hc.spot) (kO rfl (a_lss rfl rfl (fun h27 => ?_) (fun h27 => ?_)))))))))))
        ·obtain ⟨q6, o6, z0, z1, z2, z3, z4, z5, ahc, hz, hat, j0, j1, j2, j3, j4, j5⟩ := hc.row6 (k := i) (by omega)
         have hat2 := hat
         obtain ⟨e0, e1, e2, e3, e4, e5, _⟩ := hat2
         have := j0.lo; have := j0.hi
         have := j1.lo; have := j1.hi
         have := j2.lo; have := j2.hi
         have := j3.lo; have := j3.hi
         have := j4.lo; have := j4.hi
         have := j5.lo; have := j5.hi
         have hcd := cpB_at hcpb hz
         refine i_nil (r_cond_t rfl (r_skip (then_n (rQ (r_block (rS (kM rfl rfl (i_nil (r_block (r_unroll (rQ (rS (kM rfl rfl (kM rfl rfl (kO rfl (a_len0 rfl (kO rfl (a_lss rfl rfl (fun h => absurd h (by decide)) (fun _ => (i_nil (r_cond_f rfl (r_exit (then_e (then_e (block_hit (block_n ?_))))))))))))))))))))))))))
         refine then_n (rI (kM rfl rfl (kO rfl (a_add rfl rfl (by omega) (kM rfl rfl (i_nil (then_n ?_)))))))
         exact ⟨rfl, _, _, _, (show cs.length - (i + 1) < cs.length - i by omega), (lc 1 rfl (lc 3 rfl (lc 4 rfl (lc 12 rfl (lc 13 rfl (lc 15 rfl Less.nil)))))), (.cons_cons _ (.cons_cons _ (.cons_cons _ .slnil))), ⟨i + 1, b, ln, rfl, (by rw [Sv.b5_nil (y := (Sv.mk r al up l1 l2 rs cs)) hrs]; first | done | rfl), rfl, by omega, (by rw [Sv.b5_nil (y := (Sv.mk r al up l1 l2 rs cs)) hrs]; exact hln), (by omega)⟩⟩
        ·refine i_nil (r_cond_f rfl (r_exit (then_e (then_e (block_hit (then_n (rQ (rS (kM rfl rfl (i_nil (r_block ?_)))))))))))
         have hic : i = cs.length := by omega
         subst hic
         refine r_loop (fun j e A => ∃ (k b ln : Nat), e = [(1, .pointer (some ⟨b1, 0, none⟩)), (3, .pointer (some ⟨b2, 0, none⟩)), (4, .slice (some ⟨b, 0, none⟩) ln OPEN), (12, .slice none 0 0), (13, .int .i64 ((l1.length : Int) * (l2.length : Int))), (17, .int .i64 (k : Int))] ∧ A = (.row b 99 true (flatV (acc (Sv.b5 (Sv.mk r al up l1 l2 rs cs) cs.length) (Sv.q6 (Sv.mk r al up l1 l2 rs cs)) k)) :: (.row b2 33 false ([.int .i64 d, .int .i64 r, .slice a1 l1.length c1, .slice a2 l2.length c2, .int .i64 al, .int .i64 up]) :: (.row b1 37 false ([.int .i64 d, .int .i64 r, .slice a1 l1.length c1, .slice a2 l2.length c2, .int .i64 al, .int .i64 up, .slice a3 rs.length c3, .slice a4 cs.length c4]) :: []))) ∧ j = rs.length - k ∧ k ≤ rs.length ∧ ln = (acc (Sv.b5 (Sv.mk r al up l1 l2 rs cs) cs.length) (Sv.q6 (Sv.mk r al up l1 l2 rs cs)) k).length ∧ ln ≤ 3006 + 2 * k) 600 281474976710656 281474976710656 ?_ (j := _) (env2 := _) (A2 := _) ?_ ?_ ?_ ?_ ⟨0, b, ln, rfl, rfl, rfl, (by omega), hln, (by omega)⟩
         rotate_left
         ·omega
         ·omega
         ·exact (lc 1 rfl (lc 3 rfl (lc 4 rfl (lc 12 rfl (lc 13 rfl (lc 17 rfl Less.nil))))))
         ·exact (.cons_cons _ (.cons_cons _ (.cons_cons _ .slnil)))
         rintro n hn j _ _ ⟨k, b, ln, rfl, rfl, rfl, hk, hln, hlb⟩
         refine rQ (rS (kM rfl rfl (kO rfl (a_fa rfl (kO rfl (a_ld rfl (.next (.next .here)) rfl (kO rfl (a_lenx rfl (by first | exact hl1.spot | exact hl2.spot | exact hr.spot | exact hc.spot) (kO rfl (a_lss rfl rfl (fun h29 => ?_) (fun h29 => ?_)))))))))))
         ·exfalso; rw [hrs] at h29; simp at h29; omega
         ·refine i_nil (r_cond_f rfl (r_exit (then_e (then_e (block_hit (then_n (rS (kM rfl rfl (kM rfl rfl (i_nil (r_ret ?_)))))))))))
          have hkr : k = rs.length := by omega
          subst hkr
          subst hln
          exact end1A rfl (.cons_cons _ (.cons _ (.cons _ .slnil))) ⟨b, rfl, rfl⟩
       ·refine kM rfl rfl (i_nil (rS (kO rfl (a_lda rfl (by decide) (.next (.next .here)) rfl (kO rfl (a_callV rfl rfl (fun s1 h1 => offsets_s _ _ _ _ _ _ _ _ _ _ _ s1 h1.wf (by omega) (hl1.ext hs h1.2.1) (hl2.ext hs h1.2.1) (by omega)) (kM rfl rfl (i_nil (rQ (rS (kM rfl rfl (i_nil (r_block (r_front (.next .here) ?_))))))))))))))
        have hil : i = l1.length := by omega
        subst hil
        refine r_loop (fun j e A => ∃ (k b ln : Nat), e = [(1, .pointer (some ⟨b1, 0, none⟩)), (3, .pointer (some ⟨b2, 0, none⟩)), (4, .slice (some ⟨b, 0, none⟩) ln OPEN), (12, .slice (some ⟨bd, 0, none⟩) (dys rs).length OPEN), (13, .int .i64 ((l1.length : Int) * (l2.length : Int))), (14, .int .i64 (k : Int))] ∧ A = (.row b 99 true (flatV (acc (Sv.b3 (Sv.mk r al up l1 l2 rs cs)) (Sv.q4 (Sv.mk r al up l1 l2 rs cs)) k)) :: (.row bd 71 true (flatV (dys rs)) :: (.row b2 33 false ([.int .i64 d, .int .i64 r, .slice a1 l1.length c1, .slice a2 l2.length c2, .int .i64 al, .int .i64 up]) :: (.row b1 37 false ([.int .i64 d, .int .i64 r, .slice a1 l1.length c1, .slice a2 l2.length c2, .int .i64 al, .int .i64 up, .slice a3 rs.length c3, .slice a4 cs.length c4]) :: [])))) ∧ j = (dys rs).length - k ∧ k ≤ (dys rs).length ∧ ln = (acc (Sv.b3 (Sv.mk r al up l1 l2 rs cs)) (Sv.q4 (Sv.mk r al up l1 l2 rs cs)) k).length ∧ ln ≤ 486 + 2 * k) 400 281474976710656 281474976710656 ?_ (j := _) (env2 := _) (A2 := _) ?_ ?_ ?_ ?_ ⟨0, b, ln, rfl, rfl, rfl, (by omega), hln, (by omega)⟩
        rotate_left
        ·omega
        ·omega
        ·exact (lc 1 rfl (lc 3 rfl (lc 4 rfl (lc 12 rfl (lc 13 rfl (lc 14 rfl Less.nil))))))
        ·exact (.cons_cons _ (.cons_cons _ (.cons_cons _ (.cons_cons _ .slnil))))
        rintro n hn j _ _ ⟨k, b, ln, rfl, rfl, rfl, hk, hln, hlb⟩
        refine rQ (rS (kM rfl rfl (kM rfl rfl (kO rfl (a_len rfl (kO rfl (a_lss rfl rfl (fun h30 => ?_) (fun h30 => ?_))))))))
        ·obtain ⟨p, q, hx, ip, iq⟩ := hWD.at2 (j := k) (by omega)
         have hxm := List.mem_of_getElem? hx
         refine i_nil (r_cond_t rfl (r_skip (then_n (rQ (r_block (rI (kM rfl rfl (kM rfl rfl (kO rfl (a_add rfl rfl (by omega) (kM rfl rfl (kO rfl (a_add rfl rfl (by omega) (kO rfl (a_fa rfl (kO rfl (a_ld rfl (.next (.next .here)) rfl (kO rfl (a_call rfl rfl (fun s1 h1 => rpair_s _ _ _ _ _ s1 h1.wf) (fun v1 A1 q1 => ?_))))))))))))))))))))
         obtain ⟨b31, rfl, rfl⟩ := q1
         refine kO rfl (a_app rfl rfl (Src.own .here rfl (by first | (simp; done) | (simp [flatV, lmP]; done))) (.next .here) (by rw [hln]; first | exact flatV_len (Sv.h1 _ _) | exact flatV_len (Sv.h2 _ _) | exact flatV_len (Sv.h3 _ _) | exact flatV_len (Sv.h4 _ _) | exact flatV_len (Sv.h5i _ _ _) | exact flatV_len (Sv.h6 _ _)) (.inl ⟨rfl, rfl⟩) (by decide) (by omega) (by omega) (fun b32 => (kM rfl rfl (i_nil (block_n (then_n (rI (kM rfl rfl (kO rfl (a_add rfl rfl (by omega) (kM rfl rfl (i_nil (then_n ?_)))))))))))))
         exact ⟨rfl, _, _, _, (show (dys rs).length - (k + 1) < (dys rs).length - k by omega), (lc 1 rfl (lc 3 rfl (lc 4 rfl (lc 12 rfl (lc 13 rfl (lc 14 rfl Less.nil)))))), (.cons_cons _ (.cons _ (.cons_cons _ (.cons_cons _ (.cons_cons _ .slnil))))), ⟨k + 1, b32, ln + 2, rfl, (by rw [acc_add (show Sv.q4 (Sv.mk r al up l1 l2 rs cs) k = lmP 0 ((l1.length : Int) * (l2.length : Int) + 1 + (k : Int)) 1000 1000 r from rfl)]; first | done | rfl), rfl, by omega, (by rw [acc_ln (show Sv.q4 (Sv.mk r al up l1 l2 rs cs) k = lmP 0 ((l1.length : Int) * (l2.length : Int) + 1 + (k : Int)) 1000 1000 r from rfl), ← hln]; first | done | rfl), (by omega)⟩⟩
        ·refine i_nil (r_cond_f rfl (r_exit (then_e (then_e (block_hit (then_n (rQ (rS (kM rfl rfl (i_nil (r_block ?_)))))))))))
         have hkl : k = (dys rs).length := by omega
         subst hkl
         refine r_loop (fun j e A => ∃ (i b ln : Nat), e = [(1, .pointer (some ⟨b1, 0, none⟩)), (3, .pointer (some ⟨b2, 0, none⟩)), (4, .slice (some ⟨b, 0, none⟩) ln OPEN), (12, .slice (some ⟨bd, 0, none⟩) (dys rs).length OPEN), (13, .int .i64 ((l1.length : Int) * (l2.length : Int))), (15, .int .i64 (i : Int))] ∧ A = (.row b 99 true (flatV (Sv.b5 (Sv.mk r al up l1 l2 rs cs) i)) :: (.row bd 71 true (flatV (dys rs)) :: (.row b2 33 false ([.int .i64 d, .int .i64 r, .slice a1 l1.length c1, .slice a2 l2.length c2, .int .i64 al, .int .i64 up]) :: (.row b1 37 false ([.int .i64 d, .int .i64 r, .slice a1 l1.length c1, .slice a2 l2.length c2, .int .i64 al, .int .i64 up, .slice a3 rs.length c3, .slice a4 cs.length c4]) :: [])))) ∧ j = cs.length - i ∧ i ≤ cs.length ∧ ln = (Sv.b5 (Sv.mk r al up l1 l2 rs cs) i).length ∧ ln ≤ 606 + 120 * i) 700 844424930131968 281474976710656 ?_ (j := _) (env2 := _) (A2 := _) ?_ ?_ ?_ ?_ ⟨0, b, ln, rfl, rfl, rfl, (by omega), hln, (by omega)⟩
         rotate_left
         ·omega
         ·omega
         ·exact (lc 1 rfl (lc 3 rfl (lc 4 rfl (lc 12 rfl (lc 13 rfl (lc 15 rfl Less.nil))))))
         ·exact (.cons_cons _ (.cons_cons _ (.cons_cons _ (.cons_cons _ .slnil))))
         rintro n hn j _ _ ⟨i, b, ln, rfl, rfl, rfl, hi, hln, hlb⟩
         refine rQ (rS (kM rfl rfl (kO rfl (a_fa rfl (kO rfl (a_ld rfl (.next (.next (.next .here))) rfl (kO rfl (a_lenx rfl (by first | exact hl1.spot | exact hl2.spot | exact hr.spot | exact hc.spot) (kO rfl (a_lss rfl rfl (fun h33 => ?_) (fun h33 => ?_)))))))))))
         ·obtain ⟨q6, o6, z0, z1, z2, z3, z4, z5, ahc, hz, hat, j0, j1, j2, j3, j4, j5⟩ := hc.row6 (k := i) (by omega)
          have hat2 := hat
          obtain ⟨e0, e1, e2, e3, e4, e5, _⟩ := hat2
          have := j0.lo; have := j0.hi
          have := j1.lo; have := j1.hi
          have := j2.lo; have := j2.hi
          have := j3.lo; have := j3.hi
          have := j4.lo; have := j4.hi
          have := j5.lo; have := j5.hi
          have hcd := cpB_at hcpb hz
          refine i_nil (r_cond_t rfl (r_skip (then_n (rQ (r_block (rS (kM rfl rfl (i_nil (r_block (r_loop (fun j e A => ∃ (k b ln : Nat), e = [(1, .pointer (some ⟨b1, 0, none⟩)), (3, .pointer (some ⟨b2, 0, none⟩)), (4, .slice (some ⟨b, 0, none⟩) ln OPEN), (12, .slice (some ⟨bd, 0, none⟩) (dys rs).length OPEN), (13, .int .i64 ((l1.length : Int) * (l2.length : Int))), (15, .int .i64 (i : Int)), (16, .int .i64 (k : Int))] ∧ A = (.row b 99 true (flatV (acc (Sv.b5 (Sv.mk r al up l1 l2 rs cs) i) (Sv.q5 (Sv.mk r al up l1 l2 rs cs) i) k)) :: (.row bd 71 true (flatV (dys rs)) :: (.row b2 33 false ([.int .i64 d, .int .i64 r, .slice a1 l1.length c1, .slice a2 l2.length c2, .int .i64 al, .int .i64 up]) :: (.row b1 37 false ([.int .i64 d, .int .i64 r, .slice a1 l1.length c1, .slice a2 l2.length c2, .int .i64 al, .int .i64 up, .slice a3 rs.length c3, .slice a4 cs.length c4]) :: [])))) ∧ j = (dys rs).length - k ∧ k ≤ (dys rs).length ∧ ln = (acc (Sv.b5 (Sv.mk r al up l1 l2 rs cs) i) (Sv.q5 (Sv.mk r al up l1 l2 rs cs) i) k).length ∧ ln ≤ 606 + 120 * i + 2 * k) 400 0 281474976710656 ?_ (j := _) (env2 := _) (A2 := _) ?_ ?_ ?_ ?_ ⟨0, b, ln, rfl, rfl, rfl, (by omega), hln, (by omega)⟩))))))))))
          rotate_left
          ·omega
          ·omega
          ·exact (lc 1 rfl (lc 3 rfl (lc 4 rfl (lc 12 rfl (lc 13 rfl (lc 15 rfl (lc 16 rfl Less.nil)))))))
          ·exact (.cons_cons _ (.cons_cons _ (.cons_cons _ (.cons_cons _ .slnil))))
          rintro n hn j _ _ ⟨k, b, ln, rfl, rfl, rfl, hk, hln, hlb⟩
          refine rQ (rS (kM rfl rfl (kM rfl rfl (kO rfl (a_len rfl (kO rfl (a_lss rfl rfl (fun h34 => ?_) (fun h34 => ?_))))))))
          ·obtain ⟨p, q, hx, ip, iq⟩ := hWD.at2 (j := k) (by omega)
           have hxm := List.mem_of_getElem? hx
           refine i_nil (r_cond_t rfl (r_skip (then_n (rQ (r_block (rI (kM rfl rfl (kO rfl (a_fa rfl (kO rfl (a_ld rfl (.next (.next (.next .here))) rfl (kM rfl rfl (kO rfl (a_iaA (j := i) ahc rfl rfl (by first | rfl | omega) (by first | decide | omega) (kO rfl (a_ldar rfl (by decide) (by assumption) rfl (kM rfl rfl (kM rfl rfl (kO rfl (a_ia (j := k) rfl rfl (by omega) (by omega) (kO rfl (a_lda rfl (by decide) (.next .here) (flat_seg0 hWD.len hx) (kM rfl rfl (kO rfl (a_add rfl rfl (by omega) (kM rfl rfl (kO rfl (a_add rfl rfl (by omega) (kO rfl (a_call rfl rfl (fun s1 h1 => rtold_s _ _ _ _ _ _ _ _ _ _ s1 h1.wf (by omega)) (fun v1 A1 q1 => ?_)))))))))))))))))))))))))))))))
           rcases q1 with ⟨hno, rfl, rfl⟩ | ⟨hyes, bt, rfl, rfl⟩
           ·refine kO rfl (a_app0 rfl rfl .here (by rw [hln]; first | exact flatV_len (Sv.h1 _ _) | exact flatV_len (Sv.h2 _ _) | exact flatV_len (Sv.h3 _ _) | exact flatV_len (Sv.h4 _ _) | exact flatV_len (Sv.h5i _ _ _) | exact flatV_len (Sv.h6 _ _)) (by omega) (by omega) (kM rfl rfl (i_nil (block_n (then_n (rI (kM rfl rfl (kO rfl (a_add rfl rfl (by omega) (kM rfl rfl (i_nil (then_n ?_))))))))))))
            exact ⟨rfl, _, _, _, (show (dys rs).length - (k + 1) < (dys rs).length - k by omega), (lc 1 rfl (lc 3 rfl (lc 4 rfl (lc 12 rfl (lc 13 rfl (lc 15 rfl (lc 16 rfl Less.nil))))))), (.cons_cons _ (.cons_cons _ (.cons_cons _ (.cons_cons _ .slnil)))), ⟨k + 1, b, ln, rfl, (by rw [acc_no (Sv.q5_no (y := (Sv.mk r al up l1 l2 rs cs)) hz hx hno)]; first | done | rfl), rfl, by omega, (by rw [acc_no (Sv.q5_no (y := (Sv.mk r al up l1 l2 rs cs)) hz hx hno)]; exact hln), (by omega)⟩⟩
           ·refine kO rfl (a_app rfl rfl (Src.own .here rfl (by first | (simp; done) | (simp [flatV, lmP]; done))) (.next .here) (by rw [hln]; first | exact flatV_len (Sv.h1 _ _) | exact flatV_len (Sv.h2 _ _) | exact flatV_len (Sv.h3 _ _) | exact flatV_len (Sv.h4 _ _) | exact flatV_len (Sv.h5i _ _ _) | exact flatV_len (Sv.h6 _ _)) (.inl ⟨rfl, rfl⟩) (by decide) (by omega) (by omega) (fun b35 => (kM rfl rfl (i_nil (block_n (then_n (rI (kM rfl rfl (kO rfl (a_add rfl rfl (by omega) (kM rfl rfl (i_nil (then_n ?_)))))))))))))
            exact ⟨rfl, _, _, _, (show (dys rs).length - (k + 1) < (dys rs).length - k by omega), (lc 1 rfl (lc 3 rfl (lc 4 rfl (lc 12 rfl (lc 13 rfl (lc 15 rfl (lc 16 rfl Less.nil))))))), (.cons_cons _ (.cons _ (.cons_cons _ (.cons_cons _ (.cons_cons _ .slnil))))), ⟨k + 1, b35, ln + 2, rfl, (by rw [acc_add (Sv.q5_yes (y := (Sv.mk r al up l1 l2 rs cs)) hz hx hyes)]; first | done | rfl), rfl, by omega, (by rw [acc_ln (Sv.q5_yes (y := (Sv.mk r al up l1 l2 rs cs)) hz hx hyes), ← hln]; first | done | rfl), (by omega)⟩⟩
          ·refine i_nil (r_cond_f rfl (r_exit (then_e (then_e (block_hit (block_n (then_n (rI (kM rfl rfl (kO rfl (a_add rfl rfl (by omega) (kM rfl rfl (i_nil (then_n ?_))))))))))))))
           have hkl : k = (dys rs).length := by omega
           subst hkl
           exact ⟨rfl, _, _, _, (show cs.length - (i + 1) < cs.length - i by omega), (lc 1 rfl (lc 3 rfl (lc 4 rfl (lc 12 rfl (lc 13 rfl (lc 15 rfl Less.nil)))))), (.cons_cons _ (.cons_cons _ (.cons_cons _ (.cons_cons _ .slnil)))), ⟨i + 1, b, ln, rfl, rfl, rfl, by omega, hln, (by omega)⟩⟩
         ·refine i_nil (r_cond_f rfl (r_exit (then_e (then_e (block_hit (then_n (rQ (rS (kM rfl rfl (i_nil (r_block ?_)))))))))))
          have hic : i = cs.length := by omega
          subst hic
          refine r_loop (fun j e A => ∃ (k b ln : Nat), e = [(1, .pointer (some ⟨b1, 0, none⟩)), (3, .pointer (some ⟨b2, 0, none⟩)), (4, .slice (some ⟨b, 0, none⟩) ln OPEN), (12, .slice (some ⟨bd, 0, none⟩) (dys rs).length OPEN), (13, .int .i64 ((l1.length : Int) * (l2.length : Int))), (17, .int .i64 (k : Int))] ∧ A = (.row b 99 true (flatV (acc (Sv.b5 (Sv.mk r al up l1 l2 rs cs) cs.length) (Sv.q6 (Sv.mk r al up l1 l2 rs cs)) k)) :: (.row bd 71 true (flatV (dys rs)) :: (.row b2 33 false ([.int .i64 d, .int .i64 r, .slice a1 l1.length c1, .slice a2 l2.length c2, .int .i64 al, .int .i64 up]) :: (.row b1 37 false ([.int .i64 d, .int .i64 r, .slice a1 l1.length c1, .slice a2 l2.length c2, .int .i64 al, .int .i64 up, .slice a3 rs.length c3, .slice a4 cs.length c4]) :: [])))) ∧ j = rs.length - k ∧ k ≤ rs.length ∧ ln = (acc (Sv.b5 (Sv.mk r al up l1 l2 rs cs) cs.length) (Sv.q6 (Sv.mk r al up l1 l2 rs cs)) k).length ∧ ln ≤ 3006 + 2 * k) 600 281474976710656 281474976710656 ?_ (j := _) (env2 := _) (A2 := _) ?_ ?_ ?_ ?_ ⟨0, b, ln, rfl, rfl, rfl, (by omega), hln, (by omega)⟩
          rotate_left
          ·omega
          ·omega
          ·exact (lc 1 rfl (lc 3 rfl (lc 4 rfl (lc 12 rfl (lc 13 rfl (lc 17 rfl Less.nil))))))
          ·exact (.cons_cons _ (.cons_cons _ (.cons_cons _ (.cons_cons _ .slnil))))
          rintro n hn j _ _ ⟨k, b, ln, rfl, rfl, rfl, hk, hln, hlb⟩
          refine rQ (rS (kM rfl rfl (kO rfl (a_fa rfl (kO rfl (a_ld rfl (.next (.next (.next .here))) rfl (kO rfl (a_lenx rfl (by first | exact hl1.spot | exact hl2.spot | exact hr.spot | exact hc.spot) (kO rfl (a_lss rfl rfl (fun h36 => ?_) (fun h36 => ?_)))))))))))
          ·obtain ⟨q7, o7, x0, x1, x2, x3, x4, x5, x6, ahr, hx, hat, i0, i1, i2, i3, i4, i5, i6⟩ := hr.row7 (k := k) (by omega)
           have hat2 := hat
           obtain ⟨d0, d1, d2, d3, d4, d5, d6, _⟩ := hat2
           have := i0.lo; have := i0.hi
           have := i1.lo; have := i1.hi
           have := i2.lo; have := i2.hi
           have := i3.lo; have := i3.hi
           have := i4.lo; have := i4.hi
           have := i5.lo; have := i5.hi
           have := i6.lo; have := i6.hi
           have hxm := dys_mem hx
           have hrd := rdB_at hrdb hx
           refine i_nil (r_cond_t rfl (r_skip (then_n (rQ (r_block (rS (kO rfl (a_fa rfl (kO rfl (a_ld rfl (.next (.next (.next .here))) rfl (kM rfl rfl (kO rfl (a_iaA (j := k) ahr rfl rfl (by first | rfl | omega) (by first | decide | omega) (kO rfl (a_ldar rfl (by decide) (by assumption) rfl (kO rfl (a_new rfl rfl (fun b37 => (kZ rfl (a_sta rfl rfl .here rfl rfl rfl rfl (i_nil (rS (kO rfl (a_lda rfl (by decide) (.next (.next (.next .here))) rfl (kO rfl (a_fa rfl (kO rfl (a_ld rfl .here rfl (kO rfl (a_fa rfl (kO rfl (a_ld rfl .here rfl (kO rfl (a_callV rfl rfl (fun s1 h1 => number_s _ _ _ _ _ _ _ _ _ _ _ _ _ s1 h1.wf (by omega) (hl1.ext hs h1.2.1) (hl2.ext hs h1.2.1) (by omega) (by omega) (by omega)) (kM rfl rfl (i_nil ?_))))))))))))))))))))))))))))))))))))
           refine rS (kM rfl rfl (kO rfl (a_add rfl rfl (by omega) (kM rfl rfl (kO rfl (a_fa rfl (kO rfl (a_ld rfl .here rfl (kO rfl (a_fa rfl (kO rfl (a_ld rfl .here rfl (kO rfl (a_build rfl rfl (kO rfl (a_callV rfl rfl (fun s1 h1 => index_s _ _ _ _ _ _ s1 h1.wf (by omega) (RowsE.ownF (h1.own (.next (.next .here))) hWD (by omega))) ?_))))))))))))))))
           rw [idxI_mem hxm]
           have hixl := ixN_lt hxm
           refine kO rfl (a_add rfl rfl (by omega) (kM rfl rfl (i_nil (rI (kM rfl rfl (kM rfl rfl (kM rfl rfl (kO rfl (a_fa rfl (kO rfl (a_ld rfl .here rfl (kO rfl (a_fa rfl (kO rfl (a_ld rfl .here rfl (kO rfl (a_add rfl rfl (by omega) (kO rfl (a_fa rfl (kO rfl (a_ld rfl .here rfl (kO rfl (a_build rfl rfl (kM rfl rfl (kM rfl rfl (kO rfl (a_fa rfl (kO rfl (a_ld rfl .here rfl (kO rfl (a_fa rfl (kO rfl (a_ld rfl .here rfl (kO rfl (a_sub rfl rfl (by omega) (kO rfl (a_fa rfl (kO rfl (a_ld rfl .here rfl ?_)))))))))))))))))))))))))))))))))))))))
           refine kO rfl (a_build rfl rfl (kO rfl (a_lit rfl rfl rfl (fun b38 => (kO rfl (a_app rfl rfl (Src.own .here rfl (by first | (simp; done) | (simp [flatV, lmP]; done))) (.next (.next .here)) (by rw [hln]; first | exact flatV_len (Sv.h1 _ _) | exact flatV_len (Sv.h2 _ _) | exact flatV_len (Sv.h3 _ _) | exact flatV_len (Sv.h4 _ _) | exact flatV_len (Sv.h5i _ _ _) | exact flatV_len (Sv.h6 _ _)) (.inl ⟨rfl, rfl⟩) (by decide) (by omega) (by omega) (fun b39 => (kM rfl rfl (i_nil (block_n (then_n (rI (kM rfl rfl (kO rfl (a_add rfl rfl (by omega) (kM rfl rfl (i_nil (then_n ?_))))))))))))))))))
           exact ⟨rfl, _, _, _, (show rs.length - (k + 1) < rs.length - k by omega), (lc 1 rfl (lc 3 rfl (lc 4 rfl (lc 12 rfl (lc 13 rfl (lc 17 rfl Less.nil)))))), (.cons_cons _ (.cons _ (.cons _ (.cons_cons _ (.cons_cons _ (.cons_cons _ .slnil)))))), ⟨k + 1, b39, ln + 2, rfl, (by rw [acc_add (Sv.q6_at (y := (Sv.mk r al up l1 l2 rs cs)) hx)]; first | done | rfl), rfl, by omega, (by rw [acc_ln (Sv.q6_at (y := (Sv.mk r al up l1 l2 rs cs)) hx), ← hln]; first | done | rfl), (by omega)⟩⟩
          ·refine i_nil (r_cond_f rfl (r_exit (then_e (then_e (block_hit (then_n (rS (kM rfl rfl (kM rfl rfl (i_nil (r_ret ?_)))))))))))
           have hkr : k = rs.length := by omega
           subst hkr
           subst hln
           exact end1A rfl (.cons_cons _ (.cons _ (.cons _ (.cons _ .slnil)))) ⟨b, rfl, rfl⟩
  ·exfalso; omega
 ·exfalso; omega

end
end Ev
end Go.Proofs.YtfhfjcfhanmbiaaGreat
