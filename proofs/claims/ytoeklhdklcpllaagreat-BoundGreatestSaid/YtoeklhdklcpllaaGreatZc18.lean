import Derived.Test.YtoeklhdklcpllaaGreatZc17
import Derived.Test.YtoeklhdklcpllaaGreatZc09
import Derived.Test.YtoeklhdklcpllaaGreatProg
import Derived.KernelRfl
import Derived.Test.YtoeklhdklcpllaaGreatZc08
import Derived.Test.YtoeklhdklcpllaaGreatZc06
set_option linter.unusedVariables false
set_option linter.unusedSimpArgs false
namespace Go.Proofs.YtoeklhdklcpllaaGreat
open Go Go.RowKit
namespace Ev
section
variable {X : FuncId -> List Value -> St -> (Value -> St -> Bool) -> Bool}
set_option maxHeartbeats 2000000 in
set_option maxRecDepth 100000 in
theorem BoundGreatest_s (n : Nat) (r0 : Int) (ar : Option Addr) (cr : Nat) (rs : List (List Int)) (a1 : Option Addr) (c1 : Nat) (l1 : List Int) (a2 : Option Addr) (c2 : Nat) (l2 : List Int) (ap : Option Addr) (cp : Nat) (us : List (List Int)) (bd : Int) (s : St) (hs : Wf s) (hn : 11258999068426240 <= n) (hR : RowsE s 4 ar rs) (hI1 : IntsE s a1 l1) (hI2 : IntsE s a2 l2) (hU : RowsE s 2 ap us) : Spec Tryz.prog (tabK tabw) (knownX 13) (n + 12000) 5 [.agg ⟨[.int .i64 r0, .slice ar rs.length cr]⟩, .agg ⟨[.slice a1 l1.length c1, .slice a2 l2.length c2]⟩, .agg ⟨[.int .i64 bd, .slice ap us.length cp]⟩] s (fun v A => v = .bool true /\ A = []) := by
 refine enter bw5_at rfl hs ?_
 unfold bw5
 have hlen := hR.len
 have hlen1 := hI1.len
 have hlen2 := hI2.len
 have hlenU := hU.len
 refine rS (kO rfl (a_box rfl rfl rfl (fun b1 => (kO rfl (a_box rfl rfl rfl (fun b2 => (kO rfl (a_box rfl rfl rfl (fun b3 => (kM rfl rfl (i_nil (rS (kO rfl (a_lda rfl (by decide) (.next (.next .here)) rfl (kO rfl (a_call rfl rfl (fun s1 h1 => made_s _ r0 ar cr rs s1 h1.wf (by omega) (hR.ext hs h1.2.1)) (fun v1 A1 q1 => ?_)))))))))))))))))
 obtain ⟨aT, cT, TL, rfl, hA9, hTR⟩ := q1
 rw [hA9]
 obtain ⟨hM1, hM6, hMe⟩ := mdM_bd (r0 := r0)
 generalize mdM r0 = M at *
 have hlm := mdL_lm (rs := rs) hM1 hM6
 have hlw := mdL_w (rs := rs) hM1 hM6
 have hft := mdL_fit (rs := rs) hM1 hM6
 have hsys := mdL_sys (rs := rs) hM1 hM6
 have hl20 := mdL_len (M := M) (rs := rs)
 generalize mdL M rs = ls at *
 obtain ⟨hTL, _, hcl⟩ := hTR.ok
 have hLg := lg_of hlm
 have h400 : ls.length <= 400 := by omega
 have hM : M <= 64 := by omega
 refine kO rfl (a_new rfl rfl (fun b4 => (kZ rfl (a_sta rfl rfl .here rfl rfl rfl rfl (i_nil (rS (kO rfl (a_lda rfl (by decide) .here rfl (kO rfl (a_iaa (j := 0) rfl rfl (by decide) (by decide) (kO rfl (a_ld rfl (.next (.app (.next .here))) rfl (kO rfl (a_call rfl rfl (fun s1 h1 => weights_s _ M aT cT _ a1 c1 l1 s1 h1.wf (by omega) (hI1.ext hs h1.2.1) hM) (fun v1 A1 q1 => ?_)))))))))))))))
 obtain ⟨bw5, opw, cW, rfl, hTw, rfl⟩ := q1
 rw [List.singleton_append]
 have hwl : (wgL l1 (M + 1)).length = M + 1 := wgL_len
 have hwo : WOk (wgL l1 (M + 1)) (wgL l1 (M + 1)).length := wgL_ok (by omega)
 have hwf : ∀ z ∈ wgL l1 (M + 1), -9223372036854775808 <= z /\ z < 9223372036854775808 := wgL_fit
 generalize wgL l1 (M + 1) = w at *
 refine kM rfl rfl (i_nil (rS (kO rfl (a_lda rfl (by decide) (.next .here) rfl (kO rfl (a_iaa (j := 1) rfl rfl (by decide) (by decide) (kO rfl (a_ld rfl (.next (.next (.app (.next .here)))) rfl (kO rfl (a_call rfl rfl (fun s1 h1 => Point_s _ (M : Int) aT cT ls a2 c2 l2 s1 h1.wf (by omega) (hTL.rows (.cons _ (.cons _ (List.sublist_append_left _ _))) h1 hLg (by omega) (by omega) hft) (hI2.ext hs h1.2.1)) (fun v1 A1 q1 => ?_)))))))))))
 rcases q1 with ⟨hp, rfl, rfl⟩ | ⟨hp, hpu, rfl, rfl⟩ | ⟨hp, hpu, q1⟩
 ·exact absurd hsys hp
 ·change Uns ls (M + 1) at hpu
  refine kM rfl rfl (kO rfl (a_ext rfl rfl (kO rfl (a_ext rfl rfl (kM rfl rfl (kM rfl rfl (i_nil (rS (kO rfl (a_lda rfl (by decide) (.next .here) rfl (kM rfl rfl (kO rfl (a_call rfl rfl (fun s1 h1 => Most_v _ M aT cT ls _ _ w s1 h1.wf (by omega) (hTL.rows (.cons _ (.cons _ (List.sublist_append_left _ _))) h1 hLg (by omega) (by omega) hft) hcl (IntsE.own (h1.own .here) hwf (by omega)) (cap_tight hTw (h1.own .here) (by rw [ints_len]; omega)) hsys hwl hwo) (fun v1 A1 q1 => ?_))))))))))))))
  rcases q1 with ⟨hz1, rfl, rfl⟩ | ⟨hz1, hz2, rfl, rfl⟩ | ⟨hz1, q1⟩
  ·refine kM rfl rfl (kO rfl (a_ext rfl rfl (kO rfl (a_ext rfl rfl (kM rfl rfl (kM rfl rfl (i_nil (rS (kO rfl (a_lda rfl (by decide) (.next .here) rfl (kM rfl rfl (kO rfl (a_call rfl rfl (fun s1 h1 => Best_v _ M aT cT ls _ _ w s1 h1.wf (by omega) (hTL.rows (.cons _ (.cons _ (List.sublist_append_left _ _))) h1 hLg (by omega) (by omega) hft) hcl (IntsE.own (h1.own .here) hwf (by omega)) (cap_tight hTw (h1.own .here) (by rw [ints_len]; omega)) hsys hwl hwo) (fun v1 A1 q1 => ?_))))))))))))))
   rcases q1 with ⟨hz1, rfl, rfl⟩ | ⟨hz1, hz2, rfl, rfl⟩ | ⟨hz1, q1⟩
   ·refine kM rfl rfl (kO rfl (a_ext rfl rfl (kO rfl (a_ext rfl rfl (kM rfl rfl (kM rfl rfl (i_nil (rS (kO rfl (a_lda rfl (by decide) (.next .here) rfl (kM rfl rfl (kO rfl (a_call rfl rfl (fun s1 h1 => Prove_v _ M aT cT ls _ _ w s1 h1.wf (by omega) (hTL.rows (.cons _ (.cons _ (List.sublist_append_left _ _))) h1 hLg (by omega) (by omega) hft) hcl (IntsE.own (h1.own .here) hwf (by omega)) (cap_tight hTw (h1.own .here) (by rw [ints_len]; omega)) hsys hwl hwo) (fun v1 A1 q1 => ?_))))))))))))))
    rcases q1 with ⟨hz1, rfl, rfl⟩ | ⟨hz1, hz2, rfl, rfl⟩ | ⟨hz1, q1⟩
    ·refine kM rfl rfl (kO rfl (a_ext rfl rfl (kO rfl (a_ext rfl rfl (kO rfl (a_new rfl rfl (fun b7 => (kZ rfl (a_sta rfl rfl .here rfl rfl rfl rfl (kM rfl rfl (i_nil (rS (kO rfl (a_lda rfl (by decide) (.next (.next .here)) rfl (kM rfl rfl (kO rfl (a_lda rfl (by decide) (.next (.next (.next (.app .here)))) rfl (kO rfl (a_call rfl rfl (fun s1 h1 => CheckProof_v _ M aT cT ls _ _ w ap cp _ us bd s1 h1.wf (by omega) (hTL.rows (.cons _ (.cons _ (.cons _ (List.sublist_append_left _ _)))) h1 hLg (by omega) (by omega) hft) (IntsE.own (h1.own (.next .here)) hwf (by omega)) rfl (hU.ext hs h1.2.1) hsys hwl hwo) (fun v1 A1 q1 => ?_))))))))))))))))))))
     rcases q1 with ⟨h4u, had, rfl, rfl⟩ | ⟨hnad, rfl, rfl⟩
     ·refine kO rfl (a_eql rfl rfl (fun _ => (kM rfl rfl (i_nil (rQ (rS (kM rfl rfl (kO rfl (a_neq rfl rfl (fun _ => (i_nil (r_cond_t rfl (rS (kM rfl rfl (kM rfl rfl (kO rfl (a_eql rfl rfl (fun _ => (kM rfl rfl (kG rfl rfl (a_mov rfl (kG rfl rfl (a_mov rfl (kG rfl rfl (a_eql rfl rfl (fun _ => (kO rfl (a_pick_t rfl rfl rfl (kM rfl rfl (kG rfl rfl (a_mov rfl (kG rfl rfl (a_mov rfl (kG rfl rfl (a_eql rfl rfl (fun _ => (kO rfl (a_pick_t rfl rfl rfl (kM rfl rfl ?_)))) (fun h => absurd h (by decide)))))))))))) (fun h => absurd h (by decide)))))))))) (fun h => absurd h (by decide)))))))))) (fun h => absurd h (by decide)))))))))) (fun h => absurd h (by decide)))
      refine kG rfl rfl (a_callV rfl rfl (fun s1 h1 => known_s _ s1 h1.wf) (kO rfl (a_pick_t rfl rfl rfl (kM rfl rfl (i_nil (r_ret (then_r ?_)))))))
      exact end1 rfl ⟨rfl, rfl⟩
     ·refine kO rfl (a_eql rfl rfl (fun h => absurd h (by decide)) (fun _ => (kM rfl rfl (i_nil (rQ (rS (kM rfl rfl (kO rfl (a_neq rfl rfl (fun _ => (i_nil (r_cond_t rfl (rS (kM rfl rfl (kM rfl rfl (kO rfl (a_eql rfl rfl (fun _ => (kM rfl rfl (kG rfl rfl (a_mov rfl (kG rfl rfl (a_mov rfl (kG rfl rfl (a_eql rfl rfl (fun _ => (kO rfl (a_pick_t rfl rfl rfl (kM rfl rfl (kG rfl rfl (a_mov rfl (kG rfl rfl (a_mov rfl (kG rfl rfl (a_eql rfl rfl (fun _ => (kO rfl (a_pick_t rfl rfl rfl (kM rfl rfl ?_)))) (fun h => absurd h (by decide)))))))))))) (fun h => absurd h (by decide)))))))))) (fun h => absurd h (by decide)))))))))) (fun h => absurd h (by decide)))))))))))
      refine kG rfl rfl (a_callV rfl rfl (fun s1 h1 => known_s _ s1 h1.wf) (kO rfl (a_pick_t rfl rfl rfl (kM rfl rfl (i_nil (r_ret (then_r ?_)))))))
      exact end1 rfl ⟨rfl, rfl⟩
    ·exact absurd hpu hz1
    ·exact absurd hpu hz1
   ·exact absurd hpu hz1
   ·exact absurd hpu hz1
  ·exact absurd hpu hz1
  ·exact absurd hpu hz1
 ·obtain ⟨bp6, opp, cpp, Dp, rfl, rfl, hDT⟩ := q1
  change ¬ Uns ls (M + 1) at hpu
  change DT ls (M + 1) Dp at hDT
  rw [show ((M : Int).toNat) = M from rfl, List.singleton_append]
  obtain ⟨y, hy, hyb⟩ := set_pt hlm h400 hM hpu
  have hS := hDT.sm hy hyb
  have hpt := ptL_pt (ps := l2) hlm hDT hS hM
  have hfit := nb_fit (ptL_ok (ps := l2) hDT hS hM (Nat.le_refl M)).2.1 (by omega)
  have hx0 := (ptL_ok (ps := l2) hDT hS hM (Nat.le_refl M)).2.2
  have hsm := ptL_sm (ps := l2) hDT hS (hDT.smC hlm hy hlw (by decide) hM6) (by decide) hM (Nat.le_refl M)
  have hln : (ptL Dp l2 M).length = M + 1 := ptL_len
  generalize ptL Dp l2 M = x at *
  have hxb : inB (-1280000) 1280000 x = true := in_upto (k := M + 1) (fun u hu => by have := hsm u (by omega); omega) (by omega)
  have hkx := kp_all hlm (pt_kp hpt)
  refine kM rfl rfl (kO rfl (a_ext rfl rfl (kO rfl (a_ext rfl rfl (kM rfl rfl (kM rfl rfl (i_nil (rS (kO rfl (a_lda rfl (by decide) (.next (.next .here)) rfl (kM rfl rfl (kO rfl (a_call rfl rfl (fun s1 h1 => Most_v _ M aT cT ls _ _ w s1 h1.wf (by omega) (hTL.rows (.cons _ (.cons _ (.cons _ (List.sublist_append_left _ _)))) h1 hLg (by omega) (by omega) hft) hcl (IntsE.own (h1.own (.next .here)) hwf (by omega)) (cap_tight hTw (h1.own (.next .here)) (by rw [ints_len]; omega)) hsys hwl hwo) (fun v1 A1 q1 => ?_))))))))))))))
  rcases q1 with ⟨hz1, rfl, rfl⟩ | ⟨hz1, hz2, rfl, rfl⟩ | ⟨hz1, q1⟩
  ·exact absurd hz1 hpu
  ·have hopn := hz2
   refine kM rfl rfl (kO rfl (a_ext rfl rfl (kO rfl (a_ext rfl rfl (kM rfl rfl (kM rfl rfl (i_nil (rS (kO rfl (a_lda rfl (by decide) (.next (.next .here)) rfl (kM rfl rfl (kO rfl (a_call rfl rfl (fun s1 h1 => Best_v _ M aT cT ls _ _ w s1 h1.wf (by omega) (hTL.rows (.cons _ (.cons _ (.cons _ (List.sublist_append_left _ _)))) h1 hLg (by omega) (by omega) hft) hcl (IntsE.own (h1.own (.next .here)) hwf (by omega)) (cap_tight hTw (h1.own (.next .here)) (by rw [ints_len]; omega)) hsys hwl hwo) (fun v1 A1 q1 => ?_))))))))))))))
   rcases q1 with ⟨hz1, rfl, rfl⟩ | ⟨hz1, hz2, rfl, rfl⟩ | ⟨hz1, q1⟩
   ·exact absurd hz1 hpu
   ·refine kM rfl rfl (kO rfl (a_ext rfl rfl (kO rfl (a_ext rfl rfl (kM rfl rfl (kM rfl rfl (i_nil (rS (kO rfl (a_lda rfl (by decide) (.next (.next .here)) rfl (kM rfl rfl (kO rfl (a_call rfl rfl (fun s1 h1 => Prove_v _ M aT cT ls _ _ w s1 h1.wf (by omega) (hTL.rows (.cons _ (.cons _ (.cons _ (List.sublist_append_left _ _)))) h1 hLg (by omega) (by omega) hft) hcl (IntsE.own (h1.own (.next .here)) hwf (by omega)) (cap_tight hTw (h1.own (.next .here)) (by rw [ints_len]; omega)) hsys hwl hwo) (fun v1 A1 q1 => ?_))))))))))))))
    rcases q1 with ⟨hz1, rfl, rfl⟩ | ⟨hz1, hz2, rfl, rfl⟩ | ⟨hz1, q1⟩
    ·exact absurd hz1 hpu
    ·refine kM rfl rfl (kO rfl (a_ext rfl rfl (kO rfl (a_ext rfl rfl (kO rfl (a_new rfl rfl (fun b18 => (kZ rfl (a_sta rfl rfl .here rfl rfl rfl rfl (kM rfl rfl (i_nil (rS (kO rfl (a_lda rfl (by decide) (.next (.next (.next .here))) rfl (kM rfl rfl (kO rfl (a_lda rfl (by decide) (.next (.next (.next (.next (.app .here))))) rfl (kO rfl (a_call rfl rfl (fun s1 h1 => CheckProof_v _ M aT cT ls _ _ w ap cp _ us bd s1 h1.wf (by omega) (hTL.rows (.cons _ (.cons _ (.cons _ (.cons _ (List.sublist_append_left _ _))))) h1 hLg (by omega) (by omega) hft) (IntsE.own (h1.own (.next (.next .here))) hwf (by omega)) rfl (hU.ext hs h1.2.1) hsys hwl hwo) (fun v1 A1 q1 => ?_))))))))))))))))))))
     rcases q1 with ⟨h4u, had, rfl, rfl⟩ | ⟨hnad, rfl, rfl⟩
     ·exact (ad_opn hlm had hopn).elim
     ·refine kO rfl (a_eql rfl rfl (fun h => absurd h (by decide)) (fun _ => (kM rfl rfl (i_nil (rQ (rS (kM rfl rfl (kO rfl (a_neq rfl rfl (fun h => absurd h (by decide)) (fun _ => (i_nil (r_cond_f rfl (r_skip (then_n (rS (kM rfl rfl (kM rfl rfl (kO rfl (a_callV rfl rfl (fun s1 h1 => Value_k _ M _ _ w _ _ _ x s1 h1.wf (by omega) hM (IntsE.own (h1.own (.next (.next .here))) hwf (by omega)) (IntsE.own (h1.own (.next .here)) hfit (by omega)) hwl hwo hln rfl hxb) (kM rfl rfl (kO rfl (a_ext rfl rfl (kO rfl (a_ext rfl rfl (kM rfl rfl (kM rfl rfl (i_nil (rQ (rS (kM rfl rfl ?_))))))))))))))))))))))))))))))
      refine kO rfl (a_neq rfl rfl (fun h => absurd h (by decide)) (fun _ => (kM rfl rfl (kG rfl rfl (a_mov rfl (kG rfl rfl (a_mov rfl (i_no rfl rfl (i_no rfl rfl (i_no rfl rfl (i_no rfl rfl (kG rfl rfl (a_pick_f rfl rfl rfl (kO rfl (a_pick_f rfl rfl rfl (i_nil (r_cond_f rfl (r_skip (then_n (rQ (rS (kM rfl rfl (kO rfl (a_neq rfl rfl (fun _ => (i_nil (r_cond_t rfl (rS (kM rfl rfl (kO rfl (a_eql rfl rfl (fun _ => (kM rfl rfl ?_)) (fun h => absurd h (by decide))))))))) (fun h => absurd h (by decide))))))))))))))))))))))))))
      refine kG rfl rfl (a_mov rfl (kG rfl rfl (a_mov rfl (kG rfl rfl (a_eql rfl rfl (fun _ => (kO rfl (a_pick_t rfl rfl rfl (kM rfl rfl (kG rfl rfl (a_mov rfl (kG rfl rfl (a_mov rfl (kG rfl rfl (a_eql rfl rfl (fun _ => (kO rfl (a_pick_t rfl rfl rfl (kM rfl rfl (kG rfl rfl (a_mov rfl (kG rfl rfl (a_not rfl (kO rfl (a_pick_t rfl rfl rfl (kM rfl rfl (kG rfl rfl (a_callV rfl rfl (fun s1 h1 => known_s _ s1 h1.wf) (kO rfl (a_pick_t rfl rfl rfl (kM rfl rfl (i_nil (r_ret (then_r ?_))))))))))))))))))) (fun h => absurd h (by decide)))))))))))) (fun h => absurd h (by decide)))))))
      exact end1 rfl ⟨rfl, rfl⟩
    ·obtain ⟨t9, _, _, _, _, _, hO9, _⟩ := q1; exact (hopn.not (hN_of hlm) hO9.nn hO9.nt).elim
   ·obtain ⟨t9, _, _, hO9, _⟩ := q1; exact (hopn.not (hN_of hlm) hO9.nn hO9.nt).elim
  ·obtain ⟨t, p, hOp, hts, hpb, rfl, rfl⟩ := q1
   have hmv := dt_opt hlm hOp hx0 hkx
   refine kM rfl rfl (kO rfl (a_ext rfl rfl (kO rfl (a_ext rfl rfl (kM rfl rfl (kM rfl rfl (i_nil (rS (kO rfl (a_lda rfl (by decide) (.next (.next .here)) rfl (kM rfl rfl (kO rfl (a_call rfl rfl (fun s1 h1 => Best_v _ M aT cT ls _ _ w s1 h1.wf (by omega) (hTL.rows (.cons _ (.cons _ (.cons _ (List.sublist_append_left _ _)))) h1 hLg (by omega) (by omega) hft) hcl (IntsE.own (h1.own (.next .here)) hwf (by omega)) (cap_tight hTw (h1.own (.next .here)) (by rw [ints_len]; omega)) hsys hwl hwo) (fun v1 A1 q1 => ?_))))))))))))))
   rcases q1 with ⟨hz1, rfl, rfl⟩ | ⟨hz1, hz2, rfl, rfl⟩ | ⟨hz1, q1⟩
   ·exact absurd hz1 hpu
   ·exact (hz2.not (hN_of hlm) hOp.nn hOp.nt).elim
   ·obtain ⟨t2, bb26, x2, hOp2, hts2, hxl2, hx02, hxb2, rfl, rfl⟩ := q1
    rw [List.singleton_append]
    have hub := dt_best hlm hOp hOp2 hx02
    obtain ⟨hpt2, hin2⟩ := opt_pt hlm hOp2 hxl2 hx02 hxb2
    have hfit2 := fit_in hin2
    refine kM rfl rfl (kO rfl (a_ext rfl rfl (kO rfl (a_ext rfl rfl (kM rfl rfl (kM rfl rfl (i_nil (rS (kO rfl (a_lda rfl (by decide) (.next (.next (.next .here))) rfl (kM rfl rfl (kO rfl (a_call rfl rfl (fun s1 h1 => Prove_v _ M aT cT ls _ _ w s1 h1.wf (by omega) (hTL.rows (.cons _ (.cons _ (.cons _ (.cons _ (List.sublist_append_left _ _))))) h1 hLg (by omega) (by omega) hft) hcl (IntsE.own (h1.own (.next (.next .here))) hwf (by omega)) (cap_tight hTw (h1.own (.next (.next .here))) (by rw [ints_len]; omega)) hsys hwl hwo) (fun v1 A1 q1 => ?_))))))))))))))
    rcases q1 with ⟨hz1, rfl, rfl⟩ | ⟨hz1, hz2, rfl, rfl⟩ | ⟨hz1, q1⟩
    ·exact absurd hz1 hpu
    ·exact (hz2.not (hN_of hlm) hOp.nn hOp.nt).elim
    ·obtain ⟨t3, p3, aV, nV, cV, VL, hOp3, ht3, hts3, rfl, rfl, hnV, hUV⟩ := q1
     have hst := opt_same hOp hOp3 (hN_of hlm)
     obtain ⟨had3, hul3⟩ := ul_ad hLg hOp3 ht3 hts3
     refine kM rfl rfl (kO rfl (a_ext rfl rfl (kO rfl (a_ext rfl rfl (kO rfl (a_new rfl rfl (fun b27 => (kZ rfl (a_sta rfl rfl .here rfl rfl rfl rfl (kM rfl rfl (i_nil (rS (kO rfl (a_lda rfl (by decide) (.next (.app (.next (.next (.next .here))))) rfl (kM rfl rfl (kO rfl (a_lda rfl (by decide) (.next (.app (.next (.next (.next (.next (.app .here))))))) rfl (kO rfl (a_call rfl rfl (fun s1 h1 => CheckProof_v _ M aT cT ls _ _ w ap cp _ us bd s1 h1.wf (by omega) (hTL.rows (.cons _ (List.sublist_append_of_sublist_right (.cons _ (.cons _ (.cons _ (.cons _ (List.sublist_append_left _ _))))))) h1 hLg (by omega) (by omega) hft) (IntsE.own (h1.own (.next (.app (.next (.next .here))))) hwf (by omega)) rfl (hU.ext hs h1.2.1) hsys hwl hwo) (fun v1 A1 q1 => ?_))))))))))))))))))))
     rcases q1 with ⟨h4u, had, rfl, rfl⟩ | ⟨hnad, rfl, rfl⟩
     ·have hle := ad_le hlm had hx0 hkx
      have hge := ad_opt hlm had hOp
      refine kO rfl (a_eql rfl rfl (fun _ => (kM rfl rfl (i_nil (rQ (rS (kM rfl rfl (kO rfl (a_neq rfl rfl (fun h => absurd h (by decide)) (fun _ => (i_nil (r_cond_f rfl (r_skip (then_n (rS (kM rfl rfl (kM rfl rfl (kO rfl (a_callV rfl rfl (fun s1 h1 => Value_k _ M _ _ w _ _ _ x s1 h1.wf (by omega) hM (IntsE.own (h1.own (.next (.app (.next (.next .here))))) hwf (by omega)) (IntsE.own (h1.own (.next (.app (.next .here)))) hfit (by omega)) hwl hwo hln rfl hxb) (kM rfl rfl (kO rfl (a_ext rfl rfl (kO rfl (a_ext rfl rfl (kM rfl rfl (kM rfl rfl (i_nil (rQ (rS (kM rfl rfl ?_))))))))))))))))))))))))))))) (fun h => absurd h (by decide)))
      refine kO rfl (a_neq rfl rfl (fun h => absurd h (by decide)) (fun _ => (kM rfl rfl (kG rfl rfl (a_mov rfl (kG rfl rfl (a_mov rfl (kG rfl rfl (a_mov rfl (kG rfl rfl (a_fa rfl (kG rfl rfl (a_ld rfl (.next (.app (.next (.next (.next (.next (.app .here))))))) rfl (kG rfl rfl (a_gtr rfl rfl (fun h31 => ?_) (fun h31 => ?_))))))))))))))))
      ·exfalso; omega
      ·refine kG rfl rfl (a_pick_t rfl rfl rfl (kO rfl (a_pick_f rfl rfl rfl (i_nil (r_cond_f rfl (r_skip (then_n (rQ (rS (kM rfl rfl (kO rfl (a_neq rfl rfl (fun h => absurd h (by decide)) (fun _ => (i_nil (r_cond_f rfl (r_skip (then_n (rS (kM rfl rfl (kM rfl rfl (kO rfl (a_callV rfl rfl (fun s1 h1 => Value_k _ M _ _ w _ _ _ x2 s1 h1.wf (by omega) hM (IntsE.own (h1.own (.next (.app (.next (.next .here))))) hwf (by omega)) (IntsE.own (h1.own (.next (.app .here))) hfit2 (by omega)) hwl hwo hxl2 rfl hin2) (kM rfl rfl (kO rfl (a_ext rfl rfl (kO rfl (a_ext rfl rfl (kM rfl rfl (kM rfl rfl (i_nil ?_))))))))))))))))))))))))))))))
       refine rQ (rS (kM rfl rfl (kO rfl (a_neq rfl rfl (fun h => absurd h (by decide)) (fun _ => (kM rfl rfl (kG rfl rfl (a_mov rfl (kG rfl rfl (a_neq rfl rfl (fun h => absurd h (by decide)) (fun _ => (kO rfl (a_pick_f rfl rfl rfl (kM rfl rfl (kG rfl rfl (a_mov rfl (kG rfl rfl (a_neq rfl rfl (fun h => absurd h (by decide)) (fun _ => (kO rfl (a_pick_f rfl rfl rfl (kM rfl rfl (kG rfl rfl (a_mov rfl (kG rfl rfl (a_mov rfl (kG rfl rfl (a_gtr rfl rfl (fun h36 => ?_) (fun h36 => ?_)))))))))))))))))))))))))))))
       ·exfalso; omega
       ·refine kO rfl (a_pick_f rfl rfl rfl (kM rfl rfl (kG rfl rfl (a_mov rfl (kG rfl rfl (a_mov rfl (kG rfl rfl (a_neq rfl rfl (fun h37 => ?_) (fun h37 => ?_)))))))))
        ·exfalso; omega
        ·refine kO rfl (a_pick_f rfl rfl rfl (kM rfl rfl (kG rfl rfl (a_lda rfl (by decide) (.next (.app (.next (.next (.next .here))))) rfl (kG rfl rfl (a_mov rfl (kG rfl rfl (a_callV rfl rfl (fun s1 h1 => CheckPoint_n _ (M : Int) aT cT ls _ _ _ x2 s1 h1.wf (by omega) (hTL.rows (.cons _ (List.sublist_append_of_sublist_right (.cons _ (.cons _ (.cons _ (.cons _ (List.sublist_append_left _ _))))))) h1 hLg (by omega) (by omega) hft) hxl2.symm (IntsE.own (h1.own (.next (.app .here))) hfit2 (by omega)) hsys hpt2) (kG rfl rfl (a_neq rfl rfl (fun h => absurd h (by decide)) (fun _ => (kO rfl (a_pick_f rfl rfl rfl (i_nil (r_cond_f rfl (r_skip (then_n (rS (kO rfl (a_lda rfl (by decide) (.next (.app (.next (.next (.next .here))))) rfl (kM rfl rfl (kO rfl (a_lda rfl (by decide) .here rfl (kO rfl (a_callV rfl rfl (fun s1 h1 => CheckProof_k _ M aT cT ls _ _ w _ _ _ (ulL t3 ls.length) _ s1 h1.wf (by omega) (hTL.rows (.cons _ (List.sublist_append_of_sublist_right (.cons _ (.cons _ (.cons _ (.cons _ (List.sublist_append_left _ _))))))) h1 hLg (by omega) (by omega) hft) (IntsE.own (h1.own (.next (.app (.next (.next .here))))) hwf (by omega)) (hUV.rows (.cons _ (List.sublist_append_left _ _)) h1 (by omega) (fun i hi => ⟨hOp3.nn i hi, ht3 i hi⟩)).2 (hUV.rows (.cons _ (List.sublist_append_left _ _)) h1 (by omega) (fun i hi => ⟨hOp3.nn i hi, ht3 i hi⟩)).1 hsys hwl hwo (by omega) had3) (kO rfl (a_eql rfl rfl (fun _ => (kM rfl rfl (kG rfl rfl (a_fa rfl (kG rfl rfl (a_ld rfl .here rfl (kG rfl rfl (a_mov rfl (kG rfl rfl (a_eql rfl rfl (fun h40 => ?_) (fun h40 => ?_))))))))))) (fun h => absurd h (by decide)))))))))))))))))))))))))))))
         ·refine kO rfl (a_pick_t rfl rfl rfl (kM rfl rfl (kG rfl rfl (a_mov rfl (kG rfl rfl (a_not rfl (kG rfl rfl (a_mov rfl (kG rfl rfl (a_fa rfl (kG rfl rfl (a_ld rfl (.next (.app (.next (.next (.next (.next (.app .here))))))) rfl (kG rfl rfl (a_mov rfl (kG rfl rfl (a_geq rfl rfl (fun h41 => ?_) (fun h41 => ?_)))))))))))))))))
          ·refine kG rfl rfl (a_pick_f rfl rfl rfl (kO rfl (a_pick_t rfl rfl rfl (kM rfl rfl (kG rfl rfl (a_callV rfl rfl (fun s1 h1 => known_s _ s1 h1.wf) (kO rfl (a_pick_t rfl rfl rfl (kM rfl rfl (i_nil (r_ret ?_)))))))))))
           exact end1 rfl ⟨rfl, rfl⟩
          ·exfalso; omega
         ·exfalso; omega
     ·refine kO rfl (a_eql rfl rfl (fun h => absurd h (by decide)) (fun _ => (kM rfl rfl (i_nil (rQ (rS (kM rfl rfl (kO rfl (a_neq rfl rfl (fun h => absurd h (by decide)) (fun _ => (i_nil (r_cond_f rfl (r_skip (then_n (rS (kM rfl rfl (kM rfl rfl (kO rfl (a_callV rfl rfl (fun s1 h1 => Value_k _ M _ _ w _ _ _ x s1 h1.wf (by omega) hM (IntsE.own (h1.own (.next (.app (.next (.next .here))))) hwf (by omega)) (IntsE.own (h1.own (.next (.app (.next .here)))) hfit (by omega)) hwl hwo hln rfl hxb) (kM rfl rfl (kO rfl (a_ext rfl rfl (kO rfl (a_ext rfl rfl (kM rfl rfl (kM rfl rfl (i_nil (rQ (rS (kM rfl rfl ?_))))))))))))))))))))))))))))))
      refine kO rfl (a_neq rfl rfl (fun h => absurd h (by decide)) (fun _ => (kM rfl rfl (kG rfl rfl (a_mov rfl (kG rfl rfl (a_mov rfl (i_no rfl rfl (i_no rfl rfl (i_no rfl rfl (i_no rfl rfl (kG rfl rfl (a_pick_f rfl rfl rfl (kO rfl (a_pick_f rfl rfl rfl (i_nil (r_cond_f rfl (r_skip (then_n (rQ (rS (kM rfl rfl (kO rfl (a_neq rfl rfl (fun h => absurd h (by decide)) (fun _ => (i_nil (r_cond_f rfl (r_skip (then_n (rS (kM rfl rfl ?_)))))))))))))))))))))))))))))))
      refine kM rfl rfl (kO rfl (a_callV rfl rfl (fun s1 h1 => Value_k _ M _ _ w _ _ _ x2 s1 h1.wf (by omega) hM (IntsE.own (h1.own (.next (.app (.next (.next .here))))) hwf (by omega)) (IntsE.own (h1.own (.next (.app .here))) hfit2 (by omega)) hwl hwo hxl2 rfl hin2) (kM rfl rfl (kO rfl (a_ext rfl rfl (kO rfl (a_ext rfl rfl (kM rfl rfl (kM rfl rfl (i_nil (rQ (rS (kM rfl rfl (kO rfl (a_neq rfl rfl (fun h => absurd h (by decide)) (fun _ => (kM rfl rfl (kG rfl rfl (a_mov rfl (kG rfl rfl (a_neq rfl rfl (fun h => absurd h (by decide)) (fun _ => (kO rfl (a_pick_f rfl rfl rfl (kM rfl rfl (kG rfl rfl (a_mov rfl (kG rfl rfl (a_neq rfl rfl (fun h => absurd h (by decide)) (fun _ => (kO rfl (a_pick_f rfl rfl rfl (kM rfl rfl (kG rfl rfl (a_mov rfl (kG rfl rfl (a_mov rfl (kG rfl rfl (a_gtr rfl rfl (fun h49 => ?_) (fun h49 => ?_))))))))))))))))))))))))))))))))))))))))
      ·exfalso; omega
      ·refine kO rfl (a_pick_f rfl rfl rfl (kM rfl rfl (kG rfl rfl (a_mov rfl (kG rfl rfl (a_mov rfl (kG rfl rfl (a_neq rfl rfl (fun h50 => ?_) (fun h50 => ?_)))))))))
       ·exfalso; omega
       ·refine kO rfl (a_pick_f rfl rfl rfl (kM rfl rfl (kG rfl rfl (a_lda rfl (by decide) (.next (.app (.next (.next (.next .here))))) rfl (kG rfl rfl (a_mov rfl (kG rfl rfl (a_callV rfl rfl (fun s1 h1 => CheckPoint_n _ (M : Int) aT cT ls _ _ _ x2 s1 h1.wf (by omega) (hTL.rows (.cons _ (List.sublist_append_of_sublist_right (.cons _ (.cons _ (.cons _ (.cons _ (List.sublist_append_left _ _))))))) h1 hLg (by omega) (by omega) hft) hxl2.symm (IntsE.own (h1.own (.next (.app .here))) hfit2 (by omega)) hsys hpt2) (kG rfl rfl (a_neq rfl rfl (fun h => absurd h (by decide)) (fun _ => (kO rfl (a_pick_f rfl rfl rfl (i_nil (r_cond_f rfl (r_skip (then_n (rS (kO rfl (a_lda rfl (by decide) (.next (.app (.next (.next (.next .here))))) rfl (kM rfl rfl (kO rfl (a_lda rfl (by decide) .here rfl (kO rfl (a_callV rfl rfl (fun s1 h1 => CheckProof_k _ M aT cT ls _ _ w _ _ _ (ulL t3 ls.length) _ s1 h1.wf (by omega) (hTL.rows (.cons _ (List.sublist_append_of_sublist_right (.cons _ (.cons _ (.cons _ (.cons _ (List.sublist_append_left _ _))))))) h1 hLg (by omega) (by omega) hft) (IntsE.own (h1.own (.next (.app (.next (.next .here))))) hwf (by omega)) (hUV.rows (.cons _ (List.sublist_append_left _ _)) h1 (by omega) (fun i hi => ⟨hOp3.nn i hi, ht3 i hi⟩)).2 (hUV.rows (.cons _ (List.sublist_append_left _ _)) h1 (by omega) (fun i hi => ⟨hOp3.nn i hi, ht3 i hi⟩)).1 hsys hwl hwo (by omega) had3) (kO rfl (a_eql rfl rfl (fun _ => (kM rfl rfl (kG rfl rfl (a_fa rfl (kG rfl rfl (a_ld rfl .here rfl (kG rfl rfl (a_mov rfl (kG rfl rfl (a_eql rfl rfl (fun h53 => ?_) (fun h53 => ?_))))))))))) (fun h => absurd h (by decide)))))))))))))))))))))))))))))
        ·refine kO rfl (a_pick_t rfl rfl rfl (kM rfl rfl (kG rfl rfl (a_mov rfl (kG rfl rfl (a_not rfl (kG rfl rfl (a_mov rfl (i_no rfl rfl (i_no rfl rfl (i_no rfl rfl (i_no rfl rfl (kG rfl rfl (a_pick_t rfl rfl rfl (kO rfl (a_pick_t rfl rfl rfl (kM rfl rfl (kG rfl rfl (a_callV rfl rfl (fun s1 h1 => known_s _ s1 h1.wf) (kO rfl (a_pick_t rfl rfl rfl (kM rfl rfl (i_nil (r_ret ?_))))))))))))))))))))))))
         exact end1 rfl ⟨rfl, rfl⟩
        ·exfalso; omega
end
end Ev
end Go.Proofs.YtoeklhdklcpllaaGreat
namespace Go.Proofs.YtoeklhdklcpllaaGreat.Ev
open Go Go.RowKit Go.ChangeShapes Go.WideShapes Go.ChangeAt Go.Joins
set_option linter.unusedVariables false
noncomputable section
theorem ints_of {s : St} {a : Option Addr} {rs : List (List Int)} (h : RowsE s 1 a rs) : IntsE s a (rs.map fun r => r.getD 0 0) := by
 have hr : ∀ r ∈ rs, r = [r.getD 0 0] := fun r hr => by
  have := h.width r hr
  match r, this with
  | [z], _ => rfl
 refine ⟨h.spot, fun hn => h.addr (by rintro rfl; exact hn rfl), fun b o ha => ?_, fun x hx => ?_, by rw [List.length_map]; exact h.len⟩
 ·have key : ∀ (l : List (List Int)) (k : Nat), (∀ i r, l[i]? = some r -> Ats s b (o + (k + i) * 1) (r.map (.int .i64))) -> (∀ r ∈ l, r = [r.getD 0 0]) -> Ats s b (o + k) (ints (l.map fun r => r.getD 0 0)) := by
   intro l
   induction l with
   | nil => intro k _ _; exact trivial
   | cons r l ih =>
    intro k h1 h2
    have q := h1 0 r rfl
    rw [h2 r (by simp)] at q
    refine ⟨?_, ?_⟩
    ·have := q.1; simpa using this
    ·have := ih (k + 1) (fun i r' hr' => by have := h1 (i + 1) r' (by simpa using hr'); rwa [show k + (i + 1) = k + 1 + i by omega] at this) (fun r' hr' => h2 r' (by simp [hr']))
     rwa [show o + (k + 1) = o + k + 1 by omega] at this
  have := key rs 0 (fun i r hr' => by rw [Nat.zero_add]; exact h.cells b o ha i r hr') hr
  simpa using this
 ·obtain ⟨r, h1, rfl⟩ := List.mem_map.1 hx
  have h2 := h.fit r h1
  rw [hr r h1] at h2 ⊢
  exact h2 _ (by simp)
end
end Go.Proofs.YtoeklhdklcpllaaGreat.Ev
namespace Go.Proofs.YtoeklhdklcpllaaGreat.Ev
open Go Go.RowKit Go.ChangeShapes Go.WideShapes Go.ChangeAt Go.Joins
set_option linter.unusedVariables false
noncomputable section
theorem weights_mem_all {H : Type} {P : Program} {e : TypeId} : ∀ {ds : List (DataW H)} {j : Nat} {d : DataW H}, ds[j]? = some d -> ∀ n ∈ d.weights P e, n ∈ DataW.weightsAll P e ds
 | [], j, d, h, _, _ => by cases j <;> cases h
 | x :: ds, 0, d, h, n, hn => by
  cases h
  rw [DataW.weightsAll]
  exact List.mem_append_left _ hn
 | x :: ds, j + 1, d, h, n, hn => by
  rw [DataW.weightsAll]
  exact List.mem_append_right _ (weights_mem_all (j := j) h n hn)
set_option maxRecDepth 100000 in
theorem int_four {H : Type} {enc : TypeId × Value -> H} {W : World} : IntCells H Tryz.prog enc W 90 4 := by
 intro base fuel sp held cs x h
 obtain ⟨xs, m, _, _, hl, hxl, hxi⟩ := DataW.trod_array Tryz.underlying90 h
 have e3 : Tryz.prog.cellsOf 90 = 4 := by kernel_rfl
 have e4 : Tryz.prog.cellsOf 3 = 1 := by kernel_rfl
 rw [e3] at hl
 match cs, hl with
 | [c0, c1, c2, c3], _ =>
  have g0 := hxi 0 (by omega)
  rw [e4] at g0
  have g1 := hxi 1 (by omega)
  rw [e4] at g1
  have g2 := hxi 2 (by omega)
  rw [e4] at g2
  have g3 := hxi 3 (by omega)
  rw [e4] at g3
  match xs, hxl with
  | [y0, y1, y2, y3], _ =>
   obtain ⟨z0, q0, _, w0⟩ := DataW.trod_int Tryz.underlying3 (show DataW.trod enc Tryz.prog W base sp held m 3 [c0] = some y0 from g0)
   obtain ⟨z1, q1, _, w1⟩ := DataW.trod_int Tryz.underlying3 (show DataW.trod enc Tryz.prog W base sp held m 3 [c1] = some y1 from g1)
   obtain ⟨z2, q2, _, w2⟩ := DataW.trod_int Tryz.underlying3 (show DataW.trod enc Tryz.prog W base sp held m 3 [c2] = some y2 from g2)
   obtain ⟨z3, q3, _, w3⟩ := DataW.trod_int Tryz.underlying3 (show DataW.trod enc Tryz.prog W base sp held m 3 [c3] = some y3 from g3)
   simp at q0 q1 q2 q3
   subst q0; subst q1; subst q2; subst q3
   exact ⟨[z0, z1, z2, z3], rfl, rfl, fun z hz => by simp at hz; rcases hz with rfl | rfl | rfl | rfl <;> first | exact wf_I64 w0 | exact wf_I64 w1 | exact wf_I64 w2 | exact wf_I64 w3⟩
theorem int_use {H : Type} {enc : TypeId × Value -> H} {W : World} : IntCells H Tryz.prog enc W 76 2 :=
 intCells_struct (ws := [1, 1]) Tryz.underlying76 (by kernel_rfl) (fun i f hf => by
  match i, hf with
  | 0, hf => cases hf; exact ⟨1, rfl, by kernel_rfl, rfl, intCells_int Tryz.underlying3⟩
  | 1, hf => cases hf; exact ⟨1, rfl, by kernel_rfl, rfl, intCells_int Tryz.underlying3⟩
  | n + 2, hf => simp at hf) rfl
set_option maxRecDepth 100000 in
set_option maxHeartbeats 2000000 in
theorem open_raw {H : Type} {enc : TypeId × Value -> H} {W : World} {r : Reach} {b0 : Nat} {v : Value} {d : DataW H} {p : List MemPlace} (hv : Value.okWide Tryz.prog W r b0 47 v) (h : DataW.Trod enc Tryz.prog W 0 (fun _ => true) true 47 v d p) (hz : ∀ x ∈ DataW.weights Tryz.prog 47 d, x <= reachBytes) :
 ∃ z0 a1 n1 c1 r1, v = .agg #[.int .i64 z0, .slice a1 n1 c1] /\ r1.length = n1 /\ NiceS W a1 n1 c1 /\ RowsE (wst W) 4 a1 r1 := by
 obtain ⟨fuel, hf⟩ := h
 simp only [Value.okWide, Tryz.underlying47] at hv
 obtain ⟨cs, rfl, hsz, ts, hts, _, hc⟩ := hv
 have e2 : Tryz.prog.cellTypes Tryz.prog.depth 47 = some [3, 45] := by kernel_rfl
 rw [e2] at hts
 cases hts
 have e3 : Tryz.prog.cellsOf 47 = 2 := by kernel_rfl
 rw [e3] at hsz
 obtain ⟨l⟩ := cs
 match l, hsz with
 | [x0, x1], _ =>
  have u0 : ∃ t, [3, 45][0]? = some t /\ Cell.okWide Tryz.prog W r b0 t x0 := by
   obtain ⟨t, h1, h2⟩ := hc 0 x0 rfl
   exact ⟨t, h1, h2⟩
  obtain ⟨t0, e0, w0⟩ := u0
  have : t0 = 3 := by simpa using e0.symm
  subst this
  have u1 : ∃ t, [3, 45][1]? = some t /\ Cell.okWide Tryz.prog W r b0 t x1 := by
   obtain ⟨t, h1, h2⟩ := hc 1 x1 rfl
   exact ⟨t, h1, h2⟩
  obtain ⟨t1, e1, w1⟩ := u1
  have : t1 = 45 := by simpa using e1.symm
  subst this
  obtain ⟨xs, m, _, hx, _, hlen, hfs⟩ := DataW.trod_struct Tryz.underlying47 hf
  have hd : d = .agg (xs.map (·.1)) := by simpa using congrArg Prod.fst hx
  have g_0 : ∃ y, xs[0]? = some y /\ DataW.trod enc Tryz.prog W 0 (fun _ => true) true m 3 [x0] = some y := by
   have hy : ∃ y, xs[0]? = some y := ⟨xs[0]'(by rw [hlen]; decide), List.getElem?_eq_getElem _⟩
   obtain ⟨y, hy⟩ := hy
   have h4 := hfs 0 _ rfl
   rw [hy] at h4
   have e4 : Tryz.prog.cellsOf 3 = 1 := by kernel_rfl
   exact ⟨y, hy, by simpa [e4, Value.cells] using h4⟩
  obtain ⟨⟨d_0, p_0⟩, gy_0, g_0⟩ := g_0
  obtain ⟨l_0, q_0, ql_0, _⟩ := intCells_int (P := Tryz.prog) Tryz.underlying3 g_0
  obtain ⟨z0, rfl⟩ : ∃ z, l_0 = [z] := by
   match l_0, ql_0 with
   | [z], _ => exact ⟨z, rfl⟩
  simp at q_0
  subst q_0
  have g_1 : ∃ y, xs[1]? = some y /\ DataW.trod enc Tryz.prog W 0 (fun _ => true) true m 45 [x1] = some y := by
   have hy : ∃ y, xs[1]? = some y := ⟨xs[1]'(by rw [hlen]; decide), List.getElem?_eq_getElem _⟩
   obtain ⟨y, hy⟩ := hy
   have h4 := hfs 1 _ rfl
   rw [hy] at h4
   have e4 : Tryz.prog.cellsOf 45 = 1 := by kernel_rfl
   exact ⟨y, hy, by simpa [e4, Value.cells] using h4⟩
  obtain ⟨⟨d_1, p_1⟩, gy_1, g_1⟩ := g_1
  obtain ⟨a1, n1, c1, rfl, hN1⟩ := cell_niceS Tryz.underlying45 w1
  have hz_1 : ∀ x ∈ DataW.weights Tryz.prog 45 d_1, x <= reachBytes := fun x hx' => hz x (by
   rw [hd]
   simp only [DataW.weights, Tryz.underlying47]
   exact DataW.weights_mem_each (j := 1) (t := 45) rfl (by rw [List.getElem?_map, gy_1]; rfl) x hx')
  obtain ⟨r1, f1, k1, _⟩ := rowsW (w := 4) (bytes := 32) Tryz.underlying45 (by kernel_rfl) (by decide) (by kernel_rfl) (by decide) int_four hN1 g_1 hz_1
  exact ⟨z0, a1, n1, c1, r1, rfl, f1, hN1, k1⟩
set_option maxRecDepth 100000 in
set_option maxHeartbeats 2000000 in
theorem open_proof {H : Type} {enc : TypeId × Value -> H} {W : World} {r : Reach} {b0 : Nat} {v : Value} {d : DataW H} {p : List MemPlace} (hv : Value.okWide Tryz.prog W r b0 35 v) (h : DataW.Trod enc Tryz.prog W 0 (fun _ => true) true 35 v d p) (hz : ∀ x ∈ DataW.weights Tryz.prog 35 d, x <= reachBytes) :
 ∃ z0 a1 n1 c1 r1, v = .agg #[.int .i64 z0, .slice a1 n1 c1] /\ r1.length = n1 /\ NiceS W a1 n1 c1 /\ RowsE (wst W) 2 a1 r1 := by
 obtain ⟨fuel, hf⟩ := h
 simp only [Value.okWide, Tryz.underlying35] at hv
 obtain ⟨cs, rfl, hsz, ts, hts, _, hc⟩ := hv
 have e2 : Tryz.prog.cellTypes Tryz.prog.depth 35 = some [3, 33] := by kernel_rfl
 rw [e2] at hts
 cases hts
 have e3 : Tryz.prog.cellsOf 35 = 2 := by kernel_rfl
 rw [e3] at hsz
 obtain ⟨l⟩ := cs
 match l, hsz with
 | [x0, x1], _ =>
  have u0 : ∃ t, [3, 33][0]? = some t /\ Cell.okWide Tryz.prog W r b0 t x0 := by
   obtain ⟨t, h1, h2⟩ := hc 0 x0 rfl
   exact ⟨t, h1, h2⟩
  obtain ⟨t0, e0, w0⟩ := u0
  have : t0 = 3 := by simpa using e0.symm
  subst this
  have u1 : ∃ t, [3, 33][1]? = some t /\ Cell.okWide Tryz.prog W r b0 t x1 := by
   obtain ⟨t, h1, h2⟩ := hc 1 x1 rfl
   exact ⟨t, h1, h2⟩
  obtain ⟨t1, e1, w1⟩ := u1
  have : t1 = 33 := by simpa using e1.symm
  subst this
  obtain ⟨xs, m, _, hx, _, hlen, hfs⟩ := DataW.trod_struct Tryz.underlying35 hf
  have hd : d = .agg (xs.map (·.1)) := by simpa using congrArg Prod.fst hx
  have g_0 : ∃ y, xs[0]? = some y /\ DataW.trod enc Tryz.prog W 0 (fun _ => true) true m 3 [x0] = some y := by
   have hy : ∃ y, xs[0]? = some y := ⟨xs[0]'(by rw [hlen]; decide), List.getElem?_eq_getElem _⟩
   obtain ⟨y, hy⟩ := hy
   have h4 := hfs 0 _ rfl
   rw [hy] at h4
   have e4 : Tryz.prog.cellsOf 3 = 1 := by kernel_rfl
   exact ⟨y, hy, by simpa [e4, Value.cells] using h4⟩
  obtain ⟨⟨d_0, p_0⟩, gy_0, g_0⟩ := g_0
  obtain ⟨l_0, q_0, ql_0, _⟩ := intCells_int (P := Tryz.prog) Tryz.underlying3 g_0
  obtain ⟨z0, rfl⟩ : ∃ z, l_0 = [z] := by
   match l_0, ql_0 with
   | [z], _ => exact ⟨z, rfl⟩
  simp at q_0
  subst q_0
  have g_1 : ∃ y, xs[1]? = some y /\ DataW.trod enc Tryz.prog W 0 (fun _ => true) true m 33 [x1] = some y := by
   have hy : ∃ y, xs[1]? = some y := ⟨xs[1]'(by rw [hlen]; decide), List.getElem?_eq_getElem _⟩
   obtain ⟨y, hy⟩ := hy
   have h4 := hfs 1 _ rfl
   rw [hy] at h4
   have e4 : Tryz.prog.cellsOf 33 = 1 := by kernel_rfl
   exact ⟨y, hy, by simpa [e4, Value.cells] using h4⟩
  obtain ⟨⟨d_1, p_1⟩, gy_1, g_1⟩ := g_1
  obtain ⟨a1, n1, c1, rfl, hN1⟩ := cell_niceS Tryz.underlying33 w1
  have hz_1 : ∀ x ∈ DataW.weights Tryz.prog 33 d_1, x <= reachBytes := fun x hx' => hz x (by
   rw [hd]
   simp only [DataW.weights, Tryz.underlying35]
   exact DataW.weights_mem_each (j := 1) (t := 33) rfl (by rw [List.getElem?_map, gy_1]; rfl) x hx')
  obtain ⟨r1, f1, k1, _⟩ := rowsW (w := 2) (bytes := 16) Tryz.underlying33 (by kernel_rfl) (by decide) (by kernel_rfl) (by decide) int_use hN1 g_1 hz_1
  exact ⟨z0, a1, n1, c1, r1, rfl, f1, hN1, k1⟩
set_option maxRecDepth 100000 in
set_option maxHeartbeats 2000000 in
theorem open_two2 {H : Type} {enc : TypeId × Value -> H} {W : World} {r : Reach} {b0 : Nat} {v : Value} {d : DataW H} {p : List MemPlace} (hv : Value.okWide Tryz.prog W r b0 48 v) (h : DataW.Trod enc Tryz.prog W 0 (fun _ => true) true 48 v d p) (hz : ∀ x ∈ DataW.weights Tryz.prog 48 d, x <= reachBytes) :
 ∃ a0 n0 c0 r0 a1 n1 c1 r1, v = .agg #[.slice a0 n0 c0, .slice a1 n1 c1] /\ r0.length = n0 /\ NiceS W a0 n0 c0 /\ RowsE (wst W) 1 a0 r0 /\ r1.length = n1 /\ NiceS W a1 n1 c1 /\ RowsE (wst W) 1 a1 r1 := by
 obtain ⟨fuel, hf⟩ := h
 simp only [Value.okWide, Tryz.underlying48] at hv
 obtain ⟨cs, rfl, hsz, ts, hts, _, hc⟩ := hv
 have e2 : Tryz.prog.cellTypes Tryz.prog.depth 48 = some [25, 25] := by kernel_rfl
 rw [e2] at hts
 cases hts
 have e3 : Tryz.prog.cellsOf 48 = 2 := by kernel_rfl
 rw [e3] at hsz
 obtain ⟨l⟩ := cs
 match l, hsz with
 | [x0, x1], _ =>
  have u0 : ∃ t, [25, 25][0]? = some t /\ Cell.okWide Tryz.prog W r b0 t x0 := by
   obtain ⟨t, h1, h2⟩ := hc 0 x0 rfl
   exact ⟨t, h1, h2⟩
  obtain ⟨t0, e0, w0⟩ := u0
  have : t0 = 25 := by simpa using e0.symm
  subst this
  have u1 : ∃ t, [25, 25][1]? = some t /\ Cell.okWide Tryz.prog W r b0 t x1 := by
   obtain ⟨t, h1, h2⟩ := hc 1 x1 rfl
   exact ⟨t, h1, h2⟩
  obtain ⟨t1, e1, w1⟩ := u1
  have : t1 = 25 := by simpa using e1.symm
  subst this
  obtain ⟨xs, m, _, hx, _, hlen, hfs⟩ := DataW.trod_array Tryz.underlying48 hf
  have hd : d = .agg (xs.map (·.1)) := by simpa using congrArg Prod.fst hx
  have g_0 : ∃ y, xs[0]? = some y /\ DataW.trod enc Tryz.prog W 0 (fun _ => true) true m 25 [x0] = some y := by
   have hy : ∃ y, xs[0]? = some y := ⟨xs[0]'(by rw [hlen]; decide), List.getElem?_eq_getElem _⟩
   obtain ⟨y, hy⟩ := hy
   have h4 := hfs 0 (by omega)
   rw [hy] at h4
   have e4 : Tryz.prog.cellsOf 25 = 1 := by kernel_rfl
   exact ⟨y, hy, by simpa [e4, Value.cells] using h4⟩
  obtain ⟨⟨d_0, p_0⟩, gy_0, g_0⟩ := g_0
  obtain ⟨a0, n0, c0, rfl, hN0⟩ := cell_niceS Tryz.underlying25 w0
  have hz_0 : ∀ x ∈ DataW.weights Tryz.prog 25 d_0, x <= reachBytes := fun x hx' => hz x (by
   rw [hd]
   simp only [DataW.weights, Tryz.underlying48]
   exact weights_mem_all (j := 0) (by rw [List.getElem?_map, gy_0]; rfl) x hx')
  obtain ⟨r0, f0, k0, _⟩ := rowsW (w := 1) (bytes := 8) Tryz.underlying25 (by kernel_rfl) (by decide) (by kernel_rfl) (by decide) (intCells_int Tryz.underlying3) hN0 g_0 hz_0
  have g_1 : ∃ y, xs[1]? = some y /\ DataW.trod enc Tryz.prog W 0 (fun _ => true) true m 25 [x1] = some y := by
   have hy : ∃ y, xs[1]? = some y := ⟨xs[1]'(by rw [hlen]; decide), List.getElem?_eq_getElem _⟩
   obtain ⟨y, hy⟩ := hy
   have h4 := hfs 1 (by omega)
   rw [hy] at h4
   have e4 : Tryz.prog.cellsOf 25 = 1 := by kernel_rfl
   exact ⟨y, hy, by simpa [e4, Value.cells] using h4⟩
  obtain ⟨⟨d_1, p_1⟩, gy_1, g_1⟩ := g_1
  obtain ⟨a1, n1, c1, rfl, hN1⟩ := cell_niceS Tryz.underlying25 w1
  have hz_1 : ∀ x ∈ DataW.weights Tryz.prog 25 d_1, x <= reachBytes := fun x hx' => hz x (by
   rw [hd]
   simp only [DataW.weights, Tryz.underlying48]
   exact weights_mem_all (j := 1) (by rw [List.getElem?_map, gy_1]; rfl) x hx')
  obtain ⟨r1, f1, k1, _⟩ := rowsW (w := 1) (bytes := 8) Tryz.underlying25 (by kernel_rfl) (by decide) (by kernel_rfl) (by decide) (intCells_int Tryz.underlying3) hN1 g_1 hz_1
  exact ⟨a0, n0, c0, r0, a1, n1, c1, r1, rfl, f0, hN0, k0, f1, hN1, k1⟩
end
end Go.Proofs.YtoeklhdklcpllaaGreat.Ev
namespace Go.Proofs.YtoeklhdklcpllaaGreat
open Go Go.RowKit
namespace Ev
set_option maxRecDepth 1000000 in
theorem sane_yes : yesK Tryz.prog tabw 3000 13 = true := by kernel_rfl
end Ev
theorem sane_w (w : World) : Calls Tryz.prog 13 #[] w fun e w' => e = .returned (.bool true) /\ Below w.heap.size w w' := Ev.yes_ok Ev.tabw_holds Ev.sane_yes w
end Go.Proofs.YtoeklhdklcpllaaGreat
