import Derived.Test.YtoeklhdklcpllaaZe14
import Derived.Test.YtoeklhdklcpllaaZe09
import Derived.Test.YtoeklhdklcpllaaProg
import Derived.KernelRfl
import Derived.Test.YtoeklhdklcpllaaZe08
import Derived.Test.YtoeklhdklcpllaaZe06
set_option linter.unusedVariables false
set_option linter.unusedSimpArgs false
namespace Go.Proofs.Ytoeklhdklcpllaa
open Go Go.RowKit
namespace Ev
theorem bit_t {k i : Nat} (hk : k < 128) : evBin Try.prog .and 3 0 (.int .i64 ((k / 2 ^ i : Nat) : Int)) (.int .i64 1) = some (.int .i64 ((bt k i : Nat) : Int)) := and_t (div_le128 hk)
theorem bit0_t {k : Nat} (hk : k < 128) : evBin Try.prog .and 3 0 (.int .i64 (k : Int)) (.int .i64 1) = some (.int .i64 ((bt k 0 : Nat) : Int)) := by
 have h := and_t hk
 have e : bt k 0 = k % 2 := by unfold bt; rw [Nat.pow_zero, Nat.div_one]
 rw [e]; exact h
theorem md_again {M : Nat} (h1 : 1 <= M) (h2 : M <= 6) : mdM ((M : Int) - 1) = M := by
 have e9 : modN ((M : Int) - 1) 6 = (M : Int) - 1 := modN_sm (by omega) (by omega)
 unfold mdM; rw [e9]; omega
theorem fit_app {M : Nat} {ls : List (List Int)} {y0 y1 y2 y3 : Int} (hM : M <= 6) (hft : ∀ r ∈ ls, r.length = 4 /\ ∀ x ∈ r, -9223372036854775808 <= x /\ x < 9223372036854775808) (hc : (0 <= (M : Int) /\ (M : Int) <= 64) /\ (0 <= y0 /\ y0 <= (M : Int)) /\ (0 <= y1 /\ y1 <= (M : Int)) /\ ¬ y0 = y1 /\ (-20000 <= y2 /\ y2 <= 20000) /\ (1 <= y3 /\ y3 <= 99999)) : ∀ r ∈ ls ++ [[y0, y1, y2, y3]], r.length = 4 /\ ∀ x ∈ r, -9223372036854775808 <= x /\ x < 9223372036854775808 := fun r hr => by
 rcases List.mem_append.1 hr with q | q
 ·exact hft r q
 ·rw [List.mem_singleton.1 q]
  refine ⟨rfl, fun x hx => ?_⟩
  simp only [List.mem_cons, List.not_mem_nil, or_false] at hx
  omega
theorem sys_app {M : Nat} {ls : List (List Int)} {y0 y1 y2 y3 : Int} (hM : M <= 6) (hl : ls.length <= 20) (h : lmB (M : Int) (ls ++ [[y0, y1, y2, y3]]) = true) : sysE (M : Int) (ls ++ [[y0, y1, y2, y3]]) = 0 := by
 have hln2 : (ls ++ [[y0, y1, y2, y3]]).length = ls.length + 1 := by rw [List.length_append]; rfl
 unfold sysE
 rw [if_pos (by omega), if_neg (by omega), if_pos h]
section
variable {X : FuncId -> List Value -> St -> (Value -> St -> Bool) -> Bool}
theorem With_v (n : Nat) (M : Nat) (al : Option Addr) (cl : Nat) (ls : List (List Int)) (y0 y1 y2 y3 : Int) (s : St) (hs : Wf s) (hn : 844424930131968 <= n) (hL : RowsE s 4 al ls) (hcl : al = none -> cl = 0) (hM : M <= 64) (h399 : ls.length < 400) (hsys : sysE (M : Int) ls = 0) (hc : (0 <= (M : Int) /\ (M : Int) <= 64) /\ (0 <= y0 /\ y0 <= (M : Int)) /\ (0 <= y1 /\ y1 <= (M : Int)) /\ ¬ y0 = y1 /\ (-20000 <= y2 /\ y2 <= 20000) /\ (1 <= y3 /\ y3 <= 99999)) : Spec Try.prog (tabK tabw) X (n + 800) 11 [.agg ⟨[.int .i64 (M : Int), .slice al ls.length cl]⟩, .agg ⟨[.int .i64 y0, .int .i64 y1, .int .i64 y2, .int .i64 y3]⟩] s (fun v A => ∃ a2 c2 TL, v = .tuple #[.agg ⟨[.int .i64 (M : Int), .slice a2 (ls.length + 1) c2]⟩, .int .i64 0] /\ A = TL /\ TlR 38 a2 (ls.length + 1) c2 (ls ++ [[y0, y1, y2, y3]]) TL) := by
 by_cases e : ls = []
 ·subst e
  exact With_e n M al cl y0 y1 y2 y3 s hs hn hL.spot hcl hM hsys hc
 ·exact With_n n M al cl ls y0 y1 y2 y3 s hs hn hL e hM h399 hsys hc
set_option maxHeartbeats 600000 in
set_option maxRecDepth 100000 in
theorem BoundOpens_s (n : Nat) (r0 : Int) (ar : Option Addr) (cr : Nat) (rs : List (List Int)) (a1 : Option Addr) (c1 : Nat) (l1 : List Int) (w0 w1 w2 w3 : Int) (s : St) (hs : Wf s) (hn : 16888498602639360 <= n) (hR : RowsE s 4 ar rs) (hI1 : IntsE s a1 l1) (hw4 : I64 w0 /\ I64 w1 /\ I64 w2 /\ I64 w3) : Spec Try.prog (tabK tabw) (knownX 12) (n + 13500) 3 [.agg ⟨[.int .i64 r0, .slice ar rs.length cr]⟩, .slice a1 l1.length c1, .agg ⟨[.int .i64 w0, .int .i64 w1, .int .i64 w2, .int .i64 w3]⟩] s (fun v A => v = .bool true /\ A = []) := by
 refine enter bw3_at rfl hs ?_
 unfold bw3
 have hlen := hR.len
 have hlen1 := hI1.len
 refine rS (kO rfl (a_box rfl rfl rfl (fun b1 => (kO rfl (a_box rfl rfl rfl (fun b2 => (kM rfl rfl (i_nil (rS (kO rfl (a_lda rfl (by decide) (.next .here) rfl (kO rfl (a_call rfl rfl (fun s1 h1 => made_s _ r0 ar cr rs s1 h1.wf (by omega) (hR.ext hs h1.2.1)) (fun v1 A1 q1 => ?_))))))))))))))
 obtain ⟨aT, cT, TL, rfl, hA9, hTR⟩ := q1
 rw [hA9]
 obtain ⟨hM1, hM6, hMe⟩ := mdM_bd (r0 := r0)
 generalize mdM r0 = M at *
 have hlm := mdL_lm (rs := rs) hM1 hM6
 have hlw := mdL_w (rs := rs) hM1 hM6
 have hft := mdL_fit (rs := rs) hM1 hM6
 have hsys := mdL_sys (rs := rs) hM1 hM6
 have hl20 := mdL_len (M := M) (rs := rs)
 generalize mdL M rs = ls at *
 obtain ⟨hTL, _, hcl⟩ := hTR.ok
 have hLg := lg_of hlm
 have h400 : ls.length <= 400 := by omega
 have hM : M <= 64 := by omega
 refine kO rfl (a_new rfl rfl (fun b3 => (kZ rfl (a_sta rfl rfl .here rfl rfl rfl rfl (i_nil (rS (kO rfl (a_lda rfl (by decide) .here rfl (kM rfl rfl (kO rfl (a_call rfl rfl (fun s1 h1 => weights_s _ M aT cT _ a1 c1 l1 s1 h1.wf (by omega) (hI1.ext hs h1.2.1) hM) (fun v1 A1 q1 => ?_))))))))))))
 obtain ⟨bw4, opw, cW, rfl, hTw, rfl⟩ := q1
 rw [List.singleton_append]
 have hwl : (wgL l1 (M + 1)).length = M + 1 := wgL_len
 have hwo : WOk (wgL l1 (M + 1)) (wgL l1 (M + 1)).length := wgL_ok (by omega)
 have hwf : ∀ z ∈ wgL l1 (M + 1), -9223372036854775808 <= z /\ z < 9223372036854775808 := wgL_fit
 have hwb : ∀ v, v < M + 1 -> -30 <= (wgL l1 (M + 1)).getD v 0 /\ (wgL l1 (M + 1)).getD v 0 <= 30 := fun v hv => by rw [wgL_get hv]; exact wgV_bd
 generalize wgL l1 (M + 1) = w at *
 refine kM rfl rfl (i_nil (rS (kO rfl (a_lda rfl (by decide) (.next .here) rfl (kM rfl rfl (kO rfl (a_call rfl rfl (fun s1 h1 => Most_v _ M aT cT ls _ _ w s1 h1.wf (by omega) (hTL.rows (.cons _ (.cons _ (List.sublist_append_left _ _))) h1 hLg (by omega) (by omega) hft) hcl (IntsE.own (h1.own .here) hwf (by omega)) (cap_tight hTw (h1.own .here) (by rw [ints_len]; omega)) hsys hwl hwo) (fun v1 A1 q1 => ?_))))))))
 rcases q1 with ⟨hz1, rfl, rfl⟩ | ⟨hz1, hz2, rfl, rfl⟩ | ⟨hz1, q1⟩
 ·rw [List.nil_append]
  refine kM rfl rfl (kO rfl (a_ext rfl rfl (kO rfl (a_ext rfl rfl (kM rfl rfl (kM rfl rfl (i_nil (rS (kO rfl (a_fa rfl (kO rfl (a_ld rfl (.next .here) rfl (kO rfl (a_sub rfl rfl (by omega) (kO rfl (a_lda rfl (by decide) (.next (.next (.app .here))) rfl (kO rfl (a_lit rfl rfl rfl (fun b5 => (kO rfl (a_build rfl rfl (kO rfl (a_call rfl rfl (fun s1 h1 => made_s _ ((M : Int) - 1) _ _ [[w0, w1, w2, w3]] s1 h1.wf (by omega) (rows_lit (h1.own .here) hw4)) (fun v1 A1 q1 => ?_))))))))))))))))))))))))
  obtain ⟨aM, cM, ML, rfl, hA8, hTM⟩ := q1
  rw [hA8]
  have hmm := md_again hM1 hM6
  rw [hmm] at hTM ⊢
  have hmr : mdL M [[w0, w1, w2, w3]] = [mdRow M w0 w1 w2 w3] := rfl
  rw [hmr] at hTM ⊢
  obtain ⟨y0, y1, y2, y3, hyr, hyc, hyw, _⟩ := md_ok (r := [w0, w1, w2, w3]) hM1 hM6
  have hyr : mdRow M w0 w1 w2 w3 = [y0, y1, y2, y3] := hyr
  rw [hyr] at hTM ⊢
  obtain ⟨hTLM, _, _⟩ := hTM.ok
  obtain ⟨bM, opM, haM, howM⟩ := hTLM.own (show 0 < 1 by decide)
  have hl1 : ([[y0, y1, y2, y3]] : List (List Int)).length = 1 := rfl
  refine kO rfl (a_new rfl rfl (fun b6 => (kZ rfl (a_sta rfl rfl .here rfl rfl rfl rfl (i_nil (rS (kO rfl (a_lda rfl (by decide) (.next (.app (.next (.next .here)))) rfl (kO rfl (a_fa rfl (kO rfl (a_ld rfl .here rfl (kO rfl (a_iaA (j := 0) haM rfl rfl (by first | rfl | omega) (by first | decide | omega) (kO rfl (a_lda rfl (by decide) (.next (howM _)) (limC_seg (ts := [[y0, y1, y2, y3]]) (k := 0) rfl) (kO rfl (a_new rfl rfl (fun b7 => (kO rfl (a_call rfl rfl (fun s1 h1 => With_v _ M aT cT ls y0 y1 y2 y3 s1 h1.wf (by omega) (hTL.rows (.cons _ (.cons _ (List.sublist_append_of_sublist_right (.cons _ (.cons _ (.cons _ (List.sublist_append_left _ _))))))) h1 hLg (by omega) (by omega) hft) hcl hM (by omega) hsys hyc) (fun v1 A1 q1 => ?_))))))))))))))))))))))
  obtain ⟨aW, cW9, WL, rfl, hA7, hTW⟩ := q1
  rw [hA7]
  obtain ⟨hTLW, _, hclW⟩ := hTW.ok
  have hlm2 := lm_app hlm hyc
  have hLg2 := lg_of hlm2
  have hft2 := fit_app hM6 hft hyc
  have hln2 : (ls ++ [[y0, y1, y2, y3]]).length = ls.length + 1 := by rw [List.length_append]; rfl
  rw [<- hln2]
  have hsys2 := sys_app hM6 hl20 hlm2
  refine kM rfl rfl (kO rfl (a_ext rfl rfl (kO rfl (a_ext rfl rfl (kZ rfl (a_sta rfl rfl (.app .here) rfl rfl rfl rfl (kM rfl rfl (i_nil (rS (kO rfl (a_lda rfl (by decide) (.app .here) rfl (kM rfl rfl (kO rfl (a_call rfl rfl (fun s1 h1 => Most_v _ M aW cW9 (ls ++ [[y0, y1, y2, y3]]) _ _ w s1 h1.wf (by omega) (hTLW.rows (List.sublist_append_left _ _) h1 hLg2 (by omega) (by omega) hft2) hclW (IntsE.own (h1.own (.app (.next (.next (.app (.next .here)))))) hwf (by omega)) (cap_tight hTw (h1.own (.app (.next (.next (.app (.next .here)))))) (by rw [ints_len]; omega)) hsys2 hwl hwo) (fun v1 A1 q1 => ?_)))))))))))))))
  rcases q1 with ⟨hz1, rfl, rfl⟩ | ⟨hz1, hz2, rfl, rfl⟩ | ⟨hz1, q1⟩
  ·rw [List.nil_append]
   refine kM rfl rfl (kO rfl (a_ext rfl rfl (kO rfl (a_ext rfl rfl (kM rfl rfl (kM rfl rfl (i_nil (rQ (rS (kM rfl rfl (kO rfl (a_neq rfl rfl (fun h => absurd h (by decide)) (fun _ => (kM rfl rfl (kG rfl rfl (a_mov rfl (kG rfl rfl (a_eql rfl rfl (fun h => absurd h (by decide)) (fun _ => (kG rfl rfl (a_mov rfl (i_no rfl rfl (i_no rfl rfl (kG rfl rfl (a_pick_f rfl rfl rfl (kG rfl rfl (a_mov rfl (i_no rfl rfl (i_no rfl rfl (kG rfl rfl (a_pick_f rfl rfl rfl (kO rfl (a_pick_f rfl rfl rfl (i_nil (r_cond_f rfl ?_)))))))))))))))))))))))))))))))))))
   refine r_skip (then_n (rQ (rS (kM rfl rfl (kO rfl (a_neq rfl rfl (fun _ => (i_nil (r_cond_t rfl (rS (kM rfl rfl (kO rfl (a_eql rfl rfl (fun h => absurd h (by decide)) (fun _ => (kM rfl rfl (kG rfl rfl (a_mov rfl (kG rfl rfl (a_eql rfl rfl (fun _ => (kO rfl (a_pick_f rfl rfl rfl (kM rfl rfl (kG rfl rfl (a_callV rfl rfl (fun s1 h1 => known_s _ s1 h1.wf) (kO rfl (a_pick_t rfl rfl rfl (kM rfl rfl (i_nil (r_ret (then_r ?_)))))))))))) (fun h => absurd h (by decide))))))))))))))) (fun h => absurd h (by decide))))))))
   exact end1 rfl ⟨rfl, rfl⟩
  ·rw [List.nil_append]
   refine kM rfl rfl (kO rfl (a_ext rfl rfl (kO rfl (a_ext rfl rfl (kM rfl rfl (kM rfl rfl (i_nil (rQ (rS (kM rfl rfl (kO rfl (a_neq rfl rfl (fun h => absurd h (by decide)) (fun _ => (kM rfl rfl (kG rfl rfl (a_mov rfl (kG rfl rfl (a_eql rfl rfl (fun h => absurd h (by decide)) (fun _ => (kG rfl rfl (a_mov rfl (i_no rfl rfl (i_no rfl rfl (kG rfl rfl (a_pick_f rfl rfl rfl (kG rfl rfl (a_mov rfl (i_no rfl rfl (i_no rfl rfl (kG rfl rfl (a_pick_f rfl rfl rfl (kO rfl (a_pick_f rfl rfl rfl (i_nil (r_cond_f rfl ?_)))))))))))))))))))))))))))))))))))
   refine r_skip (then_n (rQ (rS (kM rfl rfl (kO rfl (a_neq rfl rfl (fun _ => (i_nil (r_cond_t rfl (rS (kM rfl rfl (kO rfl (a_eql rfl rfl (fun h => absurd h (by decide)) (fun _ => (kM rfl rfl (kG rfl rfl (a_mov rfl (kG rfl rfl (a_eql rfl rfl (fun _ => (kO rfl (a_pick_f rfl rfl rfl (kM rfl rfl (kG rfl rfl (a_callV rfl rfl (fun s1 h1 => known_s _ s1 h1.wf) (kO rfl (a_pick_t rfl rfl rfl (kM rfl rfl (i_nil (r_ret (then_r ?_)))))))))))) (fun h => absurd h (by decide))))))))))))))) (fun h => absurd h (by decide))))))))
   exact end1 rfl ⟨rfl, rfl⟩
  ·obtain ⟨t2, p2, hOp2, hts2, hpb2, rfl, rfl⟩ := q1
   rw [List.nil_append]
   refine kM rfl rfl (kO rfl (a_ext rfl rfl (kO rfl (a_ext rfl rfl (kM rfl rfl (kM rfl rfl (i_nil (rQ (rS (kM rfl rfl (kO rfl (a_neq rfl rfl (fun h => absurd h (by decide)) (fun _ => (kM rfl rfl (kG rfl rfl (a_mov rfl (kG rfl rfl (a_eql rfl rfl (fun h => absurd h (by decide)) (fun _ => (kG rfl rfl (a_mov rfl (i_no rfl rfl (i_no rfl rfl (kG rfl rfl (a_pick_f rfl rfl rfl (kG rfl rfl (a_mov rfl (i_no rfl rfl (i_no rfl rfl (kG rfl rfl (a_pick_f rfl rfl rfl (kO rfl (a_pick_f rfl rfl rfl (i_nil (r_cond_f rfl ?_)))))))))))))))))))))))))))))))))))
   refine r_skip (then_n (rQ (rS (kM rfl rfl (kO rfl (a_neq rfl rfl (fun _ => (i_nil (r_cond_t rfl (rS (kM rfl rfl (kO rfl (a_eql rfl rfl (fun h => absurd h (by decide)) (fun _ => (kM rfl rfl (kG rfl rfl (a_mov rfl (kG rfl rfl (a_eql rfl rfl (fun _ => (kO rfl (a_pick_f rfl rfl rfl (kM rfl rfl (kG rfl rfl (a_callV rfl rfl (fun s1 h1 => known_s _ s1 h1.wf) (kO rfl (a_pick_t rfl rfl rfl (kM rfl rfl (i_nil (r_ret (then_r ?_)))))))))))) (fun h => absurd h (by decide))))))))))))))) (fun h => absurd h (by decide))))))))
   exact end1 rfl ⟨rfl, rfl⟩
 ·have hop9 := hz2
  rw [List.nil_append]
  refine kM rfl rfl (kO rfl (a_ext rfl rfl (kO rfl (a_ext rfl rfl (kM rfl rfl (kM rfl rfl (i_nil (rS (kO rfl (a_fa rfl (kO rfl (a_ld rfl (.next .here) rfl (kO rfl (a_sub rfl rfl (by omega) (kO rfl (a_lda rfl (by decide) (.next (.next (.app .here))) rfl (kO rfl (a_lit rfl rfl rfl (fun b23 => (kO rfl (a_build rfl rfl (kO rfl (a_call rfl rfl (fun s1 h1 => made_s _ ((M : Int) - 1) _ _ [[w0, w1, w2, w3]] s1 h1.wf (by omega) (rows_lit (h1.own .here) hw4)) (fun v1 A1 q1 => ?_))))))))))))))))))))))))
  obtain ⟨aM, cM, ML, rfl, hA8, hTM⟩ := q1
  rw [hA8]
  have hmm := md_again hM1 hM6
  rw [hmm] at hTM ⊢
  have hmr : mdL M [[w0, w1, w2, w3]] = [mdRow M w0 w1 w2 w3] := rfl
  rw [hmr] at hTM ⊢
  obtain ⟨y0, y1, y2, y3, hyr, hyc, hyw, _⟩ := md_ok (r := [w0, w1, w2, w3]) hM1 hM6
  have hyr : mdRow M w0 w1 w2 w3 = [y0, y1, y2, y3] := hyr
  rw [hyr] at hTM ⊢
  obtain ⟨hTLM, _, _⟩ := hTM.ok
  obtain ⟨bM, opM, haM, howM⟩ := hTLM.own (show 0 < 1 by decide)
  have hl1 : ([[y0, y1, y2, y3]] : List (List Int)).length = 1 := rfl
  refine kO rfl (a_new rfl rfl (fun b24 => (kZ rfl (a_sta rfl rfl .here rfl rfl rfl rfl (i_nil (rS (kO rfl (a_lda rfl (by decide) (.next (.app (.next (.next .here)))) rfl (kO rfl (a_fa rfl (kO rfl (a_ld rfl .here rfl (kO rfl (a_iaA (j := 0) haM rfl rfl (by first | rfl | omega) (by first | decide | omega) (kO rfl (a_lda rfl (by decide) (.next (howM _)) (limC_seg (ts := [[y0, y1, y2, y3]]) (k := 0) rfl) (kO rfl (a_new rfl rfl (fun b25 => (kO rfl (a_call rfl rfl (fun s1 h1 => With_v _ M aT cT ls y0 y1 y2 y3 s1 h1.wf (by omega) (hTL.rows (.cons _ (.cons _ (List.sublist_append_of_sublist_right (.cons _ (.cons _ (.cons _ (List.sublist_append_left _ _))))))) h1 hLg (by omega) (by omega) hft) hcl hM (by omega) hsys hyc) (fun v1 A1 q1 => ?_))))))))))))))))))))))
  obtain ⟨aW, cW9, WL, rfl, hA7, hTW⟩ := q1
  rw [hA7]
  obtain ⟨hTLW, _, hclW⟩ := hTW.ok
  have hlm2 := lm_app hlm hyc
  have hLg2 := lg_of hlm2
  have hft2 := fit_app hM6 hft hyc
  have hln2 : (ls ++ [[y0, y1, y2, y3]]).length = ls.length + 1 := by rw [List.length_append]; rfl
  rw [<- hln2]
  have hsys2 := sys_app hM6 hl20 hlm2
  refine kM rfl rfl (kO rfl (a_ext rfl rfl (kO rfl (a_ext rfl rfl (kZ rfl (a_sta rfl rfl (.app .here) rfl rfl rfl rfl (kM rfl rfl (i_nil (rS (kO rfl (a_lda rfl (by decide) (.app .here) rfl (kM rfl rfl (kO rfl (a_call rfl rfl (fun s1 h1 => Most_v _ M aW cW9 (ls ++ [[y0, y1, y2, y3]]) _ _ w s1 h1.wf (by omega) (hTLW.rows (List.sublist_append_left _ _) h1 hLg2 (by omega) (by omega) hft2) hclW (IntsE.own (h1.own (.app (.next (.next (.app (.next .here)))))) hwf (by omega)) (cap_tight hTw (h1.own (.app (.next (.next (.app (.next .here)))))) (by rw [ints_len]; omega)) hsys2 hwl hwo) (fun v1 A1 q1 => ?_)))))))))))))))
  rcases q1 with ⟨hz1, rfl, rfl⟩ | ⟨hz1, hz2, rfl, rfl⟩ | ⟨hz1, q1⟩
  ·rw [List.nil_append]
   refine kM rfl rfl (kO rfl (a_ext rfl rfl (kO rfl (a_ext rfl rfl (kM rfl rfl (kM rfl rfl (i_nil (rQ (rS (kM rfl rfl (kO rfl (a_neq rfl rfl (fun h => absurd h (by decide)) (fun _ => (kM rfl rfl (kG rfl rfl (a_mov rfl (kG rfl rfl (a_eql rfl rfl (fun h => absurd h (by decide)) (fun _ => (kG rfl rfl (a_mov rfl (i_no rfl rfl (i_no rfl rfl (kG rfl rfl (a_pick_f rfl rfl rfl (kG rfl rfl (a_mov rfl (i_no rfl rfl (i_no rfl rfl (kG rfl rfl (a_pick_f rfl rfl rfl (kO rfl (a_pick_f rfl rfl rfl (i_nil (r_cond_f rfl ?_)))))))))))))))))))))))))))))))))))
   refine r_skip (then_n (rQ (rS (kM rfl rfl (kO rfl (a_neq rfl rfl (fun h => absurd h (by decide)) (fun _ => (i_nil (r_cond_f rfl (r_skip (then_n (rQ (rS ?_)))))))))))))
   have hp2 := p2_le hM6
   obtain ⟨sw, hsw1, hsw2, hsw3, hsw4, hsw5⟩ := opn_set hlm hop9
   refine kM rfl rfl (i_nil (r_block ?_))
   refine r_loop (fun j e A => ∃ (k : Nat), e = [(5, .pointer (some ⟨b2, 0, none⟩)), (7, .pointer (some ⟨b3, 0, none⟩)), (8, .slice (some ⟨bw4, 0, none⟩) (M + 1) cW), (16, .int .i64 (k : Int))] /\ A = (.row bw4 3 opw (ints w) :: (.row b3 29 false ([.int .i64 (M : Int), .slice aT ls.length cT]) :: (TL ++ (.row b2 26 false ([.int .i64 w0, .int .i64 w1, .int .i64 w2, .int .i64 w3]) :: [])))) /\ j = (sw - k) /\ 1 <= k /\ k <= sw) 1200 562949953421312 281474976710656 ?_ (j := _) (env2 := _) (A2 := _) ?_ ?_ ?_ ?_ ⟨1, rfl, rfl, rfl, Nat.le_refl _, hsw1⟩
   rotate_left
   ·omega
   ·omega
   ·exact (lc 5 rfl (lc 7 rfl (lc 8 rfl (lc 16 rfl Less.nil))))
   ·exact (List.sublist_append_of_sublist_right (.cons _ (.cons _ (List.sublist_append_of_sublist_right (.cons _ (.q (.q (.r (.q (.cons _ .slnil))))))))))
   rintro n hn j _ _ ⟨k, rfl, rfl, rfl, hk1, hks⟩
   have hk128 : k < 128 := by have := p2_le hM6; omega
   refine rQ (rS (kM rfl rfl (kO rfl (a_fa rfl (kO rfl (a_ld rfl (.next .here) rfl (kO rfl (a_add rfl rfl (by omega) (kO rfl (a_bin rfl rfl (shl_t (i := M) (by omega)) ?_))))))))))
   have hp2 := p2_le hM6
   refine kO rfl (a_lss rfl rfl (fun h29 => ?_) (fun h29 => ?_))
   ·refine i_nil (r_cond_t rfl (r_skip (then_n (rQ (r_block (rS (kM rfl rfl (i_nil (rS (kM rfl rfl (i_nil (rQ (rS (kM rfl rfl (i_nil (r_block ?_))))))))))))))))
    refine r_loop (fun j e A => ∃ (i : Nat), e = [(5, .pointer (some ⟨b2, 0, none⟩)), (7, .pointer (some ⟨b3, 0, none⟩)), (8, .slice (some ⟨bw4, 0, none⟩) (M + 1) cW), (16, .int .i64 (k : Int)), (17, .int .i64 (up1 w k i)), (18, .bool true), (19, .int .i64 (i : Int))] /\ A = (.row bw4 3 opw (ints w) :: (.row b3 29 false ([.int .i64 (M : Int), .slice aT ls.length cT]) :: (TL ++ (.row b2 26 false ([.int .i64 w0, .int .i64 w1, .int .i64 w2, .int .i64 w3]) :: [])))) /\ j = M + 1 - i /\ i <= M + 1) 300 281474976710656 281474976710656 ?_ (j := _) (env2 := _) (A2 := _) ?_ ?_ ?_ ?_ ⟨0, rfl, rfl, rfl, Nat.zero_le _⟩
    rotate_left
    ·omega
    ·omega
    ·exact (lc 5 rfl (lc 7 rfl (lc 8 rfl (lc 16 rfl (lc 17 rfl (lc 18 rfl (lc 19 rfl Less.nil)))))))
    ·exact (.q (.q (.r (.q .slnil))))
    rintro n hn j _ _ ⟨i, rfl, rfl, rfl, hi⟩
    have hu1 := up1_bd (k := k) hwb hi
    have hdk := div_le128 (k := k) (i := i) hk128
    refine rQ (rS (kM rfl rfl (kO rfl (a_fa rfl (kO rfl (a_ld rfl (.next .here) rfl (kO rfl (a_leq rfl rfl (fun h30 => ?_) (fun h30 => ?_)))))))))
    ·refine i_nil (r_cond_t rfl (r_skip (then_n (rQ (r_block (rS (kM rfl rfl (kM rfl rfl (kO rfl (a_bin rfl rfl (shr_t (k := k) (i := i) (by omega) (by omega)) (kO rfl (a_bin rfl rfl (bit_t (k := k) (i := i) hk128) (kO rfl (a_eql rfl rfl (fun h31 => ?_) (fun h31 => ?_)))))))))))))))
     ·refine kM rfl rfl (kG rfl rfl (a_mov rfl (kG rfl rfl (a_gtr rfl rfl (fun h32 => ?_) (fun h32 => ?_)))))
      ·refine kO rfl (a_pick_t rfl rfl rfl (i_nil (r_cond_t rfl (rI (kM rfl rfl (kM rfl rfl (kM rfl rfl (kO rfl (a_ia (j := i) rfl rfl (by omega) (by omega) (kO rfl (a_ldI rfl .here (by first | omega | (simp; done) | (simp; omega)) ?_)))))))))))
       have hwb9 := hwb i (by omega)
       refine kO rfl (a_add rfl rfl (by omega) (kM rfl rfl (i_nil (block_n (then_n (rI (kM rfl rfl (kO rfl (a_add rfl rfl (by omega) (kM rfl rfl (i_nil (then_n ?_))))))))))))
       exact ⟨rfl, _, _, _, (show M + 1 - (i + 1) < M + 1 - i by omega), (lc 5 rfl (lc 7 rfl (lc 8 rfl (lc 16 rfl (lc 17 (by first | (show some (Value.int .i64 (up1 w k i + w.getD i 0)) = some (Value.int .i64 (up1 w k i + (if bt k i = 1 /\ 0 < i then w.getD i 0 else 0))); rw [if_pos ⟨by omega, by omega⟩]; done) | (show some (Value.int .i64 (up1 w k i)) = some (Value.int .i64 (up1 w k i + (if bt k i = 1 /\ 0 < i then w.getD i 0 else 0))); rw [if_neg (fun q => by have q1 := q.1; have q2 := q.2; omega), Int.add_zero]; done)) (lc 18 rfl (lc 19 rfl Less.nil))))))), (.q (.q (.r (.q .slnil)))), ⟨i + 1, rfl, rfl, rfl, by omega⟩⟩
      ·refine kO rfl (a_pick_t rfl rfl rfl (i_nil (r_cond_f rfl (r_skip (block_n (then_n (rI (kM rfl rfl (kO rfl (a_add rfl rfl (by omega) (kM rfl rfl (i_nil (then_n ?_)))))))))))))
       exact ⟨rfl, _, _, _, (show M + 1 - (i + 1) < M + 1 - i by omega), (lc 5 rfl (lc 7 rfl (lc 8 rfl (lc 16 rfl (lc 17 (by first | (show some (Value.int .i64 (up1 w k i + w.getD i 0)) = some (Value.int .i64 (up1 w k i + (if bt k i = 1 /\ 0 < i then w.getD i 0 else 0))); rw [if_pos ⟨by omega, by omega⟩]; done) | (show some (Value.int .i64 (up1 w k i)) = some (Value.int .i64 (up1 w k i + (if bt k i = 1 /\ 0 < i then w.getD i 0 else 0))); rw [if_neg (fun q => by have q1 := q.1; have q2 := q.2; omega), Int.add_zero]; done)) (lc 18 rfl (lc 19 rfl Less.nil))))))), (.q (.q (.r (.q .slnil)))), ⟨i + 1, rfl, rfl, rfl, by omega⟩⟩
     ·refine kM rfl rfl (i_no rfl rfl (i_no rfl rfl (kO rfl (a_pick_f rfl rfl rfl (i_nil (r_cond_f rfl (r_skip (block_n (then_n (rI (kM rfl rfl (kO rfl (a_add rfl rfl (by omega) (kM rfl rfl (i_nil (then_n ?_))))))))))))))))
      exact ⟨rfl, _, _, _, (show M + 1 - (i + 1) < M + 1 - i by omega), (lc 5 rfl (lc 7 rfl (lc 8 rfl (lc 16 rfl (lc 17 (by first | (show some (Value.int .i64 (up1 w k i + w.getD i 0)) = some (Value.int .i64 (up1 w k i + (if bt k i = 1 /\ 0 < i then w.getD i 0 else 0))); rw [if_pos ⟨by omega, by omega⟩]; done) | (show some (Value.int .i64 (up1 w k i)) = some (Value.int .i64 (up1 w k i + (if bt k i = 1 /\ 0 < i then w.getD i 0 else 0))); rw [if_neg (fun q => by have q1 := q.1; have q2 := q.2; omega), Int.add_zero]; done)) (lc 18 rfl (lc 19 rfl Less.nil))))))), (.q (.q (.r (.q .slnil)))), ⟨i + 1, rfl, rfl, rfl, by omega⟩⟩
    ·have hiM : i = M + 1 := by omega
     subst hiM
     refine i_nil (r_cond_f rfl (r_exit (then_e (then_e (block_hit (then_n (rQ (rS (kO rfl (a_fa rfl (kO rfl (a_ld rfl (.next .here) rfl (kO rfl (a_lenx rfl (by first | exact hTM.spot | exact hTR.spot | exact hR.spot | exact hI1.spot) (kM rfl rfl (i_nil (r_block ?_)))))))))))))))))
     refine r_loop (fun j e A => ∃ (u : Nat), e = [(5, .pointer (some ⟨b2, 0, none⟩)), (7, .pointer (some ⟨b3, 0, none⟩)), (8, .slice (some ⟨bw4, 0, none⟩) (M + 1) cW), (16, .int .i64 (k : Int)), (17, .int .i64 (up1 w k (M + 1))), (18, .bool (frB ls k u)), (111, .slice aT ls.length cT), (112, .int .i64 (ls.length : Int)), (113, .int .i64 (u : Int))] /\ A = (.row bw4 3 opw (ints w) :: (.row b3 29 false ([.int .i64 (M : Int), .slice aT ls.length cT]) :: (TL ++ (.row b2 26 false ([.int .i64 w0, .int .i64 w1, .int .i64 w2, .int .i64 w3]) :: [])))) /\ j = ls.length - u /\ u <= ls.length) 300 281474976710656 281474976710656 ?_ (j := _) (env2 := _) (A2 := _) ?_ ?_ ?_ ?_ ⟨0, rfl, rfl, rfl, Nat.zero_le _⟩
     rotate_left
     ·omega
     ·omega
     ·exact (lc 5 rfl (lc 7 rfl (lc 8 rfl (lc 16 rfl (lc 17 rfl (lc 18 rfl (lc 111 rfl (lc 112 rfl (lc 113 rfl Less.nil)))))))))
     ·exact (.q (.q (.r (.q .slnil))))
     rintro n hn j _ _ ⟨u, rfl, rfl, rfl, hj⟩
     refine rS (kO rfl (a_lss rfl rfl (fun h33 => ?_) (fun h33 => ?_)))
     ·obtain ⟨bT, oT9, hat2, how9⟩ := hTL.own (show 0 < ls.length by omega)
      obtain ⟨hg1, hg2, hg3, hg4, hg5, y9, hx9⟩ := hLg u (by omega)
      have hdk1 := div_le128 (k := k) (i := lb ls u) hk128
      have hdk2 := div_le128 (k := k) (i := la ls u) hk128
      refine i_nil (rQ (r_cond_t rfl (r_skip (then_n (rQ (r_block (rS (kO rfl (a_iaA (j := u) hat2 rfl rfl (by first | rfl | omega) (by first | decide | omega) (kO rfl (a_lda rfl (by decide) (.next (.next (how9 _))) (limC_seg hx9) (kO rfl (a_new rfl rfl (fun b34 => (kZ rfl (a_sta rfl rfl .here rfl rfl rfl rfl (i_nil (rI (kM rfl rfl ?_)))))))))))))))))))
      cases hfr9 : frB ls k u
      ·refine kM rfl rfl (i_no rfl rfl (i_no rfl rfl (i_no rfl rfl (i_no rfl rfl (i_no rfl rfl (i_no rfl rfl (i_no rfl rfl (i_no rfl rfl (i_no rfl rfl (i_no rfl rfl (i_no rfl rfl (i_no rfl rfl (i_no rfl rfl (i_no rfl rfl (kO rfl (a_pick_f rfl rfl rfl (kM rfl rfl (i_nil (block_n (then_n (rI (kO rfl (a_add rfl rfl (by omega) (kM rfl rfl (i_nil ?_)))))))))))))))))))))))))
       refine then_n ?_
       exact ⟨rfl, _, _, _, (show ls.length - (u + 1) < ls.length - u by omega), (lc 5 rfl (lc 7 rfl (lc 8 rfl (lc 16 rfl (lc 17 rfl (lc 18 (congrArg (fun b => some (Value.bool b)) (by first | exact fr_f (by assumption) | exact fr_t (by assumption) (.inl (by omega)) | exact fr_t (by assumption) (.inr (by omega)) | exact fr_n (by omega) (by omega))) (lc 111 rfl (lc 112 rfl (lc 113 rfl Less.nil))))))))), (.cons _ (.q (.q (.r (.q .slnil))))), ⟨u + 1, rfl, rfl, rfl, by omega⟩⟩
      ·refine kM rfl rfl (kG rfl rfl (a_mov rfl (kG rfl rfl (a_fa rfl (kG rfl rfl (a_ld rfl .here rfl (kG rfl rfl (a_bin rfl rfl (shr_t (k := k) (i := lb ls u) (by omega) (by omega)) (kG rfl rfl (a_bin rfl rfl (bit_t (k := k) (i := lb ls u) hk128) (kG rfl rfl (a_eql rfl rfl (fun h35 => ?_) (fun h35 => ?_)))))))))))))
       ·refine kG rfl rfl (a_mov rfl (i_no rfl rfl (i_no rfl rfl (i_no rfl rfl (i_no rfl rfl (i_no rfl rfl (i_no rfl rfl (kG rfl rfl (a_pick_t rfl rfl rfl (kO rfl (a_pick_t rfl rfl rfl (kM rfl rfl (i_nil (block_n (then_n (rI (kO rfl (a_add rfl rfl (by omega) (kM rfl rfl (i_nil (then_n ?_)))))))))))))))))))))
        exact ⟨rfl, _, _, _, (show ls.length - (u + 1) < ls.length - u by omega), (lc 5 rfl (lc 7 rfl (lc 8 rfl (lc 16 rfl (lc 17 rfl (lc 18 (congrArg (fun b => some (Value.bool b)) (by first | exact fr_f (by assumption) | exact fr_t (by assumption) (.inl (by omega)) | exact fr_t (by assumption) (.inr (by omega)) | exact fr_n (by omega) (by omega))) (lc 111 rfl (lc 112 rfl (lc 113 rfl Less.nil))))))))), (.cons _ (.q (.q (.r (.q .slnil))))), ⟨u + 1, rfl, rfl, rfl, by omega⟩⟩
       ·refine kG rfl rfl (a_mov rfl (kG rfl rfl (a_mov rfl (kG rfl rfl (a_fa rfl (kG rfl rfl (a_ld rfl .here rfl (kG rfl rfl (a_bin rfl rfl (shr_t (k := k) (i := la ls u) (by omega) (by omega)) (kG rfl rfl (a_bin rfl rfl (bit_t (k := k) (i := la ls u) hk128) (kG rfl rfl (a_eql rfl rfl (fun h36 => ?_) (fun h36 => ?_))))))))))))))
        ·refine kG rfl rfl (a_pick_f rfl rfl rfl (kO rfl (a_pick_t rfl rfl rfl (kM rfl rfl (i_nil (block_n (then_n (rI (kO rfl (a_add rfl rfl (by omega) (kM rfl rfl (i_nil (then_n ?_)))))))))))))
         exact ⟨rfl, _, _, _, (show ls.length - (u + 1) < ls.length - u by omega), (lc 5 rfl (lc 7 rfl (lc 8 rfl (lc 16 rfl (lc 17 rfl (lc 18 (congrArg (fun b => some (Value.bool b)) (by first | exact fr_f (by assumption) | exact fr_t (by assumption) (.inl (by omega)) | exact fr_t (by assumption) (.inr (by omega)) | exact fr_n (by omega) (by omega))) (lc 111 rfl (lc 112 rfl (lc 113 rfl Less.nil))))))))), (.cons _ (.q (.q (.r (.q .slnil))))), ⟨u + 1, rfl, rfl, rfl, by omega⟩⟩
        ·refine kG rfl rfl (a_pick_f rfl rfl rfl (kO rfl (a_pick_t rfl rfl rfl (kM rfl rfl (i_nil (block_n (then_n (rI (kO rfl (a_add rfl rfl (by omega) (kM rfl rfl (i_nil (then_n ?_)))))))))))))
         exact ⟨rfl, _, _, _, (show ls.length - (u + 1) < ls.length - u by omega), (lc 5 rfl (lc 7 rfl (lc 8 rfl (lc 16 rfl (lc 17 rfl (lc 18 (congrArg (fun b => some (Value.bool b)) (by first | exact fr_f (by assumption) | exact fr_t (by assumption) (.inl (by omega)) | exact fr_t (by assumption) (.inr (by omega)) | exact fr_n (by omega) (by omega))) (lc 111 rfl (lc 112 rfl (lc 113 rfl Less.nil))))))))), (.cons _ (.q (.q (.r (.q .slnil))))), ⟨u + 1, rfl, rfl, rfl, by omega⟩⟩
     ·have hjl : u = ls.length := by omega
      subst hjl
      refine i_nil (rQ (r_cond_f rfl (r_exit (then_e (then_e (block_hit (then_n (rQ (rS (kM rfl rfl (kO rfl (a_bin rfl rfl (bit0_t (k := k) hk128) (kO rfl (a_eql rfl rfl (fun h37 => ?_) (fun h37 => ?_)))))))))))))))
      ·have hb0 : bt k 0 = 1 := by omega
       refine i_nil (r_cond_t rfl (rS (kM rfl rfl (i_nil (rS (kM rfl rfl (i_nil (r_block ?_))))))))
       refine r_loop (fun j e A => ∃ (i : Nat), e = [(5, .pointer (some ⟨b2, 0, none⟩)), (7, .pointer (some ⟨b3, 0, none⟩)), (8, .slice (some ⟨bw4, 0, none⟩) (M + 1) cW), (16, .int .i64 (k : Int)), (17, .int .i64 (up2 w k i)), (18, .bool (frB ls k ls.length)), (22, .int .i64 (i : Int))] /\ A = (.row bw4 3 opw (ints w) :: (.row b3 29 false ([.int .i64 (M : Int), .slice aT ls.length cT]) :: (TL ++ (.row b2 26 false ([.int .i64 w0, .int .i64 w1, .int .i64 w2, .int .i64 w3]) :: [])))) /\ j = M + 1 - i /\ 1 <= i /\ i <= M + 1) 300 281474976710656 281474976710656 ?_ (j := _) (env2 := _) (A2 := _) ?_ ?_ ?_ ?_ ⟨1, rfl, rfl, rfl, Nat.le_refl _, by omega⟩
       rotate_left
       ·omega
       ·omega
       ·exact (lc 5 rfl (lc 7 rfl (lc 8 rfl (lc 16 rfl (lc 17 (by show some (Value.int .i64 0) = some (Value.int .i64 (0 - (if bt k 0 = 0 /\ 0 < 0 then w.getD 0 0 else 0))); rw [if_neg (fun q => Nat.lt_irrefl 0 q.2)]; rfl) (lc 18 rfl (lc 22 rfl Less.nil)))))))
       ·exact (.q (.q (.r (.q .slnil))))
       rintro n hn j _ _ ⟨i, rfl, rfl, rfl, hi1, hi⟩
       have hu2 := up2_bd (k := k) hwb hi
       have hdk := div_le128 (k := k) (i := i) hk128
       refine rQ (rS (kM rfl rfl (kO rfl (a_fa rfl (kO rfl (a_ld rfl (.next .here) rfl (kO rfl (a_leq rfl rfl (fun h38 => ?_) (fun h38 => ?_)))))))))
       ·refine i_nil (r_cond_t rfl (r_skip (then_n (rQ (r_block (rS (kM rfl rfl (kM rfl rfl (kO rfl (a_bin rfl rfl (shr_t (k := k) (i := i) (by omega) (by omega)) (kO rfl (a_bin rfl rfl (bit_t (k := k) (i := i) hk128) (kO rfl (a_eql rfl rfl (fun h39 => ?_) (fun h39 => ?_)))))))))))))))
        ·refine i_nil (r_cond_t rfl (rI (kM rfl rfl (kM rfl rfl (kM rfl rfl (kO rfl (a_ia (j := i) rfl rfl (by omega) (by omega) (kO rfl (a_ldI rfl .here (by first | omega | (simp; done) | (simp; omega)) ?_)))))))))
         have hwb9 := hwb i (by omega)
         refine kO rfl (a_sub rfl rfl (by omega) (kM rfl rfl (i_nil (block_n (then_n (rI (kM rfl rfl (kO rfl (a_add rfl rfl (by omega) (kM rfl rfl (i_nil (then_n ?_))))))))))))
         exact ⟨rfl, _, _, _, (show M + 1 - (i + 1) < M + 1 - i by omega), (lc 5 rfl (lc 7 rfl (lc 8 rfl (lc 16 rfl (lc 17 (by first | (show some (Value.int .i64 (up2 w k i - w.getD i 0)) = some (Value.int .i64 (up2 w k i - (if bt k i = 0 /\ 0 < i then w.getD i 0 else 0))); rw [if_pos ⟨by omega, by omega⟩]; done) | (show some (Value.int .i64 (up2 w k i)) = some (Value.int .i64 (up2 w k i - (if bt k i = 0 /\ 0 < i then w.getD i 0 else 0))); rw [if_neg (fun q => by have q1 := q.1; omega), Int.sub_zero]; done)) (lc 18 rfl (lc 22 rfl Less.nil))))))), (.q (.q (.r (.q .slnil)))), ⟨i + 1, rfl, rfl, rfl, by omega, by omega⟩⟩
        ·refine i_nil (r_cond_f rfl (r_skip (block_n (then_n (rI (kM rfl rfl (kO rfl (a_add rfl rfl (by omega) (kM rfl rfl (i_nil (then_n ?_)))))))))))
         exact ⟨rfl, _, _, _, (show M + 1 - (i + 1) < M + 1 - i by omega), (lc 5 rfl (lc 7 rfl (lc 8 rfl (lc 16 rfl (lc 17 (by first | (show some (Value.int .i64 (up2 w k i - w.getD i 0)) = some (Value.int .i64 (up2 w k i - (if bt k i = 0 /\ 0 < i then w.getD i 0 else 0))); rw [if_pos ⟨by omega, by omega⟩]; done) | (show some (Value.int .i64 (up2 w k i)) = some (Value.int .i64 (up2 w k i - (if bt k i = 0 /\ 0 < i then w.getD i 0 else 0))); rw [if_neg (fun q => by have q1 := q.1; omega), Int.sub_zero]; done)) (lc 18 rfl (lc 22 rfl Less.nil))))))), (.q (.q (.r (.q .slnil)))), ⟨i + 1, rfl, rfl, rfl, by omega, by omega⟩⟩
       ·have hiM : i = M + 1 := by omega
        subst hiM
        refine i_nil (r_cond_f rfl (r_exit (then_e (then_e (block_hit (then_n (rS (kM rfl rfl ?_))))))))
        cases hfr9 : frB ls k ls.length
        ·refine kM rfl rfl (i_no rfl rfl (i_no rfl rfl (kO rfl (a_pick_f rfl rfl rfl (i_nil (r_cond_f rfl (r_skip (block_n (then_n (rI (kM rfl rfl (kO rfl (a_add rfl rfl (by omega) (kM rfl rfl (i_nil (then_n ?_))))))))))))))))
         have hks2 : k + 1 <= sw := Nat.lt_of_le_of_ne hks (fun e => by subst e; first | (rw [hsw3] at hfr9; cases hfr9; done) | (have := hsw4 (by assumption); omega) | (have := hsw5 (by assumption); omega))
         exact ⟨rfl, _, _, _, (show sw - (k + 1) < sw - k by omega), (lc 5 rfl (lc 7 rfl (lc 8 rfl (lc 16 rfl Less.nil)))), (.q (.q (.r (.q .slnil)))), ⟨k + 1, rfl, rfl, rfl, by omega, hks2⟩⟩
        ·refine kM rfl rfl (kG rfl rfl (a_mov rfl (kG rfl rfl (a_gtr rfl rfl (fun h40 => ?_) (fun h40 => ?_)))))
         ·refine kO rfl (a_pick_t rfl rfl rfl (i_nil (r_cond_t rfl (rS (kO rfl (a_callV rfl rfl (fun s1 h1 => known_s _ s1 h1.wf) (kM rfl rfl (i_nil (r_ret (block_r (then_r (then_r (block_r (then_r ?_))))))))))))))
          exact end1 rfl ⟨rfl, rfl⟩
         ·refine kO rfl (a_pick_t rfl rfl rfl (i_nil (r_cond_f rfl (r_skip (block_n (then_n (rI (kM rfl rfl (kO rfl (a_add rfl rfl (by omega) (kM rfl rfl (i_nil (then_n ?_)))))))))))))
          have hks2 : k + 1 <= sw := Nat.lt_of_le_of_ne hks (fun e => by subst e; first | (rw [hsw3] at hfr9; cases hfr9; done) | (have := hsw4 (by assumption); omega) | (have := hsw5 (by assumption); omega))
          exact ⟨rfl, _, _, _, (show sw - (k + 1) < sw - k by omega), (lc 5 rfl (lc 7 rfl (lc 8 rfl (lc 16 rfl Less.nil)))), (.q (.q (.r (.q .slnil)))), ⟨k + 1, rfl, rfl, rfl, by omega, hks2⟩⟩
      ·have hb0 : ¬ bt k 0 = 1 := by omega
       refine i_nil (r_cond_f rfl (r_skip (then_n (rS (kM rfl rfl ?_)))))
       cases hfr9 : frB ls k ls.length
       ·refine kM rfl rfl (i_no rfl rfl (i_no rfl rfl (kO rfl (a_pick_f rfl rfl rfl (i_nil (r_cond_f rfl (r_skip (block_n (then_n (rI (kM rfl rfl (kO rfl (a_add rfl rfl (by omega) (kM rfl rfl (i_nil (then_n ?_))))))))))))))))
        have hks2 : k + 1 <= sw := Nat.lt_of_le_of_ne hks (fun e => by subst e; first | (rw [hsw3] at hfr9; cases hfr9; done) | (have := hsw4 (by assumption); omega) | (have := hsw5 (by assumption); omega))
        exact ⟨rfl, _, _, _, (show sw - (k + 1) < sw - k by omega), (lc 5 rfl (lc 7 rfl (lc 8 rfl (lc 16 rfl Less.nil)))), (.q (.q (.r (.q .slnil)))), ⟨k + 1, rfl, rfl, rfl, by omega, hks2⟩⟩
       ·refine kM rfl rfl (kG rfl rfl (a_mov rfl (kG rfl rfl (a_gtr rfl rfl (fun h41 => ?_) (fun h41 => ?_)))))
        ·refine kO rfl (a_pick_t rfl rfl rfl (i_nil (r_cond_t rfl (rS (kO rfl (a_callV rfl rfl (fun s1 h1 => known_s _ s1 h1.wf) (kM rfl rfl (i_nil (r_ret (block_r (then_r (then_r (block_r (then_r ?_))))))))))))))
         exact end1 rfl ⟨rfl, rfl⟩
        ·refine kO rfl (a_pick_t rfl rfl rfl (i_nil (r_cond_f rfl (r_skip (block_n (then_n (rI (kM rfl rfl (kO rfl (a_add rfl rfl (by omega) (kM rfl rfl (i_nil (then_n ?_)))))))))))))
         have hks2 : k + 1 <= sw := Nat.lt_of_le_of_ne hks (fun e => by subst e; first | (rw [hsw3] at hfr9; cases hfr9; done) | (have := hsw4 (by assumption); omega) | (have := hsw5 (by assumption); omega))
         exact ⟨rfl, _, _, _, (show sw - (k + 1) < sw - k by omega), (lc 5 rfl (lc 7 rfl (lc 8 rfl (lc 16 rfl Less.nil)))), (.q (.q (.r (.q .slnil)))), ⟨k + 1, rfl, rfl, rfl, by omega, hks2⟩⟩
   ·exfalso; omega
  ·rw [List.nil_append]
   refine kM rfl rfl (kO rfl (a_ext rfl rfl (kO rfl (a_ext rfl rfl (kM rfl rfl (kM rfl rfl (i_nil (rQ (rS (kM rfl rfl (kO rfl (a_neq rfl rfl (fun h => absurd h (by decide)) (fun _ => (kM rfl rfl (kG rfl rfl (a_mov rfl (kG rfl rfl (a_eql rfl rfl (fun h => absurd h (by decide)) (fun _ => (kG rfl rfl (a_mov rfl (i_no rfl rfl (i_no rfl rfl (kG rfl rfl (a_pick_f rfl rfl rfl (kG rfl rfl (a_mov rfl (i_no rfl rfl (i_no rfl rfl (kG rfl rfl (a_pick_f rfl rfl rfl (kO rfl (a_pick_f rfl rfl rfl (i_nil (r_cond_f rfl ?_)))))))))))))))))))))))))))))))))))
   refine r_skip (then_n (rQ (rS (kM rfl rfl (kO rfl (a_neq rfl rfl (fun h => absurd h (by decide)) (fun _ => (i_nil (r_cond_f rfl (r_skip (then_n (rQ (rS ?_)))))))))))))
   have hp2 := p2_le hM6
   obtain ⟨sw, hsw1, hsw2, hsw3, hsw4, hsw5⟩ := opn_set hlm hop9
   refine kM rfl rfl (i_nil (r_block ?_))
   refine r_loop (fun j e A => ∃ (k : Nat), e = [(5, .pointer (some ⟨b2, 0, none⟩)), (7, .pointer (some ⟨b3, 0, none⟩)), (8, .slice (some ⟨bw4, 0, none⟩) (M + 1) cW), (16, .int .i64 (k : Int))] /\ A = (.row bw4 3 opw (ints w) :: (.row b3 29 false ([.int .i64 (M : Int), .slice aT ls.length cT]) :: (TL ++ (.row b2 26 false ([.int .i64 w0, .int .i64 w1, .int .i64 w2, .int .i64 w3]) :: [])))) /\ j = (sw - k) /\ 1 <= k /\ k <= sw) 1200 562949953421312 281474976710656 ?_ (j := _) (env2 := _) (A2 := _) ?_ ?_ ?_ ?_ ⟨1, rfl, rfl, rfl, Nat.le_refl _, hsw1⟩
   rotate_left
   ·omega
   ·omega
   ·exact (lc 5 rfl (lc 7 rfl (lc 8 rfl (lc 16 rfl Less.nil))))
   ·exact (List.sublist_append_of_sublist_right (.cons _ (.cons _ (List.sublist_append_of_sublist_right (.cons _ (.q (.q (.r (.q (.cons _ .slnil))))))))))
   rintro n hn j _ _ ⟨k, rfl, rfl, rfl, hk1, hks⟩
   have hk128 : k < 128 := by have := p2_le hM6; omega
   refine rQ (rS (kM rfl rfl (kO rfl (a_fa rfl (kO rfl (a_ld rfl (.next .here) rfl (kO rfl (a_add rfl rfl (by omega) (kO rfl (a_bin rfl rfl (shl_t (i := M) (by omega)) ?_))))))))))
   have hp2 := p2_le hM6
   refine kO rfl (a_lss rfl rfl (fun h45 => ?_) (fun h45 => ?_))
   ·refine i_nil (r_cond_t rfl (r_skip (then_n (rQ (r_block (rS (kM rfl rfl (i_nil (rS (kM rfl rfl (i_nil (rQ (rS (kM rfl rfl (i_nil (r_block ?_))))))))))))))))
    refine r_loop (fun j e A => ∃ (i : Nat), e = [(5, .pointer (some ⟨b2, 0, none⟩)), (7, .pointer (some ⟨b3, 0, none⟩)), (8, .slice (some ⟨bw4, 0, none⟩) (M + 1) cW), (16, .int .i64 (k : Int)), (17, .int .i64 (up1 w k i)), (18, .bool true), (19, .int .i64 (i : Int))] /\ A = (.row bw4 3 opw (ints w) :: (.row b3 29 false ([.int .i64 (M : Int), .slice aT ls.length cT]) :: (TL ++ (.row b2 26 false ([.int .i64 w0, .int .i64 w1, .int .i64 w2, .int .i64 w3]) :: [])))) /\ j = M + 1 - i /\ i <= M + 1) 300 281474976710656 281474976710656 ?_ (j := _) (env2 := _) (A2 := _) ?_ ?_ ?_ ?_ ⟨0, rfl, rfl, rfl, Nat.zero_le _⟩
    rotate_left
    ·omega
    ·omega
    ·exact (lc 5 rfl (lc 7 rfl (lc 8 rfl (lc 16 rfl (lc 17 rfl (lc 18 rfl (lc 19 rfl Less.nil)))))))
    ·exact (.q (.q (.r (.q .slnil))))
    rintro n hn j _ _ ⟨i, rfl, rfl, rfl, hi⟩
    have hu1 := up1_bd (k := k) hwb hi
    have hdk := div_le128 (k := k) (i := i) hk128
    refine rQ (rS (kM rfl rfl (kO rfl (a_fa rfl (kO rfl (a_ld rfl (.next .here) rfl (kO rfl (a_leq rfl rfl (fun h46 => ?_) (fun h46 => ?_)))))))))
    ·refine i_nil (r_cond_t rfl (r_skip (then_n (rQ (r_block (rS (kM rfl rfl (kM rfl rfl (kO rfl (a_bin rfl rfl (shr_t (k := k) (i := i) (by omega) (by omega)) (kO rfl (a_bin rfl rfl (bit_t (k := k) (i := i) hk128) (kO rfl (a_eql rfl rfl (fun h47 => ?_) (fun h47 => ?_)))))))))))))))
     ·refine kM rfl rfl (kG rfl rfl (a_mov rfl (kG rfl rfl (a_gtr rfl rfl (fun h48 => ?_) (fun h48 => ?_)))))
      ·refine kO rfl (a_pick_t rfl rfl rfl (i_nil (r_cond_t rfl (rI (kM rfl rfl (kM rfl rfl (kM rfl rfl (kO rfl (a_ia (j := i) rfl rfl (by omega) (by omega) (kO rfl (a_ldI rfl .here (by first | omega | (simp; done) | (simp; omega)) ?_)))))))))))
       have hwb9 := hwb i (by omega)
       refine kO rfl (a_add rfl rfl (by omega) (kM rfl rfl (i_nil (block_n (then_n (rI (kM rfl rfl (kO rfl (a_add rfl rfl (by omega) (kM rfl rfl (i_nil (then_n ?_))))))))))))
       exact ⟨rfl, _, _, _, (show M + 1 - (i + 1) < M + 1 - i by omega), (lc 5 rfl (lc 7 rfl (lc 8 rfl (lc 16 rfl (lc 17 (by first | (show some (Value.int .i64 (up1 w k i + w.getD i 0)) = some (Value.int .i64 (up1 w k i + (if bt k i = 1 /\ 0 < i then w.getD i 0 else 0))); rw [if_pos ⟨by omega, by omega⟩]; done) | (show some (Value.int .i64 (up1 w k i)) = some (Value.int .i64 (up1 w k i + (if bt k i = 1 /\ 0 < i then w.getD i 0 else 0))); rw [if_neg (fun q => by have q1 := q.1; have q2 := q.2; omega), Int.add_zero]; done)) (lc 18 rfl (lc 19 rfl Less.nil))))))), (.q (.q (.r (.q .slnil)))), ⟨i + 1, rfl, rfl, rfl, by omega⟩⟩
      ·refine kO rfl (a_pick_t rfl rfl rfl (i_nil (r_cond_f rfl (r_skip (block_n (then_n (rI (kM rfl rfl (kO rfl (a_add rfl rfl (by omega) (kM rfl rfl (i_nil (then_n ?_)))))))))))))
       exact ⟨rfl, _, _, _, (show M + 1 - (i + 1) < M + 1 - i by omega), (lc 5 rfl (lc 7 rfl (lc 8 rfl (lc 16 rfl (lc 17 (by first | (show some (Value.int .i64 (up1 w k i + w.getD i 0)) = some (Value.int .i64 (up1 w k i + (if bt k i = 1 /\ 0 < i then w.getD i 0 else 0))); rw [if_pos ⟨by omega, by omega⟩]; done) | (show some (Value.int .i64 (up1 w k i)) = some (Value.int .i64 (up1 w k i + (if bt k i = 1 /\ 0 < i then w.getD i 0 else 0))); rw [if_neg (fun q => by have q1 := q.1; have q2 := q.2; omega), Int.add_zero]; done)) (lc 18 rfl (lc 19 rfl Less.nil))))))), (.q (.q (.r (.q .slnil)))), ⟨i + 1, rfl, rfl, rfl, by omega⟩⟩
     ·refine kM rfl rfl (i_no rfl rfl (i_no rfl rfl (kO rfl (a_pick_f rfl rfl rfl (i_nil (r_cond_f rfl (r_skip (block_n (then_n (rI (kM rfl rfl (kO rfl (a_add rfl rfl (by omega) (kM rfl rfl (i_nil (then_n ?_))))))))))))))))
      exact ⟨rfl, _, _, _, (show M + 1 - (i + 1) < M + 1 - i by omega), (lc 5 rfl (lc 7 rfl (lc 8 rfl (lc 16 rfl (lc 17 (by first | (show some (Value.int .i64 (up1 w k i + w.getD i 0)) = some (Value.int .i64 (up1 w k i + (if bt k i = 1 /\ 0 < i then w.getD i 0 else 0))); rw [if_pos ⟨by omega, by omega⟩]; done) | (show some (Value.int .i64 (up1 w k i)) = some (Value.int .i64 (up1 w k i + (if bt k i = 1 /\ 0 < i then w.getD i 0 else 0))); rw [if_neg (fun q => by have q1 := q.1; have q2 := q.2; omega), Int.add_zero]; done)) (lc 18 rfl (lc 19 rfl Less.nil))))))), (.q (.q (.r (.q .slnil)))), ⟨i + 1, rfl, rfl, rfl, by omega⟩⟩
    ·have hiM : i = M + 1 := by omega
     subst hiM
     refine i_nil (r_cond_f rfl (r_exit (then_e (then_e (block_hit (then_n (rQ (rS (kO rfl (a_fa rfl (kO rfl (a_ld rfl (.next .here) rfl (kO rfl (a_lenx rfl (by first | exact hTM.spot | exact hTR.spot | exact hR.spot | exact hI1.spot) (kM rfl rfl (i_nil (r_block ?_)))))))))))))))))
     refine r_loop (fun j e A => ∃ (u : Nat), e = [(5, .pointer (some ⟨b2, 0, none⟩)), (7, .pointer (some ⟨b3, 0, none⟩)), (8, .slice (some ⟨bw4, 0, none⟩) (M + 1) cW), (16, .int .i64 (k : Int)), (17, .int .i64 (up1 w k (M + 1))), (18, .bool (frB ls k u)), (111, .slice aT ls.length cT), (112, .int .i64 (ls.length : Int)), (113, .int .i64 (u : Int))] /\ A = (.row bw4 3 opw (ints w) :: (.row b3 29 false ([.int .i64 (M : Int), .slice aT ls.length cT]) :: (TL ++ (.row b2 26 false ([.int .i64 w0, .int .i64 w1, .int .i64 w2, .int .i64 w3]) :: [])))) /\ j = ls.length - u /\ u <= ls.length) 300 281474976710656 281474976710656 ?_ (j := _) (env2 := _) (A2 := _) ?_ ?_ ?_ ?_ ⟨0, rfl, rfl, rfl, Nat.zero_le _⟩
     rotate_left
     ·omega
     ·omega
     ·exact (lc 5 rfl (lc 7 rfl (lc 8 rfl (lc 16 rfl (lc 17 rfl (lc 18 rfl (lc 111 rfl (lc 112 rfl (lc 113 rfl Less.nil)))))))))
     ·exact (.q (.q (.r (.q .slnil))))
     rintro n hn j _ _ ⟨u, rfl, rfl, rfl, hj⟩
     refine rS (kO rfl (a_lss rfl rfl (fun h49 => ?_) (fun h49 => ?_)))
     ·obtain ⟨bT, oT9, hat2, how9⟩ := hTL.own (show 0 < ls.length by omega)
      obtain ⟨hg1, hg2, hg3, hg4, hg5, y9, hx9⟩ := hLg u (by omega)
      have hdk1 := div_le128 (k := k) (i := lb ls u) hk128
      have hdk2 := div_le128 (k := k) (i := la ls u) hk128
      refine i_nil (rQ (r_cond_t rfl (r_skip (then_n (rQ (r_block (rS (kO rfl (a_iaA (j := u) hat2 rfl rfl (by first | rfl | omega) (by first | decide | omega) (kO rfl (a_lda rfl (by decide) (.next (.next (how9 _))) (limC_seg hx9) (kO rfl (a_new rfl rfl (fun b50 => (kZ rfl (a_sta rfl rfl .here rfl rfl rfl rfl (i_nil (rI (kM rfl rfl ?_)))))))))))))))))))
      cases hfr9 : frB ls k u
      ·refine kM rfl rfl (i_no rfl rfl (i_no rfl rfl (i_no rfl rfl (i_no rfl rfl (i_no rfl rfl (i_no rfl rfl (i_no rfl rfl (i_no rfl rfl (i_no rfl rfl (i_no rfl rfl (i_no rfl rfl (i_no rfl rfl (i_no rfl rfl (i_no rfl rfl (kO rfl (a_pick_f rfl rfl rfl (kM rfl rfl (i_nil (block_n (then_n (rI (kO rfl (a_add rfl rfl (by omega) (kM rfl rfl (i_nil ?_)))))))))))))))))))))))))
       refine then_n ?_
       exact ⟨rfl, _, _, _, (show ls.length - (u + 1) < ls.length - u by omega), (lc 5 rfl (lc 7 rfl (lc 8 rfl (lc 16 rfl (lc 17 rfl (lc 18 (congrArg (fun b => some (Value.bool b)) (by first | exact fr_f (by assumption) | exact fr_t (by assumption) (.inl (by omega)) | exact fr_t (by assumption) (.inr (by omega)) | exact fr_n (by omega) (by omega))) (lc 111 rfl (lc 112 rfl (lc 113 rfl Less.nil))))))))), (.cons _ (.q (.q (.r (.q .slnil))))), ⟨u + 1, rfl, rfl, rfl, by omega⟩⟩
      ·refine kM rfl rfl (kG rfl rfl (a_mov rfl (kG rfl rfl (a_fa rfl (kG rfl rfl (a_ld rfl .here rfl (kG rfl rfl (a_bin rfl rfl (shr_t (k := k) (i := lb ls u) (by omega) (by omega)) (kG rfl rfl (a_bin rfl rfl (bit_t (k := k) (i := lb ls u) hk128) (kG rfl rfl (a_eql rfl rfl (fun h51 => ?_) (fun h51 => ?_)))))))))))))
       ·refine kG rfl rfl (a_mov rfl (i_no rfl rfl (i_no rfl rfl (i_no rfl rfl (i_no rfl rfl (i_no rfl rfl (i_no rfl rfl (kG rfl rfl (a_pick_t rfl rfl rfl (kO rfl (a_pick_t rfl rfl rfl (kM rfl rfl (i_nil (block_n (then_n (rI (kO rfl (a_add rfl rfl (by omega) (kM rfl rfl (i_nil (then_n ?_)))))))))))))))))))))
        exact ⟨rfl, _, _, _, (show ls.length - (u + 1) < ls.length - u by omega), (lc 5 rfl (lc 7 rfl (lc 8 rfl (lc 16 rfl (lc 17 rfl (lc 18 (congrArg (fun b => some (Value.bool b)) (by first | exact fr_f (by assumption) | exact fr_t (by assumption) (.inl (by omega)) | exact fr_t (by assumption) (.inr (by omega)) | exact fr_n (by omega) (by omega))) (lc 111 rfl (lc 112 rfl (lc 113 rfl Less.nil))))))))), (.cons _ (.q (.q (.r (.q .slnil))))), ⟨u + 1, rfl, rfl, rfl, by omega⟩⟩
       ·refine kG rfl rfl (a_mov rfl (kG rfl rfl (a_mov rfl (kG rfl rfl (a_fa rfl (kG rfl rfl (a_ld rfl .here rfl (kG rfl rfl (a_bin rfl rfl (shr_t (k := k) (i := la ls u) (by omega) (by omega)) (kG rfl rfl (a_bin rfl rfl (bit_t (k := k) (i := la ls u) hk128) (kG rfl rfl (a_eql rfl rfl (fun h52 => ?_) (fun h52 => ?_))))))))))))))
        ·refine kG rfl rfl (a_pick_f rfl rfl rfl (kO rfl (a_pick_t rfl rfl rfl (kM rfl rfl (i_nil (block_n (then_n (rI (kO rfl (a_add rfl rfl (by omega) (kM rfl rfl (i_nil (then_n ?_)))))))))))))
         exact ⟨rfl, _, _, _, (show ls.length - (u + 1) < ls.length - u by omega), (lc 5 rfl (lc 7 rfl (lc 8 rfl (lc 16 rfl (lc 17 rfl (lc 18 (congrArg (fun b => some (Value.bool b)) (by first | exact fr_f (by assumption) | exact fr_t (by assumption) (.inl (by omega)) | exact fr_t (by assumption) (.inr (by omega)) | exact fr_n (by omega) (by omega))) (lc 111 rfl (lc 112 rfl (lc 113 rfl Less.nil))))))))), (.cons _ (.q (.q (.r (.q .slnil))))), ⟨u + 1, rfl, rfl, rfl, by omega⟩⟩
        ·refine kG rfl rfl (a_pick_f rfl rfl rfl (kO rfl (a_pick_t rfl rfl rfl (kM rfl rfl (i_nil (block_n (then_n (rI (kO rfl (a_add rfl rfl (by omega) (kM rfl rfl (i_nil (then_n ?_)))))))))))))
         exact ⟨rfl, _, _, _, (show ls.length - (u + 1) < ls.length - u by omega), (lc 5 rfl (lc 7 rfl (lc 8 rfl (lc 16 rfl (lc 17 rfl (lc 18 (congrArg (fun b => some (Value.bool b)) (by first | exact fr_f (by assumption) | exact fr_t (by assumption) (.inl (by omega)) | exact fr_t (by assumption) (.inr (by omega)) | exact fr_n (by omega) (by omega))) (lc 111 rfl (lc 112 rfl (lc 113 rfl Less.nil))))))))), (.cons _ (.q (.q (.r (.q .slnil))))), ⟨u + 1, rfl, rfl, rfl, by omega⟩⟩
     ·have hjl : u = ls.length := by omega
      subst hjl
      refine i_nil (rQ (r_cond_f rfl (r_exit (then_e (then_e (block_hit (then_n (rQ (rS (kM rfl rfl (kO rfl (a_bin rfl rfl (bit0_t (k := k) hk128) (kO rfl (a_eql rfl rfl (fun h53 => ?_) (fun h53 => ?_)))))))))))))))
      ·have hb0 : bt k 0 = 1 := by omega
       refine i_nil (r_cond_t rfl (rS (kM rfl rfl (i_nil (rS (kM rfl rfl (i_nil (r_block ?_))))))))
       refine r_loop (fun j e A => ∃ (i : Nat), e = [(5, .pointer (some ⟨b2, 0, none⟩)), (7, .pointer (some ⟨b3, 0, none⟩)), (8, .slice (some ⟨bw4, 0, none⟩) (M + 1) cW), (16, .int .i64 (k : Int)), (17, .int .i64 (up2 w k i)), (18, .bool (frB ls k ls.length)), (22, .int .i64 (i : Int))] /\ A = (.row bw4 3 opw (ints w) :: (.row b3 29 false ([.int .i64 (M : Int), .slice aT ls.length cT]) :: (TL ++ (.row b2 26 false ([.int .i64 w0, .int .i64 w1, .int .i64 w2, .int .i64 w3]) :: [])))) /\ j = M + 1 - i /\ 1 <= i /\ i <= M + 1) 300 281474976710656 281474976710656 ?_ (j := _) (env2 := _) (A2 := _) ?_ ?_ ?_ ?_ ⟨1, rfl, rfl, rfl, Nat.le_refl _, by omega⟩
       rotate_left
       ·omega
       ·omega
       ·exact (lc 5 rfl (lc 7 rfl (lc 8 rfl (lc 16 rfl (lc 17 (by show some (Value.int .i64 0) = some (Value.int .i64 (0 - (if bt k 0 = 0 /\ 0 < 0 then w.getD 0 0 else 0))); rw [if_neg (fun q => Nat.lt_irrefl 0 q.2)]; rfl) (lc 18 rfl (lc 22 rfl Less.nil)))))))
       ·exact (.q (.q (.r (.q .slnil))))
       rintro n hn j _ _ ⟨i, rfl, rfl, rfl, hi1, hi⟩
       have hu2 := up2_bd (k := k) hwb hi
       have hdk := div_le128 (k := k) (i := i) hk128
       refine rQ (rS (kM rfl rfl (kO rfl (a_fa rfl (kO rfl (a_ld rfl (.next .here) rfl (kO rfl (a_leq rfl rfl (fun h54 => ?_) (fun h54 => ?_)))))))))
       ·refine i_nil (r_cond_t rfl (r_skip (then_n (rQ (r_block (rS (kM rfl rfl (kM rfl rfl (kO rfl (a_bin rfl rfl (shr_t (k := k) (i := i) (by omega) (by omega)) (kO rfl (a_bin rfl rfl (bit_t (k := k) (i := i) hk128) (kO rfl (a_eql rfl rfl (fun h55 => ?_) (fun h55 => ?_)))))))))))))))
        ·refine i_nil (r_cond_t rfl (rI (kM rfl rfl (kM rfl rfl (kM rfl rfl (kO rfl (a_ia (j := i) rfl rfl (by omega) (by omega) (kO rfl (a_ldI rfl .here (by first | omega | (simp; done) | (simp; omega)) ?_)))))))))
         have hwb9 := hwb i (by omega)
         refine kO rfl (a_sub rfl rfl (by omega) (kM rfl rfl (i_nil (block_n (then_n (rI (kM rfl rfl (kO rfl (a_add rfl rfl (by omega) (kM rfl rfl (i_nil (then_n ?_))))))))))))
         exact ⟨rfl, _, _, _, (show M + 1 - (i + 1) < M + 1 - i by omega), (lc 5 rfl (lc 7 rfl (lc 8 rfl (lc 16 rfl (lc 17 (by first | (show some (Value.int .i64 (up2 w k i - w.getD i 0)) = some (Value.int .i64 (up2 w k i - (if bt k i = 0 /\ 0 < i then w.getD i 0 else 0))); rw [if_pos ⟨by omega, by omega⟩]; done) | (show some (Value.int .i64 (up2 w k i)) = some (Value.int .i64 (up2 w k i - (if bt k i = 0 /\ 0 < i then w.getD i 0 else 0))); rw [if_neg (fun q => by have q1 := q.1; omega), Int.sub_zero]; done)) (lc 18 rfl (lc 22 rfl Less.nil))))))), (.q (.q (.r (.q .slnil)))), ⟨i + 1, rfl, rfl, rfl, by omega, by omega⟩⟩
        ·refine i_nil (r_cond_f rfl (r_skip (block_n (then_n (rI (kM rfl rfl (kO rfl (a_add rfl rfl (by omega) (kM rfl rfl (i_nil (then_n ?_)))))))))))
         exact ⟨rfl, _, _, _, (show M + 1 - (i + 1) < M + 1 - i by omega), (lc 5 rfl (lc 7 rfl (lc 8 rfl (lc 16 rfl (lc 17 (by first | (show some (Value.int .i64 (up2 w k i - w.getD i 0)) = some (Value.int .i64 (up2 w k i - (if bt k i = 0 /\ 0 < i then w.getD i 0 else 0))); rw [if_pos ⟨by omega, by omega⟩]; done) | (show some (Value.int .i64 (up2 w k i)) = some (Value.int .i64 (up2 w k i - (if bt k i = 0 /\ 0 < i then w.getD i 0 else 0))); rw [if_neg (fun q => by have q1 := q.1; omega), Int.sub_zero]; done)) (lc 18 rfl (lc 22 rfl Less.nil))))))), (.q (.q (.r (.q .slnil)))), ⟨i + 1, rfl, rfl, rfl, by omega, by omega⟩⟩
       ·have hiM : i = M + 1 := by omega
        subst hiM
        refine i_nil (r_cond_f rfl (r_exit (then_e (then_e (block_hit (then_n (rS (kM rfl rfl ?_))))))))
        cases hfr9 : frB ls k ls.length
        ·refine kM rfl rfl (i_no rfl rfl (i_no rfl rfl (kO rfl (a_pick_f rfl rfl rfl (i_nil (r_cond_f rfl (r_skip (block_n (then_n (rI (kM rfl rfl (kO rfl (a_add rfl rfl (by omega) (kM rfl rfl (i_nil (then_n ?_))))))))))))))))
         have hks2 : k + 1 <= sw := Nat.lt_of_le_of_ne hks (fun e => by subst e; first | (rw [hsw3] at hfr9; cases hfr9; done) | (have := hsw4 (by assumption); omega) | (have := hsw5 (by assumption); omega))
         exact ⟨rfl, _, _, _, (show sw - (k + 1) < sw - k by omega), (lc 5 rfl (lc 7 rfl (lc 8 rfl (lc 16 rfl Less.nil)))), (.q (.q (.r (.q .slnil)))), ⟨k + 1, rfl, rfl, rfl, by omega, hks2⟩⟩
        ·refine kM rfl rfl (kG rfl rfl (a_mov rfl (kG rfl rfl (a_gtr rfl rfl (fun h56 => ?_) (fun h56 => ?_)))))
         ·refine kO rfl (a_pick_t rfl rfl rfl (i_nil (r_cond_t rfl (rS (kO rfl (a_callV rfl rfl (fun s1 h1 => known_s _ s1 h1.wf) (kM rfl rfl (i_nil (r_ret (block_r (then_r (then_r (block_r (then_r ?_))))))))))))))
          exact end1 rfl ⟨rfl, rfl⟩
         ·refine kO rfl (a_pick_t rfl rfl rfl (i_nil (r_cond_f rfl (r_skip (block_n (then_n (rI (kM rfl rfl (kO rfl (a_add rfl rfl (by omega) (kM rfl rfl (i_nil (then_n ?_)))))))))))))
          have hks2 : k + 1 <= sw := Nat.lt_of_le_of_ne hks (fun e => by subst e; first | (rw [hsw3] at hfr9; cases hfr9; done) | (have := hsw4 (by assumption); omega) | (have := hsw5 (by assumption); omega))
          exact ⟨rfl, _, _, _, (show sw - (k + 1) < sw - k by omega), (lc 5 rfl (lc 7 rfl (lc 8 rfl (lc 16 rfl Less.nil)))), (.q (.q (.r (.q .slnil)))), ⟨k + 1, rfl, rfl, rfl, by omega, hks2⟩⟩
      ·have hb0 : ¬ bt k 0 = 1 := by omega
       refine i_nil (r_cond_f rfl (r_skip (then_n (rS (kM rfl rfl ?_)))))
       cases hfr9 : frB ls k ls.length
       ·refine kM rfl rfl (i_no rfl rfl (i_no rfl rfl (kO rfl (a_pick_f rfl rfl rfl (i_nil (r_cond_f rfl (r_skip (block_n (then_n (rI (kM rfl rfl (kO rfl (a_add rfl rfl (by omega) (kM rfl rfl (i_nil (then_n ?_))))))))))))))))
        have hks2 : k + 1 <= sw := Nat.lt_of_le_of_ne hks (fun e => by subst e; first | (rw [hsw3] at hfr9; cases hfr9; done) | (have := hsw4 (by assumption); omega) | (have := hsw5 (by assumption); omega))
        exact ⟨rfl, _, _, _, (show sw - (k + 1) < sw - k by omega), (lc 5 rfl (lc 7 rfl (lc 8 rfl (lc 16 rfl Less.nil)))), (.q (.q (.r (.q .slnil)))), ⟨k + 1, rfl, rfl, rfl, by omega, hks2⟩⟩
       ·refine kM rfl rfl (kG rfl rfl (a_mov rfl (kG rfl rfl (a_gtr rfl rfl (fun h57 => ?_) (fun h57 => ?_)))))
        ·refine kO rfl (a_pick_t rfl rfl rfl (i_nil (r_cond_t rfl (rS (kO rfl (a_callV rfl rfl (fun s1 h1 => known_s _ s1 h1.wf) (kM rfl rfl (i_nil (r_ret (block_r (then_r (then_r (block_r (then_r ?_))))))))))))))
         exact end1 rfl ⟨rfl, rfl⟩
        ·refine kO rfl (a_pick_t rfl rfl rfl (i_nil (r_cond_f rfl (r_skip (block_n (then_n (rI (kM rfl rfl (kO rfl (a_add rfl rfl (by omega) (kM rfl rfl (i_nil (then_n ?_)))))))))))))
         have hks2 : k + 1 <= sw := Nat.lt_of_le_of_ne hks (fun e => by subst e; first | (rw [hsw3] at hfr9; cases hfr9; done) | (have := hsw4 (by assumption); omega) | (have := hsw5 (by assumption); omega))
         exact ⟨rfl, _, _, _, (show sw - (k + 1) < sw - k by omega), (lc 5 rfl (lc 7 rfl (lc 8 rfl (lc 16 rfl Less.nil)))), (.q (.q (.r (.q .slnil)))), ⟨k + 1, rfl, rfl, rfl, by omega, hks2⟩⟩
   ·exfalso; omega
  ·obtain ⟨t2, p2, hOp2, hts2, hpb2, rfl, rfl⟩ := q1
   rw [List.nil_append]
   refine kM rfl rfl (kO rfl (a_ext rfl rfl (kO rfl (a_ext rfl rfl (kM rfl rfl (kM rfl rfl (i_nil (rQ (rS (kM rfl rfl (kO rfl (a_neq rfl rfl (fun h => absurd h (by decide)) (fun _ => (kM rfl rfl (kG rfl rfl (a_mov rfl (kG rfl rfl (a_eql rfl rfl (fun h => absurd h (by decide)) (fun _ => (kG rfl rfl (a_mov rfl (i_no rfl rfl (i_no rfl rfl (kG rfl rfl (a_pick_f rfl rfl rfl (kG rfl rfl (a_mov rfl (i_no rfl rfl (i_no rfl rfl (kG rfl rfl (a_pick_f rfl rfl rfl (kO rfl (a_pick_f rfl rfl rfl (i_nil (r_cond_f rfl ?_)))))))))))))))))))))))))))))))))))
   refine r_skip (then_n (rQ (rS (kM rfl rfl (kO rfl (a_neq rfl rfl (fun h => absurd h (by decide)) (fun _ => (i_nil (r_cond_f rfl (r_skip (then_n (rQ (rS ?_)))))))))))))
   have hp2 := p2_le hM6
   obtain ⟨sw, hsw1, hsw2, hsw3, hsw4, hsw5⟩ := opn_set hlm hop9
   refine kM rfl rfl (i_nil (r_block ?_))
   refine r_loop (fun j e A => ∃ (k : Nat), e = [(5, .pointer (some ⟨b2, 0, none⟩)), (7, .pointer (some ⟨b3, 0, none⟩)), (8, .slice (some ⟨bw4, 0, none⟩) (M + 1) cW), (16, .int .i64 (k : Int))] /\ A = (.row bw4 3 opw (ints w) :: (.row b3 29 false ([.int .i64 (M : Int), .slice aT ls.length cT]) :: (TL ++ (.row b2 26 false ([.int .i64 w0, .int .i64 w1, .int .i64 w2, .int .i64 w3]) :: [])))) /\ j = (sw - k) /\ 1 <= k /\ k <= sw) 1200 562949953421312 281474976710656 ?_ (j := _) (env2 := _) (A2 := _) ?_ ?_ ?_ ?_ ⟨1, rfl, rfl, rfl, Nat.le_refl _, hsw1⟩
   rotate_left
   ·omega
   ·omega
   ·exact (lc 5 rfl (lc 7 rfl (lc 8 rfl (lc 16 rfl Less.nil))))
   ·exact (List.sublist_append_of_sublist_right (.cons _ (.cons _ (List.sublist_append_of_sublist_right (.cons _ (.q (.q (.r (.q (.cons _ .slnil))))))))))
   rintro n hn j _ _ ⟨k, rfl, rfl, rfl, hk1, hks⟩
   have hk128 : k < 128 := by have := p2_le hM6; omega
   refine rQ (rS (kM rfl rfl (kO rfl (a_fa rfl (kO rfl (a_ld rfl (.next .here) rfl (kO rfl (a_add rfl rfl (by omega) (kO rfl (a_bin rfl rfl (shl_t (i := M) (by omega)) ?_))))))))))
   have hp2 := p2_le hM6
   refine kO rfl (a_lss rfl rfl (fun h61 => ?_) (fun h61 => ?_))
   ·refine i_nil (r_cond_t rfl (r_skip (then_n (rQ (r_block (rS (kM rfl rfl (i_nil (rS (kM rfl rfl (i_nil (rQ (rS (kM rfl rfl (i_nil (r_block ?_))))))))))))))))
    refine r_loop (fun j e A => ∃ (i : Nat), e = [(5, .pointer (some ⟨b2, 0, none⟩)), (7, .pointer (some ⟨b3, 0, none⟩)), (8, .slice (some ⟨bw4, 0, none⟩) (M + 1) cW), (16, .int .i64 (k : Int)), (17, .int .i64 (up1 w k i)), (18, .bool true), (19, .int .i64 (i : Int))] /\ A = (.row bw4 3 opw (ints w) :: (.row b3 29 false ([.int .i64 (M : Int), .slice aT ls.length cT]) :: (TL ++ (.row b2 26 false ([.int .i64 w0, .int .i64 w1, .int .i64 w2, .int .i64 w3]) :: [])))) /\ j = M + 1 - i /\ i <= M + 1) 300 281474976710656 281474976710656 ?_ (j := _) (env2 := _) (A2 := _) ?_ ?_ ?_ ?_ ⟨0, rfl, rfl, rfl, Nat.zero_le _⟩
    rotate_left
    ·omega
    ·omega
    ·exact (lc 5 rfl (lc 7 rfl (lc 8 rfl (lc 16 rfl (lc 17 rfl (lc 18 rfl (lc 19 rfl Less.nil)))))))
    ·exact (.q (.q (.r (.q .slnil))))
    rintro n hn j _ _ ⟨i, rfl, rfl, rfl, hi⟩
    have hu1 := up1_bd (k := k) hwb hi
    have hdk := div_le128 (k := k) (i := i) hk128
    refine rQ (rS (kM rfl rfl (kO rfl (a_fa rfl (kO rfl (a_ld rfl (.next .here) rfl (kO rfl (a_leq rfl rfl (fun h62 => ?_) (fun h62 => ?_)))))))))
    ·refine i_nil (r_cond_t rfl (r_skip (then_n (rQ (r_block (rS (kM rfl rfl (kM rfl rfl (kO rfl (a_bin rfl rfl (shr_t (k := k) (i := i) (by omega) (by omega)) (kO rfl (a_bin rfl rfl (bit_t (k := k) (i := i) hk128) (kO rfl (a_eql rfl rfl (fun h63 => ?_) (fun h63 => ?_)))))))))))))))
     ·refine kM rfl rfl (kG rfl rfl (a_mov rfl (kG rfl rfl (a_gtr rfl rfl (fun h64 => ?_) (fun h64 => ?_)))))
      ·refine kO rfl (a_pick_t rfl rfl rfl (i_nil (r_cond_t rfl (rI (kM rfl rfl (kM rfl rfl (kM rfl rfl (kO rfl (a_ia (j := i) rfl rfl (by omega) (by omega) (kO rfl (a_ldI rfl .here (by first | omega | (simp; done) | (simp; omega)) ?_)))))))))))
       have hwb9 := hwb i (by omega)
       refine kO rfl (a_add rfl rfl (by omega) (kM rfl rfl (i_nil (block_n (then_n (rI (kM rfl rfl (kO rfl (a_add rfl rfl (by omega) (kM rfl rfl (i_nil (then_n ?_))))))))))))
       exact ⟨rfl, _, _, _, (show M + 1 - (i + 1) < M + 1 - i by omega), (lc 5 rfl (lc 7 rfl (lc 8 rfl (lc 16 rfl (lc 17 (by first | (show some (Value.int .i64 (up1 w k i + w.getD i 0)) = some (Value.int .i64 (up1 w k i + (if bt k i = 1 /\ 0 < i then w.getD i 0 else 0))); rw [if_pos ⟨by omega, by omega⟩]; done) | (show some (Value.int .i64 (up1 w k i)) = some (Value.int .i64 (up1 w k i + (if bt k i = 1 /\ 0 < i then w.getD i 0 else 0))); rw [if_neg (fun q => by have q1 := q.1; have q2 := q.2; omega), Int.add_zero]; done)) (lc 18 rfl (lc 19 rfl Less.nil))))))), (.q (.q (.r (.q .slnil)))), ⟨i + 1, rfl, rfl, rfl, by omega⟩⟩
      ·refine kO rfl (a_pick_t rfl rfl rfl (i_nil (r_cond_f rfl (r_skip (block_n (then_n (rI (kM rfl rfl (kO rfl (a_add rfl rfl (by omega) (kM rfl rfl (i_nil (then_n ?_)))))))))))))
       exact ⟨rfl, _, _, _, (show M + 1 - (i + 1) < M + 1 - i by omega), (lc 5 rfl (lc 7 rfl (lc 8 rfl (lc 16 rfl (lc 17 (by first | (show some (Value.int .i64 (up1 w k i + w.getD i 0)) = some (Value.int .i64 (up1 w k i + (if bt k i = 1 /\ 0 < i then w.getD i 0 else 0))); rw [if_pos ⟨by omega, by omega⟩]; done) | (show some (Value.int .i64 (up1 w k i)) = some (Value.int .i64 (up1 w k i + (if bt k i = 1 /\ 0 < i then w.getD i 0 else 0))); rw [if_neg (fun q => by have q1 := q.1; have q2 := q.2; omega), Int.add_zero]; done)) (lc 18 rfl (lc 19 rfl Less.nil))))))), (.q (.q (.r (.q .slnil)))), ⟨i + 1, rfl, rfl, rfl, by omega⟩⟩
     ·refine kM rfl rfl (i_no rfl rfl (i_no rfl rfl (kO rfl (a_pick_f rfl rfl rfl (i_nil (r_cond_f rfl (r_skip (block_n (then_n (rI (kM rfl rfl (kO rfl (a_add rfl rfl (by omega) (kM rfl rfl (i_nil (then_n ?_))))))))))))))))
      exact ⟨rfl, _, _, _, (show M + 1 - (i + 1) < M + 1 - i by omega), (lc 5 rfl (lc 7 rfl (lc 8 rfl (lc 16 rfl (lc 17 (by first | (show some (Value.int .i64 (up1 w k i + w.getD i 0)) = some (Value.int .i64 (up1 w k i + (if bt k i = 1 /\ 0 < i then w.getD i 0 else 0))); rw [if_pos ⟨by omega, by omega⟩]; done) | (show some (Value.int .i64 (up1 w k i)) = some (Value.int .i64 (up1 w k i + (if bt k i = 1 /\ 0 < i then w.getD i 0 else 0))); rw [if_neg (fun q => by have q1 := q.1; have q2 := q.2; omega), Int.add_zero]; done)) (lc 18 rfl (lc 19 rfl Less.nil))))))), (.q (.q (.r (.q .slnil)))), ⟨i + 1, rfl, rfl, rfl, by omega⟩⟩
    ·have hiM : i = M + 1 := by omega
     subst hiM
     refine i_nil (r_cond_f rfl (r_exit (then_e (then_e (block_hit (then_n (rQ (rS (kO rfl (a_fa rfl (kO rfl (a_ld rfl (.next .here) rfl (kO rfl (a_lenx rfl (by first | exact hTM.spot | exact hTR.spot | exact hR.spot | exact hI1.spot) (kM rfl rfl (i_nil (r_block ?_)))))))))))))))))
     refine r_loop (fun j e A => ∃ (u : Nat), e = [(5, .pointer (some ⟨b2, 0, none⟩)), (7, .pointer (some ⟨b3, 0, none⟩)), (8, .slice (some ⟨bw4, 0, none⟩) (M + 1) cW), (16, .int .i64 (k : Int)), (17, .int .i64 (up1 w k (M + 1))), (18, .bool (frB ls k u)), (111, .slice aT ls.length cT), (112, .int .i64 (ls.length : Int)), (113, .int .i64 (u : Int))] /\ A = (.row bw4 3 opw (ints w) :: (.row b3 29 false ([.int .i64 (M : Int), .slice aT ls.length cT]) :: (TL ++ (.row b2 26 false ([.int .i64 w0, .int .i64 w1, .int .i64 w2, .int .i64 w3]) :: [])))) /\ j = ls.length - u /\ u <= ls.length) 300 281474976710656 281474976710656 ?_ (j := _) (env2 := _) (A2 := _) ?_ ?_ ?_ ?_ ⟨0, rfl, rfl, rfl, Nat.zero_le _⟩
     rotate_left
     ·omega
     ·omega
     ·exact (lc 5 rfl (lc 7 rfl (lc 8 rfl (lc 16 rfl (lc 17 rfl (lc 18 rfl (lc 111 rfl (lc 112 rfl (lc 113 rfl Less.nil)))))))))
     ·exact (.q (.q (.r (.q .slnil))))
     rintro n hn j _ _ ⟨u, rfl, rfl, rfl, hj⟩
     refine rS (kO rfl (a_lss rfl rfl (fun h65 => ?_) (fun h65 => ?_)))
     ·obtain ⟨bT, oT9, hat2, how9⟩ := hTL.own (show 0 < ls.length by omega)
      obtain ⟨hg1, hg2, hg3, hg4, hg5, y9, hx9⟩ := hLg u (by omega)
      have hdk1 := div_le128 (k := k) (i := lb ls u) hk128
      have hdk2 := div_le128 (k := k) (i := la ls u) hk128
      refine i_nil (rQ (r_cond_t rfl (r_skip (then_n (rQ (r_block (rS (kO rfl (a_iaA (j := u) hat2 rfl rfl (by first | rfl | omega) (by first | decide | omega) (kO rfl (a_lda rfl (by decide) (.next (.next (how9 _))) (limC_seg hx9) (kO rfl (a_new rfl rfl (fun b66 => (kZ rfl (a_sta rfl rfl .here rfl rfl rfl rfl (i_nil (rI (kM rfl rfl ?_)))))))))))))))))))
      cases hfr9 : frB ls k u
      ·refine kM rfl rfl (i_no rfl rfl (i_no rfl rfl (i_no rfl rfl (i_no rfl rfl (i_no rfl rfl (i_no rfl rfl (i_no rfl rfl (i_no rfl rfl (i_no rfl rfl (i_no rfl rfl (i_no rfl rfl (i_no rfl rfl (i_no rfl rfl (i_no rfl rfl (kO rfl (a_pick_f rfl rfl rfl (kM rfl rfl (i_nil (block_n (then_n (rI (kO rfl (a_add rfl rfl (by omega) (kM rfl rfl (i_nil ?_)))))))))))))))))))))))))
       refine then_n ?_
       exact ⟨rfl, _, _, _, (show ls.length - (u + 1) < ls.length - u by omega), (lc 5 rfl (lc 7 rfl (lc 8 rfl (lc 16 rfl (lc 17 rfl (lc 18 (congrArg (fun b => some (Value.bool b)) (by first | exact fr_f (by assumption) | exact fr_t (by assumption) (.inl (by omega)) | exact fr_t (by assumption) (.inr (by omega)) | exact fr_n (by omega) (by omega))) (lc 111 rfl (lc 112 rfl (lc 113 rfl Less.nil))))))))), (.cons _ (.q (.q (.r (.q .slnil))))), ⟨u + 1, rfl, rfl, rfl, by omega⟩⟩
      ·refine kM rfl rfl (kG rfl rfl (a_mov rfl (kG rfl rfl (a_fa rfl (kG rfl rfl (a_ld rfl .here rfl (kG rfl rfl (a_bin rfl rfl (shr_t (k := k) (i := lb ls u) (by omega) (by omega)) (kG rfl rfl (a_bin rfl rfl (bit_t (k := k) (i := lb ls u) hk128) (kG rfl rfl (a_eql rfl rfl (fun h67 => ?_) (fun h67 => ?_)))))))))))))
       ·refine kG rfl rfl (a_mov rfl (i_no rfl rfl (i_no rfl rfl (i_no rfl rfl (i_no rfl rfl (i_no rfl rfl (i_no rfl rfl (kG rfl rfl (a_pick_t rfl rfl rfl (kO rfl (a_pick_t rfl rfl rfl (kM rfl rfl (i_nil (block_n (then_n (rI (kO rfl (a_add rfl rfl (by omega) (kM rfl rfl (i_nil (then_n ?_)))))))))))))))))))))
        exact ⟨rfl, _, _, _, (show ls.length - (u + 1) < ls.length - u by omega), (lc 5 rfl (lc 7 rfl (lc 8 rfl (lc 16 rfl (lc 17 rfl (lc 18 (congrArg (fun b => some (Value.bool b)) (by first | exact fr_f (by assumption) | exact fr_t (by assumption) (.inl (by omega)) | exact fr_t (by assumption) (.inr (by omega)) | exact fr_n (by omega) (by omega))) (lc 111 rfl (lc 112 rfl (lc 113 rfl Less.nil))))))))), (.cons _ (.q (.q (.r (.q .slnil))))), ⟨u + 1, rfl, rfl, rfl, by omega⟩⟩
       ·refine kG rfl rfl (a_mov rfl (kG rfl rfl (a_mov rfl (kG rfl rfl (a_fa rfl (kG rfl rfl (a_ld rfl .here rfl (kG rfl rfl (a_bin rfl rfl (shr_t (k := k) (i := la ls u) (by omega) (by omega)) (kG rfl rfl (a_bin rfl rfl (bit_t (k := k) (i := la ls u) hk128) (kG rfl rfl (a_eql rfl rfl (fun h68 => ?_) (fun h68 => ?_))))))))))))))
        ·refine kG rfl rfl (a_pick_f rfl rfl rfl (kO rfl (a_pick_t rfl rfl rfl (kM rfl rfl (i_nil (block_n (then_n (rI (kO rfl (a_add rfl rfl (by omega) (kM rfl rfl (i_nil (then_n ?_)))))))))))))
         exact ⟨rfl, _, _, _, (show ls.length - (u + 1) < ls.length - u by omega), (lc 5 rfl (lc 7 rfl (lc 8 rfl (lc 16 rfl (lc 17 rfl (lc 18 (congrArg (fun b => some (Value.bool b)) (by first | exact fr_f (by assumption) | exact fr_t (by assumption) (.inl (by omega)) | exact fr_t (by assumption) (.inr (by omega)) | exact fr_n (by omega) (by omega))) (lc 111 rfl (lc 112 rfl (lc 113 rfl Less.nil))))))))), (.cons _ (.q (.q (.r (.q .slnil))))), ⟨u + 1, rfl, rfl, rfl, by omega⟩⟩
        ·refine kG rfl rfl (a_pick_f rfl rfl rfl (kO rfl (a_pick_t rfl rfl rfl (kM rfl rfl (i_nil (block_n (then_n (rI (kO rfl (a_add rfl rfl (by omega) (kM rfl rfl (i_nil (then_n ?_)))))))))))))
         exact ⟨rfl, _, _, _, (show ls.length - (u + 1) < ls.length - u by omega), (lc 5 rfl (lc 7 rfl (lc 8 rfl (lc 16 rfl (lc 17 rfl (lc 18 (congrArg (fun b => some (Value.bool b)) (by first | exact fr_f (by assumption) | exact fr_t (by assumption) (.inl (by omega)) | exact fr_t (by assumption) (.inr (by omega)) | exact fr_n (by omega) (by omega))) (lc 111 rfl (lc 112 rfl (lc 113 rfl Less.nil))))))))), (.cons _ (.q (.q (.r (.q .slnil))))), ⟨u + 1, rfl, rfl, rfl, by omega⟩⟩
     ·have hjl : u = ls.length := by omega
      subst hjl
      refine i_nil (rQ (r_cond_f rfl (r_exit (then_e (then_e (block_hit (then_n (rQ (rS (kM rfl rfl (kO rfl (a_bin rfl rfl (bit0_t (k := k) hk128) (kO rfl (a_eql rfl rfl (fun h69 => ?_) (fun h69 => ?_)))))))))))))))
      ·have hb0 : bt k 0 = 1 := by omega
       refine i_nil (r_cond_t rfl (rS (kM rfl rfl (i_nil (rS (kM rfl rfl (i_nil (r_block ?_))))))))
       refine r_loop (fun j e A => ∃ (i : Nat), e = [(5, .pointer (some ⟨b2, 0, none⟩)), (7, .pointer (some ⟨b3, 0, none⟩)), (8, .slice (some ⟨bw4, 0, none⟩) (M + 1) cW), (16, .int .i64 (k : Int)), (17, .int .i64 (up2 w k i)), (18, .bool (frB ls k ls.length)), (22, .int .i64 (i : Int))] /\ A = (.row bw4 3 opw (ints w) :: (.row b3 29 false ([.int .i64 (M : Int), .slice aT ls.length cT]) :: (TL ++ (.row b2 26 false ([.int .i64 w0, .int .i64 w1, .int .i64 w2, .int .i64 w3]) :: [])))) /\ j = M + 1 - i /\ 1 <= i /\ i <= M + 1) 300 281474976710656 281474976710656 ?_ (j := _) (env2 := _) (A2 := _) ?_ ?_ ?_ ?_ ⟨1, rfl, rfl, rfl, Nat.le_refl _, by omega⟩
       rotate_left
       ·omega
       ·omega
       ·exact (lc 5 rfl (lc 7 rfl (lc 8 rfl (lc 16 rfl (lc 17 (by show some (Value.int .i64 0) = some (Value.int .i64 (0 - (if bt k 0 = 0 /\ 0 < 0 then w.getD 0 0 else 0))); rw [if_neg (fun q => Nat.lt_irrefl 0 q.2)]; rfl) (lc 18 rfl (lc 22 rfl Less.nil)))))))
       ·exact (.q (.q (.r (.q .slnil))))
       rintro n hn j _ _ ⟨i, rfl, rfl, rfl, hi1, hi⟩
       have hu2 := up2_bd (k := k) hwb hi
       have hdk := div_le128 (k := k) (i := i) hk128
       refine rQ (rS (kM rfl rfl (kO rfl (a_fa rfl (kO rfl (a_ld rfl (.next .here) rfl (kO rfl (a_leq rfl rfl (fun h70 => ?_) (fun h70 => ?_)))))))))
       ·refine i_nil (r_cond_t rfl (r_skip (then_n (rQ (r_block (rS (kM rfl rfl (kM rfl rfl (kO rfl (a_bin rfl rfl (shr_t (k := k) (i := i) (by omega) (by omega)) (kO rfl (a_bin rfl rfl (bit_t (k := k) (i := i) hk128) (kO rfl (a_eql rfl rfl (fun h71 => ?_) (fun h71 => ?_)))))))))))))))
        ·refine i_nil (r_cond_t rfl (rI (kM rfl rfl (kM rfl rfl (kM rfl rfl (kO rfl (a_ia (j := i) rfl rfl (by omega) (by omega) (kO rfl (a_ldI rfl .here (by first | omega | (simp; done) | (simp; omega)) ?_)))))))))
         have hwb9 := hwb i (by omega)
         refine kO rfl (a_sub rfl rfl (by omega) (kM rfl rfl (i_nil (block_n (then_n (rI (kM rfl rfl (kO rfl (a_add rfl rfl (by omega) (kM rfl rfl (i_nil (then_n ?_))))))))))))
         exact ⟨rfl, _, _, _, (show M + 1 - (i + 1) < M + 1 - i by omega), (lc 5 rfl (lc 7 rfl (lc 8 rfl (lc 16 rfl (lc 17 (by first | (show some (Value.int .i64 (up2 w k i - w.getD i 0)) = some (Value.int .i64 (up2 w k i - (if bt k i = 0 /\ 0 < i then w.getD i 0 else 0))); rw [if_pos ⟨by omega, by omega⟩]; done) | (show some (Value.int .i64 (up2 w k i)) = some (Value.int .i64 (up2 w k i - (if bt k i = 0 /\ 0 < i then w.getD i 0 else 0))); rw [if_neg (fun q => by have q1 := q.1; omega), Int.sub_zero]; done)) (lc 18 rfl (lc 22 rfl Less.nil))))))), (.q (.q (.r (.q .slnil)))), ⟨i + 1, rfl, rfl, rfl, by omega, by omega⟩⟩
        ·refine i_nil (r_cond_f rfl (r_skip (block_n (then_n (rI (kM rfl rfl (kO rfl (a_add rfl rfl (by omega) (kM rfl rfl (i_nil (then_n ?_)))))))))))
         exact ⟨rfl, _, _, _, (show M + 1 - (i + 1) < M + 1 - i by omega), (lc 5 rfl (lc 7 rfl (lc 8 rfl (lc 16 rfl (lc 17 (by first | (show some (Value.int .i64 (up2 w k i - w.getD i 0)) = some (Value.int .i64 (up2 w k i - (if bt k i = 0 /\ 0 < i then w.getD i 0 else 0))); rw [if_pos ⟨by omega, by omega⟩]; done) | (show some (Value.int .i64 (up2 w k i)) = some (Value.int .i64 (up2 w k i - (if bt k i = 0 /\ 0 < i then w.getD i 0 else 0))); rw [if_neg (fun q => by have q1 := q.1; omega), Int.sub_zero]; done)) (lc 18 rfl (lc 22 rfl Less.nil))))))), (.q (.q (.r (.q .slnil)))), ⟨i + 1, rfl, rfl, rfl, by omega, by omega⟩⟩
       ·have hiM : i = M + 1 := by omega
        subst hiM
        refine i_nil (r_cond_f rfl (r_exit (then_e (then_e (block_hit (then_n (rS (kM rfl rfl ?_))))))))
        cases hfr9 : frB ls k ls.length
        ·refine kM rfl rfl (i_no rfl rfl (i_no rfl rfl (kO rfl (a_pick_f rfl rfl rfl (i_nil (r_cond_f rfl (r_skip (block_n (then_n (rI (kM rfl rfl (kO rfl (a_add rfl rfl (by omega) (kM rfl rfl (i_nil (then_n ?_))))))))))))))))
         have hks2 : k + 1 <= sw := Nat.lt_of_le_of_ne hks (fun e => by subst e; first | (rw [hsw3] at hfr9; cases hfr9; done) | (have := hsw4 (by assumption); omega) | (have := hsw5 (by assumption); omega))
         exact ⟨rfl, _, _, _, (show sw - (k + 1) < sw - k by omega), (lc 5 rfl (lc 7 rfl (lc 8 rfl (lc 16 rfl Less.nil)))), (.q (.q (.r (.q .slnil)))), ⟨k + 1, rfl, rfl, rfl, by omega, hks2⟩⟩
        ·refine kM rfl rfl (kG rfl rfl (a_mov rfl (kG rfl rfl (a_gtr rfl rfl (fun h72 => ?_) (fun h72 => ?_)))))
         ·refine kO rfl (a_pick_t rfl rfl rfl (i_nil (r_cond_t rfl (rS (kO rfl (a_callV rfl rfl (fun s1 h1 => known_s _ s1 h1.wf) (kM rfl rfl (i_nil (r_ret (block_r (then_r (then_r (block_r (then_r ?_))))))))))))))
          exact end1 rfl ⟨rfl, rfl⟩
         ·refine kO rfl (a_pick_t rfl rfl rfl (i_nil (r_cond_f rfl (r_skip (block_n (then_n (rI (kM rfl rfl (kO rfl (a_add rfl rfl (by omega) (kM rfl rfl (i_nil (then_n ?_)))))))))))))
          have hks2 : k + 1 <= sw := Nat.lt_of_le_of_ne hks (fun e => by subst e; first | (rw [hsw3] at hfr9; cases hfr9; done) | (have := hsw4 (by assumption); omega) | (have := hsw5 (by assumption); omega))
          exact ⟨rfl, _, _, _, (show sw - (k + 1) < sw - k by omega), (lc 5 rfl (lc 7 rfl (lc 8 rfl (lc 16 rfl Less.nil)))), (.q (.q (.r (.q .slnil)))), ⟨k + 1, rfl, rfl, rfl, by omega, hks2⟩⟩
      ·have hb0 : ¬ bt k 0 = 1 := by omega
       refine i_nil (r_cond_f rfl (r_skip (then_n (rS (kM rfl rfl ?_)))))
       cases hfr9 : frB ls k ls.length
       ·refine kM rfl rfl (i_no rfl rfl (i_no rfl rfl (kO rfl (a_pick_f rfl rfl rfl (i_nil (r_cond_f rfl (r_skip (block_n (then_n (rI (kM rfl rfl (kO rfl (a_add rfl rfl (by omega) (kM rfl rfl (i_nil (then_n ?_))))))))))))))))
        have hks2 : k + 1 <= sw := Nat.lt_of_le_of_ne hks (fun e => by subst e; first | (rw [hsw3] at hfr9; cases hfr9; done) | (have := hsw4 (by assumption); omega) | (have := hsw5 (by assumption); omega))
        exact ⟨rfl, _, _, _, (show sw - (k + 1) < sw - k by omega), (lc 5 rfl (lc 7 rfl (lc 8 rfl (lc 16 rfl Less.nil)))), (.q (.q (.r (.q .slnil)))), ⟨k + 1, rfl, rfl, rfl, by omega, hks2⟩⟩
       ·refine kM rfl rfl (kG rfl rfl (a_mov rfl (kG rfl rfl (a_gtr rfl rfl (fun h73 => ?_) (fun h73 => ?_)))))
        ·refine kO rfl (a_pick_t rfl rfl rfl (i_nil (r_cond_t rfl (rS (kO rfl (a_callV rfl rfl (fun s1 h1 => known_s _ s1 h1.wf) (kM rfl rfl (i_nil (r_ret (block_r (then_r (then_r (block_r (then_r ?_))))))))))))))
         exact end1 rfl ⟨rfl, rfl⟩
        ·refine kO rfl (a_pick_t rfl rfl rfl (i_nil (r_cond_f rfl (r_skip (block_n (then_n (rI (kM rfl rfl (kO rfl (a_add rfl rfl (by omega) (kM rfl rfl (i_nil (then_n ?_)))))))))))))
         have hks2 : k + 1 <= sw := Nat.lt_of_le_of_ne hks (fun e => by subst e; first | (rw [hsw3] at hfr9; cases hfr9; done) | (have := hsw4 (by assumption); omega) | (have := hsw5 (by assumption); omega))
         exact ⟨rfl, _, _, _, (show sw - (k + 1) < sw - k by omega), (lc 5 rfl (lc 7 rfl (lc 8 rfl (lc 16 rfl Less.nil)))), (.q (.q (.r (.q .slnil)))), ⟨k + 1, rfl, rfl, rfl, by omega, hks2⟩⟩
   ·exfalso; omega
 ·obtain ⟨t, p, hOp, hts, hpb, rfl, rfl⟩ := q1
  rw [List.nil_append]
  refine kM rfl rfl (kO rfl (a_ext rfl rfl (kO rfl (a_ext rfl rfl (kM rfl rfl (kM rfl rfl (i_nil (rS (kO rfl (a_fa rfl (kO rfl (a_ld rfl (.next .here) rfl (kO rfl (a_sub rfl rfl (by omega) (kO rfl (a_lda rfl (by decide) (.next (.next (.app .here))) rfl (kO rfl (a_lit rfl rfl rfl (fun b74 => (kO rfl (a_build rfl rfl (kO rfl (a_call rfl rfl (fun s1 h1 => made_s _ ((M : Int) - 1) _ _ [[w0, w1, w2, w3]] s1 h1.wf (by omega) (rows_lit (h1.own .here) hw4)) (fun v1 A1 q1 => ?_))))))))))))))))))))))))
  obtain ⟨aM, cM, ML, rfl, hA8, hTM⟩ := q1
  rw [hA8]
  have hmm := md_again hM1 hM6
  rw [hmm] at hTM ⊢
  have hmr : mdL M [[w0, w1, w2, w3]] = [mdRow M w0 w1 w2 w3] := rfl
  rw [hmr] at hTM ⊢
  obtain ⟨y0, y1, y2, y3, hyr, hyc, hyw, _⟩ := md_ok (r := [w0, w1, w2, w3]) hM1 hM6
  have hyr : mdRow M w0 w1 w2 w3 = [y0, y1, y2, y3] := hyr
  rw [hyr] at hTM ⊢
  obtain ⟨hTLM, _, _⟩ := hTM.ok
  obtain ⟨bM, opM, haM, howM⟩ := hTLM.own (show 0 < 1 by decide)
  have hl1 : ([[y0, y1, y2, y3]] : List (List Int)).length = 1 := rfl
  refine kO rfl (a_new rfl rfl (fun b75 => (kZ rfl (a_sta rfl rfl .here rfl rfl rfl rfl (i_nil (rS (kO rfl (a_lda rfl (by decide) (.next (.app (.next (.next .here)))) rfl (kO rfl (a_fa rfl (kO rfl (a_ld rfl .here rfl (kO rfl (a_iaA (j := 0) haM rfl rfl (by first | rfl | omega) (by first | decide | omega) (kO rfl (a_lda rfl (by decide) (.next (howM _)) (limC_seg (ts := [[y0, y1, y2, y3]]) (k := 0) rfl) (kO rfl (a_new rfl rfl (fun b76 => (kO rfl (a_call rfl rfl (fun s1 h1 => With_v _ M aT cT ls y0 y1 y2 y3 s1 h1.wf (by omega) (hTL.rows (.cons _ (.cons _ (List.sublist_append_of_sublist_right (.cons _ (.cons _ (.cons _ (List.sublist_append_left _ _))))))) h1 hLg (by omega) (by omega) hft) hcl hM (by omega) hsys hyc) (fun v1 A1 q1 => ?_))))))))))))))))))))))
  obtain ⟨aW, cW9, WL, rfl, hA7, hTW⟩ := q1
  rw [hA7]
  obtain ⟨hTLW, _, hclW⟩ := hTW.ok
  have hlm2 := lm_app hlm hyc
  have hLg2 := lg_of hlm2
  have hft2 := fit_app hM6 hft hyc
  have hln2 : (ls ++ [[y0, y1, y2, y3]]).length = ls.length + 1 := by rw [List.length_append]; rfl
  rw [<- hln2]
  have hsys2 := sys_app hM6 hl20 hlm2
  refine kM rfl rfl (kO rfl (a_ext rfl rfl (kO rfl (a_ext rfl rfl (kZ rfl (a_sta rfl rfl (.app .here) rfl rfl rfl rfl (kM rfl rfl (i_nil (rS (kO rfl (a_lda rfl (by decide) (.app .here) rfl (kM rfl rfl (kO rfl (a_call rfl rfl (fun s1 h1 => Most_v _ M aW cW9 (ls ++ [[y0, y1, y2, y3]]) _ _ w s1 h1.wf (by omega) (hTLW.rows (List.sublist_append_left _ _) h1 hLg2 (by omega) (by omega) hft2) hclW (IntsE.own (h1.own (.app (.next (.next (.app (.next .here)))))) hwf (by omega)) (cap_tight hTw (h1.own (.app (.next (.next (.app (.next .here)))))) (by rw [ints_len]; omega)) hsys2 hwl hwo) (fun v1 A1 q1 => ?_)))))))))))))))
  rcases q1 with ⟨hz1, rfl, rfl⟩ | ⟨hz1, hz2, rfl, rfl⟩ | ⟨hz1, q1⟩
  ·rw [List.nil_append]
   refine kM rfl rfl (kO rfl (a_ext rfl rfl (kO rfl (a_ext rfl rfl (kM rfl rfl (kM rfl rfl (i_nil (rQ (rS (kM rfl rfl (kO rfl (a_neq rfl rfl (fun h => absurd h (by decide)) (fun _ => (kM rfl rfl (kG rfl rfl (a_mov rfl (kG rfl rfl (a_eql rfl rfl (fun _ => (kG rfl rfl (a_mov rfl (kG rfl rfl (a_mov rfl (kG rfl rfl (a_neq rfl rfl (fun _ => (kG rfl rfl (a_pick_t rfl rfl rfl (kG rfl rfl (a_mov rfl (kG rfl rfl (a_mov rfl (kG rfl rfl (a_neq rfl rfl (fun h => absurd h (by decide)) (fun _ => (kG rfl rfl (a_pick_t rfl rfl rfl (kO rfl (a_pick_f rfl rfl rfl (i_nil (r_cond_f rfl ?_)))))))))))))))) (fun h => absurd h (by decide))))))))) (fun h => absurd h (by decide))))))))))))))))))))
   refine r_skip (then_n (rQ (rS (kM rfl rfl (kO rfl (a_neq rfl rfl (fun _ => (i_nil (r_cond_t rfl (rS (kM rfl rfl (kO rfl (a_eql rfl rfl (fun _ => (kM rfl rfl (i_no rfl rfl (i_no rfl rfl (kO rfl (a_pick_t rfl rfl rfl (kM rfl rfl (kG rfl rfl (a_callV rfl rfl (fun s1 h1 => known_s _ s1 h1.wf) (kO rfl (a_pick_t rfl rfl rfl (kM rfl rfl (i_nil (r_ret (then_r ?_))))))))))))))) (fun h => absurd h (by decide))))))))) (fun h => absurd h (by decide))))))))
   exact end1 rfl ⟨rfl, rfl⟩
  ·exact ((opn_less hz2).not (hN_of hlm) hOp.nn hOp.nt).elim
  ·obtain ⟨t2, p2, hOp2, hts2, hpb2, rfl, rfl⟩ := q1
   rw [List.nil_append]
   refine kM rfl rfl (kO rfl (a_ext rfl rfl (kO rfl (a_ext rfl rfl (kM rfl rfl (kM rfl rfl (i_nil (rQ (rS (kM rfl rfl (kO rfl (a_neq rfl rfl (fun h => absurd h (by decide)) (fun _ => (kM rfl rfl (kG rfl rfl (a_mov rfl (kG rfl rfl (a_eql rfl rfl (fun _ => (kG rfl rfl (a_mov rfl (kG rfl rfl (a_mov rfl (kG rfl rfl (a_neq rfl rfl (fun h => absurd h (by decide)) (fun _ => (kG rfl rfl (a_pick_t rfl rfl rfl (kG rfl rfl (a_mov rfl (i_no rfl rfl (i_no rfl rfl (kG rfl rfl (a_pick_f rfl rfl rfl (kO rfl (a_pick_f rfl rfl rfl (i_nil (r_cond_f rfl ?_)))))))))))))))))))) (fun h => absurd h (by decide))))))))))))))))))))
   refine r_skip (then_n (rQ (rS (kM rfl rfl (kO rfl (a_neq rfl rfl (fun _ => (i_nil (r_cond_t rfl (rS (kM rfl rfl (kO rfl (a_eql rfl rfl (fun _ => (kM rfl rfl (i_no rfl rfl (i_no rfl rfl (kO rfl (a_pick_t rfl rfl rfl (kM rfl rfl (kG rfl rfl (a_callV rfl rfl (fun s1 h1 => known_s _ s1 h1.wf) (kO rfl (a_pick_t rfl rfl rfl (kM rfl rfl (i_nil (r_ret (then_r ?_))))))))))))))) (fun h => absurd h (by decide))))))))) (fun h => absurd h (by decide))))))))
   exact end1 rfl ⟨rfl, rfl⟩
end
end Ev
end Go.Proofs.Ytoeklhdklcpllaa
namespace Go.Proofs.Ytoeklhdklcpllaa.Ev
open Go Go.RowKit Go.ChangeShapes Go.WideShapes Go.ChangeAt Go.Joins
set_option linter.unusedVariables false
noncomputable section
theorem ints_of {s : St} {a : Option Addr} {rs : List (List Int)} (h : RowsE s 1 a rs) : IntsE s a (rs.map fun r => r.getD 0 0) := by
 have hr : ∀ r ∈ rs, r = [r.getD 0 0] := fun r hr => by
  have := h.width r hr
  match r, this with
  | [z], _ => rfl
 refine ⟨h.spot, fun hn => h.addr (by rintro rfl; exact hn rfl), fun b o ha => ?_, fun x hx => ?_, by rw [List.length_map]; exact h.len⟩
 ·have key : ∀ (l : List (List Int)) (k : Nat), (∀ i r, l[i]? = some r -> Ats s b (o + (k + i) * 1) (r.map (.int .i64))) -> (∀ r ∈ l, r = [r.getD 0 0]) -> Ats s b (o + k) (ints (l.map fun r => r.getD 0 0)) := by
   intro l
   induction l with
   | nil => intro k _ _; exact trivial
   | cons r l ih =>
    intro k h1 h2
    have q := h1 0 r rfl
    rw [h2 r (by simp)] at q
    refine ⟨?_, ?_⟩
    ·have := q.1; simpa using this
    ·have := ih (k + 1) (fun i r' hr' => by have := h1 (i + 1) r' (by simpa using hr'); rwa [show k + (i + 1) = k + 1 + i by omega] at this) (fun r' hr' => h2 r' (by simp [hr']))
     rwa [show o + (k + 1) = o + k + 1 by omega] at this
  have := key rs 0 (fun i r hr' => by rw [Nat.zero_add]; exact h.cells b o ha i r hr') hr
  simpa using this
 ·obtain ⟨r, h1, rfl⟩ := List.mem_map.1 hx
  have h2 := h.fit r h1
  rw [hr r h1] at h2 ⊢
  exact h2 _ (by simp)
set_option maxRecDepth 100000 in
theorem open_islice {H : Type} {enc : TypeId × Value -> H} {W : World} {r : Reach} {b0 : Nat} {v : Value} {d : DataW H} {p : List MemPlace} (hv : Value.okWide Try.prog W r b0 25 v) (h : DataW.Trod enc Try.prog W 0 (fun _ => true) true 25 v d p) (hz : ∀ x ∈ DataW.weights Try.prog 25 d, x <= reachBytes) :
 ∃ a n c r, v = .slice a n c /\ r.length = n /\ NiceS W a n c /\ RowsE (wst W) 1 a r := by
 obtain ⟨fuel, hf⟩ := h
 simp only [Value.okWide, Try.underlying25] at hv
 obtain ⟨a, n, c, rfl, hN⟩ := cell_niceS Try.underlying25 hv
 obtain ⟨rs, f, k, _⟩ := rowsW (w := 1) (bytes := 8) Try.underlying25 (by kernel_rfl) (by decide) (by kernel_rfl) (by decide) (intCells_int Try.underlying3) hN (by simpa [Value.cells] using hf) hz
 exact ⟨a, n, c, rs, rfl, f, hN, k⟩
end
end Go.Proofs.Ytoeklhdklcpllaa.Ev
namespace Go.Proofs.Ytoeklhdklcpllaa.Ev
open Go Go.RowKit Go.ChangeShapes Go.WideShapes Go.ChangeAt Go.Joins
set_option linter.unusedVariables false
noncomputable section
set_option maxRecDepth 100000 in
theorem int_four {H : Type} {enc : TypeId × Value -> H} {W : World} : IntCells H Try.prog enc W 26 4 := by
 intro base fuel sp held cs x h
 obtain ⟨xs, m, _, _, hl, hxl, hxi⟩ := DataW.trod_array Try.underlying26 h
 have e3 : Try.prog.cellsOf 26 = 4 := by kernel_rfl
 have e4 : Try.prog.cellsOf 3 = 1 := by kernel_rfl
 rw [e3] at hl
 match cs, hl with
 | [c0, c1, c2, c3], _ =>
  have g0 := hxi 0 (by omega)
  rw [e4] at g0
  have g1 := hxi 1 (by omega)
  rw [e4] at g1
  have g2 := hxi 2 (by omega)
  rw [e4] at g2
  have g3 := hxi 3 (by omega)
  rw [e4] at g3
  match xs, hxl with
  | [y0, y1, y2, y3], _ =>
   obtain ⟨z0, q0, _, w0⟩ := DataW.trod_int Try.underlying3 (show DataW.trod enc Try.prog W base sp held m 3 [c0] = some y0 from g0)
   obtain ⟨z1, q1, _, w1⟩ := DataW.trod_int Try.underlying3 (show DataW.trod enc Try.prog W base sp held m 3 [c1] = some y1 from g1)
   obtain ⟨z2, q2, _, w2⟩ := DataW.trod_int Try.underlying3 (show DataW.trod enc Try.prog W base sp held m 3 [c2] = some y2 from g2)
   obtain ⟨z3, q3, _, w3⟩ := DataW.trod_int Try.underlying3 (show DataW.trod enc Try.prog W base sp held m 3 [c3] = some y3 from g3)
   simp at q0 q1 q2 q3
   subst q0; subst q1; subst q2; subst q3
   exact ⟨[z0, z1, z2, z3], rfl, rfl, fun z hz => by simp at hz; rcases hz with rfl | rfl | rfl | rfl <;> first | exact wf_I64 w0 | exact wf_I64 w1 | exact wf_I64 w2 | exact wf_I64 w3⟩
set_option maxRecDepth 100000 in
set_option maxHeartbeats 2000000 in
theorem open_raw {H : Type} {enc : TypeId × Value -> H} {W : World} {r : Reach} {b0 : Nat} {v : Value} {d : DataW H} {p : List MemPlace} (hv : Value.okWide Try.prog W r b0 24 v) (h : DataW.Trod enc Try.prog W 0 (fun _ => true) true 24 v d p) (hz : ∀ x ∈ DataW.weights Try.prog 24 d, x <= reachBytes) :
 ∃ z0 a1 n1 c1 r1, v = .agg #[.int .i64 z0, .slice a1 n1 c1] /\ r1.length = n1 /\ NiceS W a1 n1 c1 /\ RowsE (wst W) 4 a1 r1 := by
 obtain ⟨fuel, hf⟩ := h
 simp only [Value.okWide, Try.underlying24] at hv
 obtain ⟨cs, rfl, hsz, ts, hts, _, hc⟩ := hv
 have e2 : Try.prog.cellTypes Try.prog.depth 24 = some [3, 22] := by kernel_rfl
 rw [e2] at hts
 cases hts
 have e3 : Try.prog.cellsOf 24 = 2 := by kernel_rfl
 rw [e3] at hsz
 obtain ⟨l⟩ := cs
 match l, hsz with
 | [x0, x1], _ =>
  have u0 : ∃ t, [3, 22][0]? = some t /\ Cell.okWide Try.prog W r b0 t x0 := by
   obtain ⟨t, h1, h2⟩ := hc 0 x0 rfl
   exact ⟨t, h1, h2⟩
  obtain ⟨t0, e0, w0⟩ := u0
  have : t0 = 3 := by simpa using e0.symm
  subst this
  have u1 : ∃ t, [3, 22][1]? = some t /\ Cell.okWide Try.prog W r b0 t x1 := by
   obtain ⟨t, h1, h2⟩ := hc 1 x1 rfl
   exact ⟨t, h1, h2⟩
  obtain ⟨t1, e1, w1⟩ := u1
  have : t1 = 22 := by simpa using e1.symm
  subst this
  obtain ⟨xs, m, _, hx, _, hlen, hfs⟩ := DataW.trod_struct Try.underlying24 hf
  have hd : d = .agg (xs.map (·.1)) := by simpa using congrArg Prod.fst hx
  have g_0 : ∃ y, xs[0]? = some y /\ DataW.trod enc Try.prog W 0 (fun _ => true) true m 3 [x0] = some y := by
   have hy : ∃ y, xs[0]? = some y := ⟨xs[0]'(by rw [hlen]; decide), List.getElem?_eq_getElem _⟩
   obtain ⟨y, hy⟩ := hy
   have h4 := hfs 0 _ rfl
   rw [hy] at h4
   have e4 : Try.prog.cellsOf 3 = 1 := by kernel_rfl
   exact ⟨y, hy, by simpa [e4, Value.cells] using h4⟩
  obtain ⟨⟨d_0, p_0⟩, gy_0, g_0⟩ := g_0
  obtain ⟨l_0, q_0, ql_0, _⟩ := intCells_int (P := Try.prog) Try.underlying3 g_0
  obtain ⟨z0, rfl⟩ : ∃ z, l_0 = [z] := by
   match l_0, ql_0 with
   | [z], _ => exact ⟨z, rfl⟩
  simp at q_0
  subst q_0
  have g_1 : ∃ y, xs[1]? = some y /\ DataW.trod enc Try.prog W 0 (fun _ => true) true m 22 [x1] = some y := by
   have hy : ∃ y, xs[1]? = some y := ⟨xs[1]'(by rw [hlen]; decide), List.getElem?_eq_getElem _⟩
   obtain ⟨y, hy⟩ := hy
   have h4 := hfs 1 _ rfl
   rw [hy] at h4
   have e4 : Try.prog.cellsOf 22 = 1 := by kernel_rfl
   exact ⟨y, hy, by simpa [e4, Value.cells] using h4⟩
  obtain ⟨⟨d_1, p_1⟩, gy_1, g_1⟩ := g_1
  obtain ⟨a1, n1, c1, rfl, hN1⟩ := cell_niceS Try.underlying22 w1
  have hz_1 : ∀ x ∈ DataW.weights Try.prog 22 d_1, x <= reachBytes := fun x hx' => hz x (by
   rw [hd]
   simp only [DataW.weights, Try.underlying24]
   exact DataW.weights_mem_each (j := 1) (t := 22) rfl (by rw [List.getElem?_map, gy_1]; rfl) x hx')
  obtain ⟨r1, f1, k1, _⟩ := rowsW (w := 4) (bytes := 32) Try.underlying22 (by kernel_rfl) (by decide) (by kernel_rfl) (by decide) int_four hN1 g_1 hz_1
  exact ⟨z0, a1, n1, c1, r1, rfl, f1, hN1, k1⟩
set_option maxRecDepth 100000 in
theorem open_fouri {H : Type} {enc : TypeId × Value -> H} {W : World} {r : Reach} {b0 : Nat} {v : Value} {d : DataW H} {p : List MemPlace} (hv : Value.okWide Try.prog W r b0 26 v) (h : DataW.Trod enc Try.prog W 0 (fun _ => true) true 26 v d p) : ∃ z0 z1 z2 z3, v = .agg #[.int .i64 z0, .int .i64 z1, .int .i64 z2, .int .i64 z3] /\ I64 z0 /\ I64 z1 /\ I64 z2 /\ I64 z3 := by
 obtain ⟨fuel, hf⟩ := h
 simp only [Value.okWide, Try.underlying26] at hv
 obtain ⟨⟨l⟩, rfl, _⟩ := hv
 obtain ⟨zs, h1, h2, h3⟩ := int_four hf
 match zs, h2, h3 with
 | [z0, z1, z2, z3], _, h3 => exact ⟨z0, z1, z2, z3, by have : l = [.int .i64 z0, .int .i64 z1, .int .i64 z2, .int .i64 z3] := h1; rw [this], h3 z0 (by simp), h3 z1 (by simp), h3 z2 (by simp), h3 z3 (by simp)⟩
end
end Go.Proofs.Ytoeklhdklcpllaa.Ev
namespace Go.Proofs.Ytoeklhdklcpllaa
open Go Go.RowKit
namespace Ev
set_option maxRecDepth 1000000 in
theorem sane_yes : yesK Try.prog tabw 3000 12 = true := by kernel_rfl
end Ev
theorem sane_w (w : World) : Calls Try.prog 12 #[] w fun e w' => e = .returned (.bool true) /\ Below w.heap.size w w' := Ev.yes_ok Ev.tabw_holds Ev.sane_yes w
end Go.Proofs.Ytoeklhdklcpllaa
