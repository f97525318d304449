import Derived.Test.YtcpebhdbpkhhiaaGreatZc06
set_option linter.unusedVariables false
set_option linter.unusedSimpArgs false
/- Contract: limits that contradict each other. -/
namespace Go.Proofs.YtcpebhdbpkhhiaaGreat
open Go Go.RowKit
namespace Ev
/-- No round leaves all as it was. -/
def Uns (ls : List (List Int)) (N : Nat) : Prop := ∀ r, r < N → ¬ (stl ls N (r + 1)).l = -1

section
variable {X : FuncId → List Value → St → (Value → St → Bool) → Bool}
theorem Cycle_s (n : Nat) (m : Int) (al : Option Addr) (cl : Nat) (ls : List (List Int)) (s : St) (hs : Wf s) (hn : 3659174697238528 ≤ n) (hL : RowsE s 4 al ls) (hSBs : sysE m ls = 0 → SB ls (m.toNat + 1)) : Spec Tryz.prog (tabK tabw) X (n + 6500) 18 [.agg ⟨[.int .i64 m, .slice al ls.length cl]⟩] s (fun v A => (¬ sysE m ls = 0 ∧ v = .tuple #[.slice none 0 0, .int .i64 (sysE m ls)] ∧ A = []) ∨ (sysE m ls = 0 ∧ ¬ Uns ls (m.toNat + 1) ∧ v = .tuple #[.slice none 0 0, .int .i64 0] ∧ A = []) ∨ (sysE m ls = 0 ∧ Uns ls (m.toNat + 1) ∧ ∃ b k cp op w l0, v = .tuple #[.slice (some ⟨b, 0, none⟩) (k + 1) cp, .int .i64 0] ∧ A = [.row b 3 op (ints w)] ∧ w.length = k + 1 ∧ k + 1 ≤ m.toNat + 1 ∧ l0 < m.toNat + 1 ∧ (stl ls (m.toNat + 1) (m.toNat + 1)).l = (l0 : Int) ∧ itr (stl ls (m.toNat + 1) (m.toNat + 1)).c (itr (stl ls (m.toNat + 1) (m.toNat + 1)).c l0 (m.toNat + 1)) (k + 1) = itr (stl ls (m.toNat + 1) (m.toNat + 1)).c l0 (m.toNat + 1) ∧ ∀ t, t ≤ k → w.getD t 0 = (cyl (stl ls (m.toNat + 1) (m.toNat + 1)).c (itr (stl ls (m.toNat + 1) (m.toNat + 1)).c l0 (m.toNat + 1)) k).getD (k - t) 0)) := by
 refine enter bw18_at rfl hs ?_
 unfold bw18
 have hlen := hL.len
 refine rS (kO rfl (a_box rfl rfl rfl (fun b1 => (kM rfl rfl (kM rfl rfl (i_nil (rQ (rS (kO rfl (a_lda rfl (by decide) .here rfl (kO rfl (a_callV rfl rfl (fun s1 h1 => Check_s _ _ _ _ _ s1 h1.wf (by omega) (hL.ext hs h1.2.1)) (kM rfl rfl (i_nil (rS (kM rfl rfl (kO rfl (a_neq rfl rfl (fun h2 => ?_) (fun h2 => ?_)))))))))))))))))))
 ·refine i_nil (r_cond_t rfl (rS (kM rfl rfl (kM rfl rfl (kM rfl rfl (i_nil (r_ret (then_r ?_))))))))
  exact end2 rfl rfl (.inl ⟨by omega, rfl, rfl⟩)
 ·have hsys : sysE m ls = 0 := by omega
  have hSB := hSBs hsys
  obtain ⟨hm0, hM, h400, hlm⟩ := sysE_ok hsys
  obtain ⟨M, rfl⟩ : ∃ q : Nat, m = (q : Int) := ⟨m.toNat, by omega⟩
  change SB ls (M + 1) at hSB
  refine i_nil (r_cond_f rfl (r_skip (then_n (rS (kO rfl (a_lda rfl (by decide) .here rfl (kO rfl (a_call rfl rfl (fun s1 h1 => newFlow_s _ M al cl ls s1 h1.wf (by omega) (hL.ext hs h1.2.1) (by omega) (by omega) hlm) (fun v1 A1 q1 => ?_)))))))))
  obtain ⟨bf3, bt4, bn5, O, B, rfl, rfl, hO⟩ := q1
  rw [List.append_assoc, List.cons_append, List.cons_append, List.cons_append, List.nil_append]
  refine kG rfl rfl (a_inl rfl rfl bw41_at rfl ?_)
  unfold bw41
  refine rS (kM rfl rfl (kM rfl rfl (i_nil (rS (kM rfl rfl (kO rfl (a_nilc rfl (kO rfl (a_fa rfl (kO rfl (a_fa rfl (kO rfl (a_ld rfl (.app .here) rfl (kO rfl (a_add rfl rfl (by omega) (kO rfl (a_mksI (m := M + 1) (c := M + 1) rfl rfl (by omega) (by omega) (by omega) (fun b6 => (kM rfl rfl (kO rfl (a_nilc rfl (kO rfl (a_fa rfl (kO rfl (a_fa rfl (kO rfl (a_ld rfl (.next (.app .here)) rfl (kO rfl (a_add rfl rfl (by omega) (kO rfl (a_mks5 (m := M + 1) (c := M + 1) rfl rfl (by omega) (by omega) (by omega) rep5 (fun b7 => (kM rfl rfl (kM rfl rfl (i_nil (rS (kM rfl rfl ?_)))))))))))))))))))))))))))))))))))))
  refine i_nil (rQ (rS (kM rfl rfl (kO rfl (a_nilc rfl (kO rfl (a_fa rfl (kO rfl (a_fa rfl (kO rfl (a_ld rfl (.next (.next (.app .here))) rfl (kO rfl (a_add rfl rfl (by omega) (kM rfl rfl (i_nil (r_block ?_))))))))))))))))
  rw [xs_zero (ls := ls) (N := M + 1), cvs_zero (N := M + 1)]
  refine r_loop (fun j e A => ∃ (r : Nat), e = [(0, .pointer (some ⟨bf3, 0, none⟩)), (4, .slice (some ⟨b6, 0, none⟩) (M + 1) (M + 1)), (5, .slice (some ⟨b7, 0, none⟩) (M + 1) (M + 1)), (6, .int .i64 (stl ls (M + 1) r).l), (26, .int .i64 ((M : Int) + 1)), (27, .int .i64 (r : Int))] ∧ A = (.row b7 93 false (cvs (stl ls (M + 1) r).c (M + 1)) :: (.row b6 3 false (ints (xs (stl ls (M + 1) r).x (M + 1))) :: (nobj B (nl ls ls.length) O ++ (.row bf3 64 false ([.int .i64 (M : Int), .slice al ls.length cl, .slice (some ⟨bt4, 0, none⟩) ls.length ls.length, .slice (some ⟨bn5, 0, none⟩) (M + 1) (M + 1)]) :: (.row bn5 25 false (nsl B (nl ls ls.length) (M + 1)) :: (.row bt4 3 false (ints (List.replicate ls.length 0)) :: (.row b1 24 false ([.int .i64 (M : Int), .slice al ls.length cl]) :: []))))))) ∧ j = M + 1 - r ∧ r ≤ M + 1 ∧ ∀ k, k < r → ¬ (stl ls (M + 1) (k + 1)).l = -1) 2000 1125899906842624 281474976710656 ?_ (j := _) (env2 := _) (A2 := _) ?_ ?_ ?_ ?_ ⟨0, rfl, rfl, rfl, Nat.zero_le _, (fun k hk => absurd hk (Nat.not_lt_zero k))⟩
  rotate_left
  ·omega
  ·omega
  ·exact (lc 0 rfl (lc 4 rfl (lc 5 rfl (lc 6 rfl (lc 26 rfl (lc 27 rfl Less.nil))))))
  ·exact (.cons_cons _ (.cons_cons _ (List.Sublist.append (List.Sublist.refl _) (.cons_cons _ (.cons_cons _ (.cons_cons _ (.cons_cons _ .slnil)))))))
  rintro n hn j _ _ ⟨r, rfl, rfl, rfl, hr, hne⟩
  refine rS (kO rfl (a_lss rfl rfl (fun h8 => ?_) (fun h8 => ?_)))
  ·refine i_nil (rQ (r_cond_t rfl (r_skip (then_n (rQ (r_block (rS (kM rfl rfl (kM rfl rfl (kM rfl rfl (kG rfl rfl (a_inl rfl rfl bw45_at rfl ?_))))))))))))
   unfold bw45
   refine rS (kO rfl (a_box rfl rfl rfl (fun b9 => (kO rfl (a_box rfl rfl rfl (fun b10 => (kM rfl rfl (i_nil (rS (kO rfl (a_new rfl rfl (fun b11 => (kZ rfl (a_st rfl rfl .here rfl rfl (i_nil (rQ (rS (kM rfl rfl (kO rfl (a_nilc rfl (kO rfl (a_fa rfl (kO rfl (a_fa rfl (kO rfl (a_ld rfl (.next (.next (.next (.next (.next (.app .here)))))) rfl (kO rfl (a_add rfl rfl (by omega) (kM rfl rfl (i_nil (r_block ?_)))))))))))))))))))))))))))))))
   refine r_loopD (fun j e D A => ∃ (v : Nat) (qs : List Nat), qs = D ∧ e = [(0, .pointer (some ⟨bf3, 0, none⟩)), (4, .pointer (some ⟨b9, 0, none⟩)), (5, .pointer (some ⟨b10, 0, none⟩)), (7, .pointer (some ⟨b11, 0, none⟩)), (16, .int .i64 ((M : Int) + 1)), (17, .int .i64 (v : Int))] ∧ A = (qs.map Ob.dfr ++ (.row b11 3 false ([.int .i64 (lwS ls (st0 (stl ls (M + 1) r)) v).l]) :: (.row b10 66 false ([.slice (some ⟨b7, 0, none⟩) (M + 1) (M + 1)]) :: (.row b9 25 false ([.slice (some ⟨b6, 0, none⟩) (M + 1) (M + 1)]) :: (.row b7 93 false (cvs (lwS ls (st0 (stl ls (M + 1) r)) v).c (M + 1)) :: (.row b6 3 false (ints (xs (lwS ls (st0 (stl ls (M + 1) r)) v).x (M + 1))) :: (nobj B (nl ls ls.length) O ++ (.row bf3 64 false ([.int .i64 (M : Int), .slice al ls.length cl, .slice (some ⟨bt4, 0, none⟩) ls.length ls.length, .slice (some ⟨bn5, 0, none⟩) (M + 1) (M + 1)]) :: (.row bn5 25 false (nsl B (nl ls ls.length) (M + 1)) :: (.row bt4 3 false (ints (List.replicate ls.length 0)) :: (.row b1 24 false ([.int .i64 (M : Int), .slice al ls.length cl]) :: []))))))))))) ∧ j = M + 1 - v ∧ v ≤ M + 1) 1200 562949953421312 281474976710656 ?_ (j := _) (env2 := _) (A2 := _) ?_ ?_ ?_ ?_ ⟨0, [], rfl, rfl, rfl, rfl, Nat.zero_le _⟩
   rotate_left
   ·omega
   ·omega
   ·exact (lc 0 rfl (lc 4 rfl (lc 5 rfl (lc 7 rfl (lc 16 rfl (lc 17 rfl Less.nil))))))
   ·exact (.cons_cons _ (.cons_cons _ (.cons_cons _ (.cons_cons _ (.cons_cons _ (List.Sublist.append (List.Sublist.refl _) (.cons_cons _ (.cons_cons _ (.cons_cons _ (.cons_cons _ .slnil))))))))))
   rintro n hn j _ _ _ ⟨v, qs, rfl, rfl, rfl, rfl, hv⟩
   have hnl9 := nl_le (ls := ls) ls.length v
   refine rS (kO rfl (a_lss rfl rfl (fun h12 => ?_) (fun h12 => ?_)))
   ·refine i_nil (rQ (r_cond_t rfl (r_skip (then_n (rQ (r_block (rS (kM rfl rfl (kO rfl (a_new rfl rfl (fun b13 => (kZ rfl (a_st rfl rfl .here rfl rfl (i_nil (rQ (rS (kO rfl (a_ld rfl (.next (.app (.next (.next .here)))) rfl (kO rfl (a_ld rfl .here rfl (kO rfl (a_ia (j := v) rfl rfl (by omega) (by omega) (kO rfl (a_ldX (x := ((lwS ls (st0 (stl ls (M + 1) r)) v).x) (v)) rfl (.next (.app (.next (.next (.next (.next .here)))))) (by rw [xs_len]; omega) (xs_get (by omega)) (kO rfl (a_eql rfl rfl (fun h14 => ?_) (fun h14 => ?_)))))))))))))))))))))))))))
    ·refine i_nil (r_cond_t rfl (r_exit (then_e (block_hit (then_n (rI (kO rfl (a_add rfl rfl (by omega) (kM rfl rfl (i_nil (then_n ?_)))))))))))
     exact ⟨_, _, _, (show M + 1 - (v + 1) < M + 1 - v by omega), (lc 0 rfl (lc 4 rfl (lc 5 rfl (lc 7 rfl (lc 16 rfl (lc 17 rfl Less.nil)))))), (.cons _ (List.Sublist.append (List.Sublist.refl _) (.cons_cons _ (.cons_cons _ (.cons_cons _ (.cons_cons _ (.cons_cons _ (List.Sublist.append (List.Sublist.refl _) (.cons_cons _ (.cons_cons _ (.cons_cons _ (.cons_cons _ .slnil)))))))))))), ⟨v + 1, qs, rfl, rfl, (by rw [lws_free (by assumption)]), rfl, by omega⟩⟩
    ·refine i_nil (r_cond_f rfl (r_skip (then_n (rS (kM rfl rfl (kO rfl (a_ld rfl .here rfl (kG rfl rfl (a_inl rfl rfl bw69_at rfl ?_)))))))))
     unfold bw69
     refine rS (kO rfl (a_box rfl rfl rfl (fun b15 => (kO rfl (a_box rfl rfl rfl (fun b16 => (kM rfl rfl (i_nil (rS (kO rfl (a_fn rfl rfl (kM rfl rfl (i_nil (r_ret (endD1 rfl .nil (i_nil (r_block (r_rangeV rfl bw87_at rfl (fun q17 l18 LO19 BO20 hLO19 hBO20 => ?_)))))))))))))))))))
     unfold bw87
     refine rS (kO rfl (a_ld rfl (.next (.next (.next .here))) rfl (kO rfl (a_nilc rfl (kO rfl (a_fa rfl (kO rfl (a_ld rfl (.next (.next (.next (.next (.next (.app (.next (.next (.next (.next (.next (.app .here)))))))))))) rfl (kO rfl (a_ld rfl (.next (.next .here)) rfl (kO rfl (a_ia (j := v) rfl rfl (by omega) (by omega) (kO rfl (a_ld rfl (.next (.next (.next (.next (.next (.app (.next (.next (.next (.next (.next (.app (.next .here))))))))))))) (nsl_get (by omega)) (kO rfl (a_lenN rfl (kM rfl rfl (i_nil (r_block ?_)))))))))))))))))))
     refine r_loop (fun j e A => ∃ (q : Nat), e = [(0, .func (.yield l18) ⟨[]⟩ ⟨[]⟩), (1, .pointer (some ⟨b15, 0, none⟩)), (2, .pointer (some ⟨b16, 0, none⟩)), (14, nsv B (nl ls ls.length) v), (15, .int .i64 ((nl ls ls.length v).length : Int)), (16, .int .i64 (q : Int))] ∧ A = (LO19 :: (.dfr q17 :: (.row b16 3 false ([.int .i64 (v : Int)]) :: (.row b15 41 false ([.pointer (some ⟨bf3, 0, none⟩)]) :: (.row b13 3 false ([.int .i64 (v : Int)]) :: (qs.map Ob.dfr ++ (.row b11 3 false ([.int .i64 (rwS ls (lwS ls (st0 (stl ls (M + 1) r)) v) v q).l]) :: (.row b10 66 false ([.slice (some ⟨b7, 0, none⟩) (M + 1) (M + 1)]) :: (.row b9 25 false ([.slice (some ⟨b6, 0, none⟩) (M + 1) (M + 1)]) :: (.row b7 93 false (cvs (rwS ls (lwS ls (st0 (stl ls (M + 1) r)) v) v q).c (M + 1)) :: (.row b6 3 false (ints (xs (rwS ls (lwS ls (st0 (stl ls (M + 1) r)) v) v q).x (M + 1))) :: (nobj B (nl ls ls.length) O ++ (.row bf3 64 false ([.int .i64 (M : Int), .slice al ls.length cl, .slice (some ⟨bt4, 0, none⟩) ls.length ls.length, .slice (some ⟨bn5, 0, none⟩) (M + 1) (M + 1)]) :: (.row bn5 25 false (nsl B (nl ls ls.length) (M + 1)) :: (.row bt4 3 false (ints (List.replicate ls.length 0)) :: (.row b1 24 false ([.int .i64 (M : Int), .slice al ls.length cl]) :: [])))))))))))))))) ∧ j = (nl ls ls.length v).length - q ∧ q ≤ (nl ls ls.length v).length) 800 281474976710656 281474976710656 ?_ (j := _) (env2 := _) (A2 := _) ?_ ?_ ?_ ?_ ⟨0, rfl, rfl, rfl, Nat.zero_le _⟩
     rotate_left
     ·omega
     ·omega
     ·exact (lc 0 rfl (lc 1 rfl (lc 2 rfl (lc 14 rfl (lc 15 rfl (lc 16 rfl Less.nil))))))
     ·exact (.cons_cons _ (.cons_cons _ (.cons_cons _ (.cons_cons _ (.cons_cons _ (List.Sublist.append (List.Sublist.refl _) (.cons_cons _ (.cons_cons _ (.cons_cons _ (.cons_cons _ (.cons_cons _ (List.Sublist.append (List.Sublist.refl _) (.cons_cons _ (.cons_cons _ (.cons_cons _ (.cons_cons _ .slnil))))))))))))))))
     rintro n hn j _ _ ⟨q, rfl, rfl, rfl, hq⟩
     refine rS (kO rfl (a_lss rfl rfl (fun h21 => ?_) (fun h21 => ?_)))
     ·have hq9 : q < (nl ls ls.length v).length := by omega
      obtain ⟨li, hi0, hil, hnam⟩ := nl_mem hq9
      obtain ⟨q4, o4, y0, y1, y2, y3, ahL, hx, hat, i0, i1, i2, i3⟩ := hL.row4 (k := li) (by omega)
      have hat2 := hat
      obtain ⟨d0, d1, d2, d3, _⟩ := hat2
      have := i0.lo; have := i0.hi
      have := i1.lo; have := i1.hi
      have := i2.lo; have := i2.hi
      have := i3.lo; have := i3.hi
      have hc4 := lmB_at hlm hx
      have hnm := nam_of hnam hx
      obtain ⟨u0, rfl⟩ : ∃ q : Nat, y0 = (q : Int) := ⟨y0.toNat, by omega⟩
      obtain ⟨u1, rfl⟩ : ∃ q : Nat, y1 = (q : Int) := ⟨y1.toNat, by omega⟩
      refine i_nil (rQ (r_cond_t rfl (r_skip (then_n (rQ (r_block (rS (kO rfl (a_iaN (j := q) rfl rfl (by omega) (by omega) (kO rfl (a_ldX (x := (li : Int)) rfl (.next (.next (.next (.next (.next (.app (.next (.next (.next (.next (.next (own_nobj ((hO.2 _ (by omega)).2 (fun e => by rw [e] at hq9; exact absurd hq9 (Nat.not_lt_zero _))))))))))))))) (by omega) hi0 (kM rfl rfl (i_nil (rS (kO rfl (a_ld rfl (.next (.next (.next .here))) rfl (kO rfl (a_nilc rfl (kO rfl (a_fa rfl (kO rfl (a_fa rfl (kO rfl (a_ld rfl (.next (.next (.next (.next (.next (.app (.next (.next (.next (.next (.next (.app .here)))))))))))) rfl (kM rfl rfl (kO rfl (a_iaA (j := li) ahL rfl rfl (by first | rfl | omega) (by first | decide | omega) (kO rfl (a_ldar rfl (by decide) (by assumption) rfl (kO rfl (a_new rfl rfl (fun b22 => (kZ rfl (a_sta rfl rfl .here rfl rfl rfl rfl (i_nil ?_)))))))))))))))))))))))))))))))))))
      refine rS (kM rfl rfl (kO rfl (a_ld rfl (.next (.next (.next .here))) rfl (kO rfl (a_fa rfl (kO rfl (a_ld rfl .here rfl (kO rfl (a_fa rfl (kO rfl (a_ld rfl .here rfl (kO rfl (a_build rfl rfl (kO rfl (a_new rfl rfl (fun b23 => (kZ rfl (a_sta rfl rfl .here rfl rfl rfl rfl (i_nil (rQ (rS (kO rfl (a_fa rfl (kO rfl (a_ld rfl (.next .here) rfl (kO rfl (a_ld rfl (.next (.next (.next (.next .here)))) rfl (kO rfl (a_eql rfl rfl (fun h24 => ?_) (fun h24 => ?_))))))))))))))))))))))))))))))
      ·have hu1 : v = u1 := by omega
       subst hu1
       have hb9 := hx
       refine i_nil (r_cond_t rfl (rI (kM rfl rfl (kO rfl (a_ld rfl (.next (.next (.next (.next .here)))) rfl (kO rfl (a_fa rfl (kO rfl (a_ld rfl (.next .here) rfl (kO rfl (a_fa rfl (kO rfl (a_ld rfl (.next .here) rfl (kO rfl (a_neg rfl (by omega) (kO rfl (a_build rfl rfl (kZ rfl (a_sta rfl rfl .here rfl rfl rfl rfl (i_nil (then_n (rQ (rS (kO rfl (a_fa rfl (kO rfl (a_ld rfl .here rfl (kM rfl rfl (kG rfl rfl (a_ld rfl (.next (.next (.next (.next (.next .here))))) rfl (kG rfl rfl (a_nilc rfl (kG rfl rfl (a_fa rfl (kG rfl rfl (a_ld rfl (.next (.next (.next (.next (.next (.next (.next (.app (.next (.next (.next (.next (.next (.app .here)))))))))))))) rfl (kG rfl rfl (a_mov rfl ?_))))))))))))))))))))))))))))))))))))))
       refine kG rfl rfl (a_ia (j := li) rfl rfl (by omega) (by omega) (kG rfl rfl (a_ldX (x := 0) rfl (.next (.next (.next (.next (.next (.next (.next (.app (.next (.next (.next (.next (.next (.app (.next (.next .here)))))))))))))))) (by rw [List.length_replicate]; omega) rep_get (kG rfl rfl (a_eql rfl rfl (fun _ => (kO rfl (a_pick_t rfl rfl rfl (i_nil (r_cond_t rfl (r_exit (then_e (block_hit (then_n (rI (kO rfl (a_add rfl rfl (by omega) (kM rfl rfl (i_nil (then_n ?_))))))))))))))) (fun h => absurd h (by decide)))))))
       exact ⟨rfl, _, _, _, (show (nl ls ls.length v).length - (q + 1) < (nl ls ls.length v).length - q by omega), (lc 0 rfl (lc 1 rfl (lc 2 rfl (lc 14 rfl (lc 15 rfl (lc 16 rfl Less.nil)))))), (.cons _ (.cons _ (.cons_cons _ (.cons_cons _ (.cons_cons _ (.cons_cons _ (.cons_cons _ (List.Sublist.append (List.Sublist.refl _) (.cons_cons _ (.cons_cons _ (.cons_cons _ (.cons_cons _ (.cons_cons _ (List.Sublist.append (List.Sublist.refl _) (.cons_cons _ (.cons_cons _ (.cons_cons _ (.cons_cons _ .slnil)))))))))))))))))), ⟨q + 1, rfl, (by first | (rw [rws_back hi0 hb9]; done) | (rw [rws_less hi0 hx hnb9 hls9]; done) | (rw [rws_less hi0 hx hnb9 hls9]; rfl) | (rw [rws_more hi0 hx hgr9]; done)), rfl, by omega⟩⟩
      ·have hnb9 := h24
       refine i_nil (r_cond_f rfl (r_skip (then_n (rQ (rS (kO rfl (a_fa rfl (kO rfl (a_ld rfl .here rfl (kM rfl rfl (i_no rfl rfl (i_no rfl rfl (i_no rfl rfl (i_no rfl rfl (i_no rfl rfl (i_no rfl rfl (i_no rfl rfl (i_no rfl rfl (kO rfl (a_pick_f rfl rfl rfl (i_nil (r_cond_f rfl (r_skip (then_n (rS (kM rfl rfl ?_))))))))))))))))))))))))))
       refine kO rfl (a_lda rfl (by decide) .here rfl (kG rfl rfl (a_yieldV rfl rfl hLO19 hBO20 (by simp) rfl rfl (rI (kO rfl (a_new rfl rfl (fun b26 => (kZ rfl (a_sta rfl rfl .here rfl rfl rfl rfl (i_nil (⟨_, (.next (.next (.next .here))), (r_block (rS (kO rfl (a_ld rfl (.next (.next (.next (.next (.next (.next (.next (.next (.app (.next (.next .here))))))))))) rfl (kO rfl (a_ld rfl (.next (.next (.next (.next (.next (.next (.next .here))))))) rfl (kO rfl (a_ia (j := v) rfl rfl (by omega) (by omega) (kO rfl (a_ldX (x := ((rwS ls (lwS ls (st0 (stl ls (M + 1) r)) v) v q).x) (v)) rfl (.next (.next (.next (.next (.next (.next (.next (.next (.app (.next (.next (.next (.next .here))))))))))))) (by rw [xs_len]; omega) (xs_get (by omega)) (kO rfl (a_fa rfl (kO rfl (a_ld rfl .here rfl ?_))))))))))))))⟩)))))))))))
       have hb1 := hSB.bd r v q v (by omega) (by omega) (by omega) (by omega)
       refine kO rfl (a_add rfl rfl (by omega) (kM rfl rfl (i_nil (rS (kM rfl rfl (kO rfl (a_ld rfl (.next (.next (.next (.next (.next (.next (.next (.next (.app (.next (.next .here))))))))))) rfl (kO rfl (a_fa rfl (kO rfl (a_ld rfl .here rfl (kO rfl (a_ia (j := u1) rfl rfl (by omega) (by omega) (kO rfl (a_ldX (x := ((rwS ls (lwS ls (st0 (stl ls (M + 1) r)) v) v q).x) (u1)) rfl (.next (.next (.next (.next (.next (.next (.next (.next (.app (.next (.next (.next (.next .here))))))))))))) (by rw [xs_len]; omega) (xs_get (by omega)) (kO rfl (a_lss rfl rfl (fun h27 => ?_) (fun h27 => ?_))))))))))))))))))
       ·have hls9 := h27
        refine i_nil (r_cond_t rfl (rI (kO rfl (a_ld rfl (.next (.next (.next (.next (.next (.next (.next (.next (.app (.next (.next .here))))))))))) rfl (kO rfl (a_fa rfl (kO rfl (a_ld rfl .here rfl (kO rfl (a_ld rfl (.next (.next (.next (.next (.next (.next (.next (.next (.app (.next .here)))))))))) rfl (kO rfl (a_fa rfl (kO rfl (a_ld rfl .here rfl (kM rfl rfl (kO rfl (a_lda rfl (by decide) .here rfl (kO rfl (a_fa rfl (kO rfl (a_ld rfl .here rfl (kO rfl (a_ia (j := u1) rfl rfl (by omega) (by omega) (kZ rfl (a_stI rfl rfl (by rw [xs_set]; exact (.next (.next (.next (.next (.next (.next (.next (.next (.app (.next (.next (.next (.next .here)))))))))))))) (by rw [xs_len]; omega) (kZ rfl (a_again rfl rfl .here rfl (by simp [eqV, eqA, eqL, kindEq, intEq_eq, eqV_sl hL.spot]) (kZ rfl (a_againa rfl rfl (by decide) .here rfl (by simp [eqL, eqV, eqA, kindEq, intEq_eq, eqV_sl hL.spot]) (kZ rfl (a_again rfl rfl .here rfl (by simp [eqV, eqA, eqL, kindEq, intEq_eq, eqV_sl hL.spot]) (kZ rfl (a_again rfl rfl (.next (.next (.next (.next (.next (.next (.next (.next (.app (.next .here)))))))))) rfl (by simp [eqV, eqA, eqL, kindEq, intEq_eq, eqV_sl hL.spot]) (kO rfl (a_ia (j := u1) rfl rfl (by omega) (by omega) (kZ rfl (a_sta rfl rfl (.next (.next (.next (.next (.next (.next (.next (.next (.app (.next (.next (.next .here)))))))))))) (cam_over (p := (_, _, _, _)) (by omega)) (by rw [Nat.ble_eq, cvs_len]; omega) rfl rfl (kZ rfl (a_again rfl rfl .here rfl (by simp [eqV, eqA, eqL, kindEq, intEq_eq, eqV_sl hL.spot]) (kZ rfl (a_st rfl rfl (.next (.next (.next (.next (.next (.next (.next (.next (.app .here))))))))) rfl rfl (i_nil ?_))))))))))))))))))))))))))))))))))))))))))
        refine block_n (⟨_, (.next (.next (.next .here))), (kO rfl (a_not rfl (i_nil (r_cond_f rfl (r_skip (block_n (then_n (rI (kO rfl (a_add rfl rfl (by omega) (kM rfl rfl (i_nil (then_n ?_)))))))))))))⟩)
        exact ⟨rfl, _, _, _, (show (nl ls ls.length v).length - (q + 1) < (nl ls ls.length v).length - q by omega), (lc 0 rfl (lc 1 rfl (lc 2 rfl (lc 14 rfl (lc 15 rfl (lc 16 rfl Less.nil)))))), (.cons _ (.cons _ (.cons _ (.cons_cons _ (.cons_cons _ (.cons_cons _ (.cons_cons _ (.cons_cons _ (List.Sublist.append (List.Sublist.refl _) (.cons_cons _ (.cons_cons _ (.cons_cons _ (.cons_cons _ (.cons_cons _ (List.Sublist.append (List.Sublist.refl _) (.cons_cons _ (.cons_cons _ (.cons_cons _ (.cons_cons _ .slnil))))))))))))))))))), ⟨q + 1, rfl, (by first | (rw [rws_back hi0 hb9]; done) | (rw [rws_less hi0 hx hnb9 hls9]; done) | (rw [rws_less hi0 hx hnb9 hls9]; rfl) | (rw [rws_more hi0 hx hgr9]; done)), rfl, by omega⟩⟩
       ·have hgr9 := h27
        refine i_nil (r_cond_f rfl (r_skip (block_n (⟨_, (.next (.next (.next .here))), (kO rfl (a_not rfl (i_nil (r_cond_f rfl (r_skip (block_n (then_n (rI (kO rfl (a_add rfl rfl (by omega) (kM rfl rfl (i_nil (then_n ?_)))))))))))))⟩))))
        exact ⟨rfl, _, _, _, (show (nl ls ls.length v).length - (q + 1) < (nl ls ls.length v).length - q by omega), (lc 0 rfl (lc 1 rfl (lc 2 rfl (lc 14 rfl (lc 15 rfl (lc 16 rfl Less.nil)))))), (.cons _ (.cons _ (.cons _ (.cons_cons _ (.cons_cons _ (.cons_cons _ (.cons_cons _ (.cons_cons _ (List.Sublist.append (List.Sublist.refl _) (.cons_cons _ (.cons_cons _ (.cons_cons _ (.cons_cons _ (.cons_cons _ (List.Sublist.append (List.Sublist.refl _) (.cons_cons _ (.cons_cons _ (.cons_cons _ (.cons_cons _ .slnil))))))))))))))))))), ⟨q + 1, rfl, (by first | (rw [rws_back hi0 hb9]; done) | (rw [rws_less hi0 hx hnb9 hls9]; done) | (rw [rws_less hi0 hx hnb9 hls9]; rfl) | (rw [rws_more hi0 hx hgr9]; done)), rfl, by omega⟩⟩
     ·have hql : q = (nl ls ls.length v).length := by omega
      subst hql
      refine i_nil (rQ (r_cond_f rfl (r_exit (then_e (then_e (block_hit (endD0n .nil (.inl ⟨_, .here, (block_n (block_n (then_n (rI (kO rfl (a_add rfl rfl (by omega) (kM rfl rfl (i_nil (then_n ?_)))))))))⟩))))))))
      exact ⟨_, _, _, (show M + 1 - (v + 1) < M + 1 - v by omega), (lc 0 rfl (lc 4 rfl (lc 5 rfl (lc 7 rfl (lc 16 rfl (lc 17 rfl Less.nil)))))), (.cons_cons _ (.cons _ (.cons _ (.cons _ (List.Sublist.append (List.Sublist.refl _) (.cons_cons _ (.cons_cons _ (.cons_cons _ (.cons_cons _ (.cons_cons _ (List.Sublist.append (List.Sublist.refl _) (.cons_cons _ (.cons_cons _ (.cons_cons _ (.cons_cons _ .slnil))))))))))))))), ⟨v + 1, q17 :: qs, rfl, rfl, (by rw [lws_go (by assumption)]; rfl), rfl, by omega⟩⟩
   ·have hvN : v = M + 1 := by omega
    subst hvN
    refine i_nil (rQ (r_cond_f rfl (r_exit (then_e (then_e (block_hit (then_n (rS (kO rfl (a_ld rfl (.app .here) rfl (kM rfl rfl (i_nil (r_ret (endD1 rfl deld_map (kM rfl rfl (i_nil (rS (kM rfl rfl (kO rfl (a_eql rfl rfl (fun h28 => ?_) (fun h28 => ?_)))))))))))))))))))))
    ·refine i_nil (r_cond_t rfl (rS (kM rfl rfl (kM rfl rfl (kO rfl (a_ia (j := 0) rfl rfl (by omega) (by omega) (kO rfl (a_ldX (x := ((stl ls (M + 1) (r + 1)).x) (0)) rfl (.next (.next (.next (.next .here)))) (by rw [xs_len]; omega) (xs_get (by omega)) ?_))))))))
     have hb0 := hSB.xb (r + 1) 0 (by omega) (by omega)
     refine kO rfl (a_neg rfl (by omega) (kO rfl (a_call rfl rfl (fun s1 h1 => moved_n _ _ _ _ (xs (stl ls (M + 1) (r + 1)).x (M + 1)) _ s1 h1.wf (by omega) xs_len.symm (IntsE.own (h1.own (.next (.next (.next (.next .here))))) (fun z hz => by obtain ⟨k, hk, rfl⟩ := List.mem_map.1 hz; have := hSB.xb (r + 1) k (by omega) (List.mem_range.1 hk); omega) (by rw [xs_len]; omega)) (by omega) (fun i hi => by rw [xs_len] at hi; rw [xs_get hi]; have := hSB.xb (r + 1) i (by omega) hi; omega) (by rw [xs_len]; omega)) (fun v1 A1 q1 => ?_))))
     obtain ⟨bm29, wm, rfl, rfl, hmv⟩ := q1
     refine kM rfl rfl (kM rfl rfl (i_nil (r_ret (block_r (then_r (then_r (block_r (then_r (endD2 rfl rfl .nil (kM rfl rfl (kO rfl (a_ext rfl rfl (kO rfl (a_ext rfl rfl (kM rfl rfl (kM rfl rfl (i_nil (rS (kM rfl rfl (kM rfl rfl (kM rfl rfl (i_nil (r_ret ?_)))))))))))))))))))))))
     exact end2 rfl rfl (.inr (.inl ⟨hsys, (fun q => q r (by omega) (by assumption)), rfl, rfl⟩))
    ·refine i_nil (r_cond_f rfl (r_skip (block_n (then_n (rI (kO rfl (a_add rfl rfl (by omega) (kM rfl rfl (i_nil (then_n ?_))))))))))
     exact ⟨rfl, _, _, _, (show M + 1 - (r + 1) < M + 1 - r by omega), (lc 0 rfl (lc 4 rfl (lc 5 rfl (lc 6 rfl (lc 26 rfl (lc 27 rfl Less.nil)))))), (.cons _ (.cons _ (.cons _ (.cons_cons _ (.cons_cons _ (List.Sublist.append (List.Sublist.refl _) (.cons_cons _ (.cons_cons _ (.cons_cons _ (.cons_cons _ .slnil)))))))))), ⟨r + 1, rfl, rfl, rfl, by omega, (fun k hk => by by_cases e : k = r; exact e ▸ (by assumption); exact hne k (by omega))⟩⟩
  ·have hrN : r = M + 1 := by omega
   subst hrN
   have hne2 := hne
   obtain ⟨l0, hl0, hle⟩ : ∃ u : Nat, u < M + 1 ∧ (stl ls (M + 1) (M + 1)).l = (u : Int) := (hSB.last M (by omega)).resolve_left (hne M (by omega))
   rw [hle]
   obtain ⟨p, hp1, hp2, hp3⟩ := itr_back hSB.par hl0
   have hat9 := itr_lt hSB.par hl0 (M + 1)
   refine i_nil (rQ (r_cond_f rfl (r_exit (then_e (then_e (block_hit (then_n (rS (kM rfl rfl (kM rfl rfl (kG rfl rfl (a_inl rfl rfl bw67_at rfl ?_))))))))))))
   unfold bw67
   refine rS (kM rfl rfl (i_nil (rQ (rS (kM rfl rfl (kO rfl (a_len rfl (kM rfl rfl (i_nil (r_block ?_))))))))))
   refine r_loop (fun j e A => ∃ (m : Nat), e = [(0, .slice (some ⟨b7, 0, none⟩) (M + 1) (M + 1)), (1, .int .i64 ((itr (stl ls (M + 1) (M + 1)).c l0 m : Nat) : Int)), (8, .int .i64 ((M + 1 : Nat) : Int)), (9, .int .i64 (m : Int))] ∧ A = (.row b7 93 false (cvs (stl ls (M + 1) (M + 1)).c (M + 1)) :: (.row b6 3 false (ints (xs (stl ls (M + 1) (M + 1)).x (M + 1))) :: (nobj B (nl ls ls.length) O ++ (.row bf3 64 false ([.int .i64 (M : Int), .slice al ls.length cl, .slice (some ⟨bt4, 0, none⟩) ls.length ls.length, .slice (some ⟨bn5, 0, none⟩) (M + 1) (M + 1)]) :: (.row bn5 25 false (nsl B (nl ls ls.length) (M + 1)) :: (.row bt4 3 false (ints (List.replicate ls.length 0)) :: (.row b1 24 false ([.int .i64 (M : Int), .slice al ls.length cl]) :: []))))))) ∧ j = M + 1 - m ∧ m ≤ M + 1) 300 0 281474976710656 ?_ (j := _) (env2 := _) (A2 := _) ?_ ?_ ?_ ?_ ⟨0, rfl, rfl, rfl, Nat.zero_le _⟩
   rotate_left
   ·omega
   ·omega
   ·exact (lc 0 rfl (lc 1 rfl (lc 8 rfl (lc 9 rfl Less.nil))))
   ·exact (.cons_cons _ (.cons_cons _ (List.Sublist.append (List.Sublist.refl _) (.cons_cons _ (.cons_cons _ (.cons_cons _ (.cons_cons _ .slnil)))))))
   rintro n hn j _ _ ⟨m, rfl, rfl, rfl, hm⟩
   have hit := itr_lt hSB.par hl0 m
   refine rS (kO rfl (a_lss rfl rfl (fun h30 => ?_) (fun h30 => ?_)))
   ·refine i_nil (rQ (r_cond_t rfl (r_skip (then_n (rQ (r_block (rI (kM rfl rfl (kM rfl rfl (kO rfl (a_ia (j := (itr (stl ls (M + 1) (M + 1)).c l0 m)) rfl rfl (by omega) (by omega) (kO rfl (a_fa rfl (kO rfl (a_ld rfl .here (cvs_from (by omega)) (kM rfl rfl (i_nil (block_n (then_n (rI (kO rfl (a_add rfl rfl (by omega) (kM rfl rfl (i_nil (then_n ?_)))))))))))))))))))))))))
    exact ⟨rfl, _, _, _, (show M + 1 - (m + 1) < M + 1 - m by omega), (lc 0 rfl (lc 1 rfl (lc 8 rfl (lc 9 rfl Less.nil)))), (.cons_cons _ (.cons_cons _ (List.Sublist.append (List.Sublist.refl _) (.cons_cons _ (.cons_cons _ (.cons_cons _ (.cons_cons _ .slnil))))))), ⟨m + 1, rfl, rfl, rfl, by omega⟩⟩
   ·have hmN : m = M + 1 := by omega
    subst hmN
    refine i_nil (rQ (r_cond_f rfl (r_exit (then_e (then_e (block_hit (then_n (rS (kM rfl rfl (kM rfl rfl (kO rfl (a_ia (j := (itr (stl ls (M + 1) (M + 1)).c l0 (M + 1))) rfl rfl (by omega) (by omega) (kO rfl (a_fa rfl (kO rfl (a_ld rfl .here (cvs_lim (by omega)) (kO rfl (a_lit rfl rfl rfl (fun b31 => (kM rfl rfl (i_nil (rQ (rS (kM rfl rfl (kM rfl rfl (kO rfl (a_ia (j := (itr (stl ls (M + 1) (M + 1)).c l0 (M + 1))) rfl rfl (by omega) (by omega) (kO rfl (a_fa rfl (kO rfl (a_ld rfl (.next .here) (cvs_from (by omega)) ?_)))))))))))))))))))))))))))))))
    refine kM rfl rfl (i_nil (r_block ?_))
    refine r_loop (fun j e A => ∃ (m b cp : Nat) (op : Bool), e = [(0, .slice (some ⟨b7, 0, none⟩) (M + 1) (M + 1)), (1, .int .i64 (((itr (stl ls (M + 1) (M + 1)).c l0 (M + 1)) : Nat) : Int)), (5, .slice (some ⟨b, 0, none⟩) (m + 1) cp), (6, .int .i64 ((itr (stl ls (M + 1) (M + 1)).c (itr (stl ls (M + 1) (M + 1)).c l0 (M + 1)) (m + 1) : Nat) : Int))] ∧ A = (.row b 3 op (ints (cyl (stl ls (M + 1) (M + 1)).c (itr (stl ls (M + 1) (M + 1)).c l0 (M + 1)) m)) :: (.row b7 93 false (cvs (stl ls (M + 1) (M + 1)).c (M + 1)) :: (.row b6 3 false (ints (xs (stl ls (M + 1) (M + 1)).x (M + 1))) :: (nobj B (nl ls ls.length) O ++ (.row bf3 64 false ([.int .i64 (M : Int), .slice al ls.length cl, .slice (some ⟨bt4, 0, none⟩) ls.length ls.length, .slice (some ⟨bn5, 0, none⟩) (M + 1) (M + 1)]) :: (.row bn5 25 false (nsl B (nl ls ls.length) (M + 1)) :: (.row bt4 3 false (ints (List.replicate ls.length 0)) :: (.row b1 24 false ([.int .i64 (M : Int), .slice al ls.length cl]) :: [])))))))) ∧ j = p - m ∧ m + 1 ≤ p ∧ FT op cp m) 400 0 281474976710656 ?_ (j := _) (env2 := _) (A2 := _) ?_ ?_ ?_ ?_ ⟨0, b31, 1, false, rfl, rfl, rfl, (by omega), (.inr ⟨rfl, rfl, rfl⟩)⟩
    rotate_left
    ·omega
    ·omega
    ·exact (lc 0 rfl (lc 1 rfl (lc 5 rfl (lc 6 rfl Less.nil))))
    ·exact (.cons_cons _ (.cons_cons _ (.cons_cons _ (List.Sublist.append (List.Sublist.refl _) (.cons_cons _ (.cons_cons _ (.cons_cons _ (.cons_cons _ .slnil))))))))
    rintro n hn j _ _ ⟨m, b, cp, op, rfl, rfl, rfl, hm, hT⟩
    have hit := itr_lt hSB.par hat9 (m + 1)
    refine rQ (rS (kM rfl rfl (kM rfl rfl (kO rfl (a_neq rfl rfl (fun h32 => ?_) (fun h32 => ?_))))))
    ·have hmp : ¬ m + 1 = p := fun e => by (have e2 : itr (stl ls (M + 1) (M + 1)).c (itr (stl ls (M + 1) (M + 1)).c l0 (M + 1)) (m + 1) = (itr (stl ls (M + 1) (M + 1)).c l0 (M + 1)) := by rw [e]; exact hp3); omega
     refine i_nil (r_cond_t rfl (r_skip (then_n (rQ (r_block (rI (kM rfl rfl (kM rfl rfl (kM rfl rfl (kO rfl (a_ia (j := (itr (stl ls (M + 1) (M + 1)).c (itr (stl ls (M + 1) (M + 1)).c l0 (M + 1)) (m + 1))) rfl rfl (by omega) (by omega) (kO rfl (a_fa rfl (kO rfl (a_ld rfl (.next .here) (cvs_lim (by omega)) (kO rfl (a_lit rfl rfl rfl (fun b33 => (kO rfl (a_app rfl rfl (Src.own .here rfl (by simp)) (.next .here) (by rw [ints_len, cyl_len, Nat.mul_one]) (tight_of hT) (by decide) (by omega) (by omega) (fun b34 => (kM rfl rfl (i_nil (block_n (then_n (rI (kM rfl rfl (kM rfl rfl (kO rfl (a_ia (j := (itr (stl ls (M + 1) (M + 1)).c (itr (stl ls (M + 1) (M + 1)).c l0 (M + 1)) (m + 1))) rfl rfl (by omega) (by omega) (kO rfl (a_fa rfl ?_))))))))))))))))))))))))))))))))
     refine kO rfl (a_ld rfl (.next (.next .here)) (cvs_from (by omega)) (kM rfl rfl (i_nil (then_n ?_))))
     exact ⟨rfl, _, _, _, (show p - (m + 1) < p - m by omega), (lc 0 rfl (lc 1 rfl (lc 5 rfl (lc 6 rfl Less.nil)))), (.cons_cons _ (.cons _ (.cons_cons _ (.cons_cons _ (List.Sublist.append (List.Sublist.refl _) (.cons_cons _ (.cons_cons _ (.cons_cons _ (.cons_cons _ .slnil))))))))), ⟨m + 1, b34, _, _, rfl, (by rw [show cyl (stl ls (M + 1) (M + 1)).c (itr (stl ls (M + 1) (M + 1)).c l0 (M + 1)) (m + 1) = cyl (stl ls (M + 1) (M + 1)).c (itr (stl ls (M + 1) (M + 1)).c l0 (M + 1)) m ++ [_] from rfl, snoc1]; first | done | rfl), rfl, by omega, (.inl ⟨rfl, rfl⟩)⟩⟩
    ·refine i_nil (r_cond_f rfl (r_exit (then_e (then_e (block_hit (then_n (rS (kM rfl rfl (kG rfl rfl (a_inl rfl rfl bw84_at rfl ?_))))))))))
     unfold bw84
     refine rS (kM rfl rfl (kO rfl (a_len rfl (kO rfl (a_sub rfl rfl (by omega) (kM rfl rfl (kM rfl rfl (i_nil (r_block ?_)))))))))
     refine r_loop (fun j e A => ∃ (i : Nat) (z : Int) (w2 : List Int), e = [(0, .slice (some ⟨b, 0, none⟩) (m + 1) cp), (2, .int .i64 (i : Int)), (3, .int .i64 z)] ∧ A = (.row b 3 op (ints w2) :: (.row b7 93 false (cvs (stl ls (M + 1) (M + 1)).c (M + 1)) :: (.row b6 3 false (ints (xs (stl ls (M + 1) (M + 1)).x (M + 1))) :: (nobj B (nl ls ls.length) O ++ (.row bf3 64 false ([.int .i64 (M : Int), .slice al ls.length cl, .slice (some ⟨bt4, 0, none⟩) ls.length ls.length, .slice (some ⟨bn5, 0, none⟩) (M + 1) (M + 1)]) :: (.row bn5 25 false (nsl B (nl ls ls.length) (M + 1)) :: (.row bt4 3 false (ints (List.replicate ls.length 0)) :: (.row b1 24 false ([.int .i64 (M : Int), .slice al ls.length cl]) :: [])))))))) ∧ j = m + 1 - i ∧ i ≤ m + 1 ∧ z = (m : Int) - (i : Int) ∧ Rv (cyl (stl ls (M + 1) (M + 1)).c (itr (stl ls (M + 1) (M + 1)).c l0 (M + 1)) m) w2 m i) 200 0 281474976710656 ?_ (j := _) (env2 := _) (A2 := _) ?_ ?_ ?_ ?_ ⟨0, ((m + 1 : Nat) : Int) - 1, cyl (stl ls (M + 1) (M + 1)).c (itr (stl ls (M + 1) (M + 1)).c l0 (M + 1)) m, rfl, rfl, rfl, Nat.zero_le _, (by omega), (.zero cyl_len)⟩
     rotate_left
     ·omega
     ·omega
     ·exact (lc 0 rfl (lc 2 rfl (lc 3 rfl Less.nil)))
     ·exact (.cons_cons _ (.cons_cons _ (.cons_cons _ (List.Sublist.append (List.Sublist.refl _) (.cons_cons _ (.cons_cons _ (.cons_cons _ (.cons_cons _ .slnil))))))))
     rintro n hn j _ _ ⟨i, z, w2, rfl, rfl, rfl, hi, hz, hrv⟩
     have hw2 := hrv.1
     refine rQ (rS (kM rfl rfl (kM rfl rfl (kO rfl (a_lss rfl rfl (fun h35 => ?_) (fun h35 => ?_))))))
     ·refine i_nil (r_cond_t rfl (r_skip (then_n (rQ (r_block (rI (kM rfl rfl (kM rfl rfl (kM rfl rfl (kM rfl rfl (kM rfl rfl (kM rfl rfl (kO rfl (a_ia (j := (m - i)) rfl rfl (by omega) (by omega) (kO rfl (a_ldI rfl .here (by first | omega | (simp; done) | (simp; omega)) (kM rfl rfl (kM rfl rfl (kO rfl (a_ia (j := i) rfl rfl (by omega) (by omega) (kO rfl (a_ldI rfl .here (by first | omega | (simp; done) | (simp; omega)) (kO rfl (a_ia (j := i) rfl rfl (by omega) (by omega) (kZ rfl (a_stI rfl rfl .here (by first | omega | (simp; done) | (simp [wlen]; omega) | (simp; omega)) (kO rfl (a_ia (j := (m - i)) rfl rfl (by omega) (by omega) (kZ rfl (a_stI rfl rfl .here (by first | omega | (simp; done) | (simp [wlen]; omega) | (simp; omega)) (i_nil ?_)))))))))))))))))))))))))))))))
      refine block_n (then_n (rI (kM rfl rfl (kO rfl (a_add rfl rfl (by omega) (kM rfl rfl (kO rfl (a_sub rfl rfl (by omega) (kM rfl rfl (kM rfl rfl (i_nil (then_n ?_))))))))))))
      exact ⟨rfl, _, _, _, (show m + 1 - (i + 1) < m + 1 - i by omega), (lc 0 rfl (lc 2 rfl (lc 3 rfl Less.nil))), (.cons_cons _ (.cons_cons _ (.cons_cons _ (List.Sublist.append (List.Sublist.refl _) (.cons_cons _ (.cons_cons _ (.cons_cons _ (.cons_cons _ .slnil)))))))), ⟨i + 1, z - 1, _, rfl, rfl, rfl, by omega, (by omega), (hrv.step (by omega))⟩⟩
     ·refine i_nil (r_cond_f rfl (r_exit (then_e (then_e (block_hit (endD0n .nil (i_nil (rS (kM rfl rfl (kM rfl rfl (i_nil (r_ret (endD1 rfl .nil (kM rfl rfl (kM rfl rfl (i_nil (r_ret (endD2 rfl rfl .nil (kM rfl rfl (kO rfl (a_ext rfl rfl (kO rfl (a_ext rfl rfl (kM rfl rfl (kM rfl rfl ?_)))))))))))))))))))))))))
      refine i_nil (rS (kM rfl rfl (kM rfl rfl (kM rfl rfl (i_nil (r_ret ?_))))))
      exact end2A rfl rfl (.cons_cons _ (.cons _ (.cons _ (List.sublist_append_of_sublist_right (.cons _ (.cons _ (.cons _ (.cons _ .slnil)))))))) (.inr (.inr ⟨hsys, hne2, _, m, cp, op, w2, l0, rfl, rfl, hrv.1, (show m + 1 ≤ M + 1 by omega), hl0, hle, (show itr (stl ls (M + 1) (M + 1)).c (itr (stl ls (M + 1) (M + 1)).c l0 (M + 1)) (m + 1) = (itr (stl ls (M + 1) (M + 1)).c l0 (M + 1)) by omega), (hrv.done (by omega)).2⟩))

end
end Ev
end Go.Proofs.YtcpebhdbpkhhiaaGreat

/- How great the numbers of settle are. -/
namespace Go.Proofs.YtcpebhdbpkhhiaaGreat
open Go Go.RowKit
namespace Ev
theorem lm_row {m : Int} {ls : List (List Int)} {k : Nat} (h : lmB m ls = true) (hk : k < ls.length) : ∃ (u0 u1 : Nat) (y2 y3 : Int), ls[k]? = some [(u0 : Int), (u1 : Int), y2, y3] ∧ ((u0 : Int) ≤ m ∧ (u1 : Int) ≤ m ∧ ¬ u0 = u1 ∧ -20000 ≤ y2 ∧ y2 ≤ 20000) := by
  have key : ∀ (ls : List (List Int)) (k : Nat), lmB m ls = true → k < ls.length → ∃ y0 y1 y2 y3, ls[k]? = some [y0, y1, y2, y3] := by
    intro ls
    induction ls with
    | nil => intro k _ hk; exact absurd hk (Nat.not_lt_zero k)
    | cons r ls ih =>
      intro k h hk
      unfold lmB at h
      split at h
      · rename_i h2; cases h2
      · rename_i h2
        cases h2
        rw [Bool.and_eq_true] at h
        cases k with
        | zero => exact ⟨_, _, _, _, rfl⟩
        | succ k => exact ih k h.2 (by simpa using hk)
      · cases h
  obtain ⟨y0, y1, y2, y3, e⟩ := key ls k h hk
  have hc := lmB_at h e
  obtain ⟨u0, rfl⟩ : ∃ q : Nat, y0 = (q : Int) := ⟨y0.toNat, by omega⟩
  obtain ⟨u1, rfl⟩ : ∃ q : Nat, y1 = (q : Int) := ⟨y1.toNat, by omega⟩
  exact ⟨u0, u1, y2, y3, e, by omega⟩

/-- Numbers within bounds, steps from unknowns, the last one an unknown or none. -/
structure Iv (N : Nat) (b : Int) (s : Fs) : Prop where
  bd : ∀ a, a < N → -b ≤ s.x a ∧ s.x a ≤ 0
  par : ∀ a, a < N → (s.c a).2.1 < N
  last : s.l = -1 ∨ ∃ u : Nat, u < N ∧ s.l = (u : Int)
theorem Iv.mono {N : Nat} {b b' : Int} {s : Fs} (h : Iv N b s) (hb : b ≤ b') : Iv N b' s := ⟨fun a ha => by have := h.bd a ha; omega, h.par, h.last⟩
theorem Iv.rlx {ls : List (List Int)} {M f i : Nat} {b : Int} {s : Fs} (hl : lmB (M : Int) ls = true) (hi : i < ls.length) (hf : f < M + 1) (h : Iv (M + 1) b s) : Iv (M + 1) (b + 20000) (rlx ls s f i) := by
  obtain ⟨u0, u1, y2, y3, e, hc⟩ := lm_row hl hi
  have e2 : ls.getD i [] = [(u0 : Int), (u1 : Int), y2, y3] := by rw [List.getD_eq_getElem?_getD, e]; rfl
  unfold Ev.rlx
  rw [e2]
  show Iv (M + 1) (b + 20000) (if (u1 : Int) = (f : Int) then s else if s.x f + y2 < s.x (u1 : Int).toNat then ⟨updX s.x (u1 : Int).toNat (s.x f + y2), updX s.c (u1 : Int).toNat (i, f, (u1 : Int).toNat, y2), (u1 : Int)⟩ else s)
  rw [Int.toNat_natCast]
  split
  · exact h.mono (by omega)
  · split
    · rename_i h1 h2
      have hb := h.bd f hf
      have hb2 := h.bd u1 (by omega)
      refine ⟨fun a ha => ?_, fun a ha => ?_, .inr ⟨u1, by omega, rfl⟩⟩
      · show -(b + 20000) ≤ updX s.x u1 (s.x f + y2) a ∧ updX s.x u1 (s.x f + y2) a ≤ 0
        have := h.bd a ha
        unfold updX
        by_cases q : a = u1
        · rw [if_pos q]; omega
        · rw [if_neg q]; omega
      · show (updX s.c u1 (i, f, u1, y2) a).2.1 < M + 1
        unfold updX
        by_cases q : a = u1
        · rw [if_pos q]; exact hf
        · rw [if_neg q]; exact h.par a ha
    · exact h.mono (by omega)
theorem Iv.rws {ls : List (List Int)} {M f : Nat} {b : Int} {s : Fs} (hl : lmB (M : Int) ls = true) (hf : f < M + 1) (h : Iv (M + 1) b s) : ∀ {q : Nat}, q ≤ (nl ls ls.length f).length → Iv (M + 1) (b + 20000 * (q : Int)) (rwS ls s f q)
  | 0, _ => h.mono (by omega)
  | q + 1, hq => by
    obtain ⟨i, h1, h2, _⟩ := nl_mem (ls := ls) (v := f) (k := ls.length) (q := q) (by omega)
    have := Iv.rlx (i := i) hl h2 hf (Iv.rws hl hf h (q := q) (by omega))
    show Iv (M + 1) _ (Ev.rlx ls (rwS ls s f q) f ((nl ls ls.length f).getD q 0).toNat)
    rw [h1, Int.toNat_natCast]
    exact this.mono (by omega)
theorem Iv.lws {ls : List (List Int)} {M : Nat} {b : Int} {s : Fs} (hl : lmB (M : Int) ls = true) (h4 : ls.length ≤ 400) (h : Iv (M + 1) b s) : ∀ {v : Nat}, v ≤ M + 1 → Iv (M + 1) (b + 8000000 * (v : Int)) (lwS ls s v)
  | 0, _ => h.mono (by omega)
  | v + 1, hv => by
    have ih := Iv.lws hl h4 h (v := v) (by omega)
    show Iv (M + 1) _ (if (lwS ls s v).x v = 1000000000 then lwS ls s v else rwS ls (lwS ls s v) v (nl ls ls.length v).length)
    have hn := nl_le (ls := ls) ls.length v
    split
    · exact ih.mono (by omega)
    · exact (Iv.rws hl (by omega) ih (Nat.le_refl _)).mono (by omega)
theorem Iv.st0 {N : Nat} {b : Int} {s : Fs} (h : Iv N b s) : Iv N b (st0 s) := ⟨h.bd, h.par, .inl rfl⟩
theorem Iv.stl {ls : List (List Int)} {M : Nat} (hl : lmB (M : Int) ls = true) (h4 : ls.length ≤ 400) (hM : M ≤ 64) : ∀ {r : Nat}, r ≤ M + 1 → Iv (M + 1) (520000000 * (r : Int)) (stl ls (M + 1) r)
  | 0, _ => ⟨fun a _ => ⟨by show _ ≤ (0 : Int); omega, by show (0 : Int) ≤ 0; omega⟩, fun a _ => Nat.succ_pos M, .inl rfl⟩
  | r + 1, hr => (Iv.lws hl h4 (Iv.st0 (Iv.stl hl h4 hM (r := r) (by omega))) (v := M + 1) (Nat.le_refl _)).mono (by omega)
theorem sb_of {ls : List (List Int)} {M : Nat} (hl : lmB (M : Int) ls = true) (h4 : ls.length ≤ 400) (hM : M ≤ 64) : SB ls (M + 1) := by
  refine ⟨fun r v q a hr hv hq ha => ?_, fun r a hr ha => ?_, fun a ha => (Iv.stl hl h4 hM (Nat.le_refl _)).par a ha, fun r hr => (Iv.stl hl h4 hM (r := r + 1) (by omega)).last⟩
  · have h1 := Iv.st0 (Iv.stl hl h4 hM (r := r) (by omega))
    have h2 := Iv.rws hl hv (Iv.lws hl h4 h1 (v := v) (by omega)) hq
    have h3 := h2.bd a ha
    have hn := nl_le (ls := ls) ls.length v
    omega
  · have h3 := (Iv.stl hl h4 hM (r := r) (by omega)).bd a ha
    omega

section
variable {X : FuncId → List Value → St → (Value → St → Bool) → Bool}

end
end Ev
end Go.Proofs.YtcpebhdbpkhhiaaGreat

/- What a chain of settle adds up to. -/
namespace Go.Proofs.YtcpebhdbpkhhiaaGreat
open Go Go.RowKit
namespace Ev
def la (ls : List (List Int)) (i : Nat) : Nat := ((ls.getD i []).getD 0 0).toNat
def lb (ls : List (List Int)) (i : Nat) : Nat := ((ls.getD i []).getD 1 0).toNat
def lw (ls : List (List Int)) (i : Nat) : Int := (ls.getD i []).getD 2 0
structure Lim (ls : List (List Int)) (M i : Nat) : Prop where
  row : ∃ y3, ls[i]? = some [((la ls i : Nat) : Int), ((lb ls i : Nat) : Int), lw ls i, y3]
  ha : la ls i < M + 1
  hb : lb ls i < M + 1
  ne : la ls i ≠ lb ls i
  eb : (ls.getD i []).getD 1 0 = ((lb ls i : Nat) : Int)
  ea : (ls.getD i []).getD 0 0 = ((la ls i : Nat) : Int)
theorem lim_of {ls : List (List Int)} {M i : Nat} (hl : lmB (M : Int) ls = true) (hi : i < ls.length) : Lim ls M i := by
  obtain ⟨u0, u1, y2, y3, e, hc⟩ := lm_row hl hi
  have e2 : ls.getD i [] = [(u0 : Int), (u1 : Int), y2, y3] := by rw [List.getD_eq_getElem?_getD, e]; rfl
  have h0 : la ls i = u0 := by unfold la; rw [e2]; exact Int.toNat_natCast u0
  have h1 : lb ls i = u1 := by unfold lb; rw [e2]; exact Int.toNat_natCast u1
  have h2 : lw ls i = y2 := by unfold lw; rw [e2]; rfl
  exact ⟨⟨y3, by rw [h0, h1, h2]; exact e⟩, by rw [h0]; omega, by rw [h1]; omega, by rw [h0, h1]; exact hc.2.2.1, by rw [h1, e2]; rfl, by rw [h0, e2]; rfl⟩
theorem rlx_eq {ls : List (List Int)} {M i f : Nat} {s : Fs} (h : Lim ls M i) : rlx ls s f i = if lb ls i = f then s else if s.x f + lw ls i < s.x (lb ls i) then ⟨updX s.x (lb ls i) (s.x f + lw ls i), updX s.c (lb ls i) (i, f, lb ls i, lw ls i), ((lb ls i : Nat) : Int)⟩ else s := by
  unfold rlx
  rw [h.eb]
  by_cases q : lb ls i = f
  · rw [if_pos q, if_pos (by rw [q])]
  · rw [if_neg q, if_neg (by omega), Int.toNat_natCast]; rfl
theorem nl_has {ls : List (List Int)} {v i : Nat} (h : nam (ls.getD i []) v) : ∀ {k : Nat}, i < k → ∃ q, q < (nl ls k v).length ∧ (nl ls k v).getD q 0 = (i : Int)
  | k + 1, hk => by
    have e : nl ls (k + 1) v = nl ls k v ++ (if nam (ls.getD k []) v then [(k : Int)] else []) := rfl
    rw [e]
    by_cases q : i = k
    · subst q
      rw [if_pos h]
      refine ⟨(nl ls i v).length, by simp, ?_⟩
      rw [List.getD_eq_getElem?_getD, List.getElem?_append_right (Nat.le_refl _)]; simp
    · obtain ⟨p, h1, h2⟩ := nl_has h (k := k) (by omega)
      refine ⟨p, by rw [List.length_append]; omega, ?_⟩
      rw [List.getD_eq_getElem?_getD] at h2 ⊢
      rw [List.getElem?_append_left h1]; exact h2
/-- No step from an unknown lowers a number. -/
def Cl (ls : List (List Int)) (x : Nat → Int) (f : Nat) : Prop := ∀ i, i < ls.length → la ls i = f → x (lb ls i) ≤ x f + lw ls i
/-- The step that came to an unknown. -/
def Pq (ls : List (List Int)) (x : Nat → Int) (t rd : Nat → Nat) (p : Nat × Nat × Nat × Int) (b : Nat) : Prop := p.1 < ls.length ∧ la ls p.1 = p.2.1 ∧ lb ls p.1 = b ∧ x p.2.1 + lw ls p.1 ≤ x b ∧ (x p.2.1 + lw ls p.1 = x b → t p.2.1 < t b) ∧ rd b ≤ rd p.2.1 + 1
/-- When and in which round numbers were lowered. -/
structure Gh (ls : List (List Int)) (N k : Nat) (s : Fs) (rd t : Nat → Nat) (T : Nat) : Prop where
  par : ∀ b, b < N → 0 < rd b → Pq ls s.x t rd (s.c b) b
  tT : ∀ a, t a ≤ T
  rk : ∀ a, rd a ≤ k
  cl : ∀ a, a < N → rd a + 2 ≤ k → Cl ls s.x a
  last : s.l = -1 ∨ ∃ u : Nat, u < N ∧ s.l = (u : Int) ∧ rd u = k
  zr : ∀ a, a < N → rd a = 0 → s.x a = 0
/-- The unknowns from which one has gone on in this round. -/
def G2 (ls : List (List Int)) (k v : Nat) (x : Nat → Int) (rd : Nat → Nat) : Prop := ∀ a, a < v → rd a + 1 ≤ k → Cl ls x a
/-- The steps of the unknown from which one goes on. -/
def G3 (ls : List (List Int)) (v q : Nat) (x : Nat → Int) : Prop := ∀ p, p < q → ∀ i : Nat, (nl ls ls.length v).getD p 0 = (i : Int) → lb ls i ≠ v → x (lb ls i) ≤ x v + lw ls i
theorem updX_ne {α : Type} {x : Nat → α} {b : Nat} {z : α} {a : Nat} (h : a ≠ b) : updX x b z a = x a := if_neg h
theorem updX_eq {α : Type} {x : Nat → α} {b : Nat} {z : α} : updX x b z b = z := if_pos rfl
theorem low_cl {ls : List (List Int)} {x : Nat → Int} {b f : Nat} {z : Int} (h : Cl ls x f) (hz : z ≤ x b) (hf : f ≠ b) : Cl ls (updX x b z) f := by
  intro i hi ha
  have := h i hi ha
  rw [updX_ne hf]
  by_cases q : lb ls i = b
  · rw [q, updX_eq]; rw [q] at this; omega
  · rw [updX_ne q]; exact this
theorem Gh.step {ls : List (List Int)} {M k v q i : Nat} {s : Fs} {rd t : Nat → Nat} {T : Nat} (hl : lmB (M : Int) ls = true) (hk : 0 < k) (hv : v < M + 1) (hi : (nl ls ls.length v).getD q 0 = (i : Int)) (hil : i < ls.length) (hn : nam (ls.getD i []) v)
    (h : Gh ls (M + 1) k s rd t T) (h2 : G2 ls k v s.x rd) (h3 : G3 ls v q s.x) : ∃ rd' t' T', Gh ls (M + 1) k (rlx ls s v i) rd' t' T' ∧ G2 ls k v (rlx ls s v i).x rd' ∧ G3 ls v (q + 1) (rlx ls s v i).x := by
  have hL := lim_of hl hil
  rw [rlx_eq hL]
  have same : (lb ls i = v ∨ s.x (lb ls i) ≤ s.x v + lw ls i) → G3 ls v (q + 1) s.x := fun hh p hp i' hi' hne => by
    by_cases e : p = q
    · subst e
      have : i' = i := by rw [hi] at hi'; omega
      subst this
      rcases hh with hh | hh
      · exact absurd hh hne
      · exact hh
    · exact h3 p (by omega) i' hi' hne
  by_cases c1 : lb ls i = v
  · rw [if_pos c1]; exact ⟨rd, t, T, h, h2, same (.inl c1)⟩
  · rw [if_neg c1]
    by_cases c2 : s.x v + lw ls i < s.x (lb ls i)
    · rw [if_pos c2]
      have hav : la ls i = v := by
        rcases hn with hn | hn
        · rw [hL.ea] at hn; omega
        · rw [hL.eb] at hn; omega
      have hrv : k ≤ rd v + 1 := by
        rcases Nat.lt_or_ge (rd v + 1) k with e | e
        · have := h.cl v hv (by omega) i hil hav; omega
        · exact e
      have hb := hL.hb
      have hle : s.x v + lw ls i ≤ s.x (lb ls i) := by omega
      refine ⟨updX rd (lb ls i) k, updX t (lb ls i) (T + 1), T + 1, ⟨fun b hb' hr => ?_, fun a => ?_, fun a => ?_, fun a ha hr => ?_, .inr ⟨lb ls i, hb, rfl, updX_eq⟩, fun a ha hr => ?_⟩, fun a ha hr => ?_, fun p hp i' hi' hne => ?_⟩
      · show Pq ls (updX s.x (lb ls i) (s.x v + lw ls i)) (updX t (lb ls i) (T + 1)) (updX rd (lb ls i) k) (updX s.c (lb ls i) (i, v, lb ls i, lw ls i) b) b
        by_cases e : b = lb ls i
        · subst e
          rw [updX_eq (x := s.c)]
          show i < ls.length ∧ la ls i = v ∧ lb ls i = lb ls i ∧ updX s.x (lb ls i) (s.x v + lw ls i) v + lw ls i ≤ updX s.x (lb ls i) (s.x v + lw ls i) (lb ls i) ∧ (updX s.x (lb ls i) (s.x v + lw ls i) v + lw ls i = updX s.x (lb ls i) (s.x v + lw ls i) (lb ls i) → updX t (lb ls i) (T + 1) v < updX t (lb ls i) (T + 1) (lb ls i)) ∧ updX rd (lb ls i) k (lb ls i) ≤ updX rd (lb ls i) k v + 1
          rw [updX_ne (x := s.x) (fun e => c1 e.symm), updX_eq (x := s.x), updX_ne (x := t) (fun e => c1 e.symm), updX_eq (x := t), updX_eq (x := rd), updX_ne (x := rd) (fun e => c1 e.symm)]
          exact ⟨hil, hav, rfl, Int.le_refl _, fun _ => by have := h.tT v; omega, hrv⟩
        · rw [updX_ne (x := rd) e] at hr
          obtain ⟨p1, p2, p3, p4, p5, p6⟩ := h.par b hb' hr
          rw [updX_ne (x := s.c) e]
          unfold Pq
          rw [updX_ne (x := s.x) e, updX_ne (x := t) e, updX_ne (x := rd) e]
          by_cases e2 : (s.c b).2.1 = lb ls i
          · refine ⟨p1, p2, p3, ?_⟩
            rw [e2] at p4 p5 p6 ⊢
            rw [updX_eq, updX_eq, updX_eq]
            have := h.rk b
            exact ⟨by omega, fun q => by omega, by omega⟩
          · rw [updX_ne (x := s.x) e2, updX_ne (x := t) e2, updX_ne (x := rd) e2]
            exact ⟨p1, p2, p3, p4, p5, p6⟩
      · have := h.tT a
        by_cases e : a = lb ls i
        · rw [e, updX_eq]; exact Nat.le_refl _
        · rw [updX_ne e]; omega
      · have := h.rk a
        by_cases e : a = lb ls i
        · rw [e, updX_eq]; exact Nat.le_refl _
        · rw [updX_ne e]; exact this
      · by_cases e : a = lb ls i
        · rw [e, updX_eq] at hr; omega
        · rw [updX_ne e] at hr
          exact low_cl (h.cl a ha hr) hle e
      · show updX s.x (lb ls i) (s.x v + lw ls i) a = 0
        by_cases e : a = lb ls i
        · rw [e, updX_eq] at hr; omega
        · rw [updX_ne e] at hr ⊢
          exact h.zr a ha hr
      · by_cases e : a = lb ls i
        · rw [e, updX_eq] at hr; omega
        · rw [updX_ne e] at hr
          exact low_cl (h2 a ha hr) hle e
      · show updX s.x (lb ls i) (s.x v + lw ls i) (lb ls i') ≤ updX s.x (lb ls i) (s.x v + lw ls i) v + lw ls i'
        rw [updX_ne (fun e => c1 e.symm)]
        by_cases e : p = q
        · subst e
          have : i' = i := by rw [hi] at hi'; omega
          subst this
          rw [updX_eq]; exact Int.le_refl _
        · have h4 := h3 p (by omega) i' hi' hne
          by_cases e2 : lb ls i' = lb ls i
          · rw [e2, updX_eq]; rw [e2] at h4; omega
          · rw [updX_ne e2]; exact h4
    · rw [if_neg c2]
      exact ⟨rd, t, T, h, h2, same (.inr (by omega))⟩

section
variable {X : FuncId → List Value → St → (Value → St → Bool) → Bool}

end
end Ev
end Go.Proofs.YtcpebhdbpkhhiaaGreat

/- A system that does not settle has a chain below 0. -/
namespace Go.Proofs.YtcpebhdbpkhhiaaGreat
open Go Go.RowKit
namespace Ev
theorem Gh.rws {ls : List (List Int)} {M k v : Nat} {s : Fs} (hl : lmB (M : Int) ls = true) (hk : 0 < k) (hv : v < M + 1) (h : ∃ rd t T, Gh ls (M + 1) k s rd t T ∧ G2 ls k v s.x rd) : ∀ {q : Nat}, q ≤ (nl ls ls.length v).length → ∃ rd t T, Gh ls (M + 1) k (rwS ls s v q) rd t T ∧ G2 ls k v (rwS ls s v q).x rd ∧ G3 ls v q (rwS ls s v q).x
  | 0, _ => by
    obtain ⟨rd, t, T, h1, h2⟩ := h
    exact ⟨rd, t, T, h1, h2, fun p hp => absurd hp (Nat.not_lt_zero p)⟩
  | q + 1, hq => by
    obtain ⟨rd, t, T, h1, h2, h3⟩ := Gh.rws hl hk hv h (q := q) (by omega)
    obtain ⟨i, hi, hil, hn⟩ := nl_mem (ls := ls) (v := v) (k := ls.length) (q := q) (by omega)
    have := Gh.step hl hk hv hi hil hn h1 h2 h3
    have e : rwS ls s v (q + 1) = rlx ls (rwS ls s v q) v i := by
      show rlx ls (rwS ls s v q) v ((nl ls ls.length v).getD q 0).toNat = _
      rw [hi, Int.toNat_natCast]
    rw [e]
    exact this
theorem cl_of {ls : List (List Int)} {M v : Nat} {x : Nat → Int} (hl : lmB (M : Int) ls = true) (h : G3 ls v (nl ls ls.length v).length x) : Cl ls x v := by
  intro i hi ha
  have hL := lim_of hl hi
  obtain ⟨q, h1, h2⟩ := nl_has (ls := ls) (v := v) (i := i) (.inl (by rw [hL.ea, ha])) (k := ls.length) hi
  exact h q h1 i h2 (fun e => hL.ne (by rw [ha, e]))
theorem Gh.lws {ls : List (List Int)} {M k : Nat} {s : Fs} (hl : lmB (M : Int) ls = true) (hk : 0 < k) (hF : ∀ v, v < M + 1 → ¬ (lwS ls s v).x v = 1000000000) (h : ∃ rd t T, Gh ls (M + 1) k s rd t T) : ∀ {v : Nat}, v ≤ M + 1 → ∃ rd t T, Gh ls (M + 1) k (lwS ls s v) rd t T ∧ G2 ls k v (lwS ls s v).x rd
  | 0, _ => by
    obtain ⟨rd, t, T, h1⟩ := h
    exact ⟨rd, t, T, h1, fun a ha => absurd ha (Nat.not_lt_zero a)⟩
  | v + 1, hv => by
    have ih := Gh.lws hl hk hF h (v := v) (by omega)
    rw [lws_go (hF v (by omega))]
    obtain ⟨rd, t, T, h1, h2, h3⟩ := Gh.rws hl hk (show v < M + 1 by omega) ih (Nat.le_refl _)
    refine ⟨rd, t, T, h1, fun a ha hr => ?_⟩
    by_cases e : a = v
    · rw [e]; exact cl_of hl h3
    · exact h2 a (by omega) hr
theorem Gh.stl {ls : List (List Int)} {M : Nat} (hl : lmB (M : Int) ls = true) (h4 : ls.length ≤ 400) (hM : M ≤ 64) : ∀ {r : Nat}, r ≤ M + 1 → ∃ rd t T, Gh ls (M + 1) r (stl ls (M + 1) r) rd t T ∧ G2 ls r (M + 1) (stl ls (M + 1) r).x rd
  | 0, _ => ⟨fun _ => 0, fun _ => 0, 0, ⟨fun b _ hr => absurd hr (Nat.lt_irrefl 0), fun _ => Nat.le_refl _, fun _ => Nat.le_refl _, fun a _ hr => by omega, .inl rfl, fun a _ _ => rfl⟩, fun a _ hr => by omega⟩
  | r + 1, hr => by
    obtain ⟨rd, t, T, h1, h2⟩ := Gh.stl hl h4 hM (r := r) (by omega)
    have hI := Iv.st0 (Iv.stl hl h4 hM (r := r) (by omega))
    refine Gh.lws (s := Ev.st0 (Ev.stl ls (M + 1) r)) hl (Nat.succ_pos r) (fun v hv => ?_) ⟨rd, t, T, h1.par, h1.tT, fun a => by have := h1.rk a; omega, fun a ha hr => h2 a ha (by omega), .inl rfl, h1.zr⟩ (Nat.le_refl _)
    have := (Iv.lws hl h4 hI (v := v) (by omega)).bd v hv
    omega
/-- What the limits of a way against the steps add up to. -/
def sumC (ls : List (List Int)) (c : Nat → Nat × Nat × Nat × Int) (a : Nat) : Nat → Int
  | 0 => 0
  | d + 1 => sumC ls c a d + lw ls (c (itr c a d)).1
theorem chain_low {ls : List (List Int)} {c : Nat → Nat × Nat × Nat × Int} {x : Nat → Int} {t rd : Nat → Nat} {a : Nat} (h : ∀ m, Pq ls x t rd (c (itr c a m)) (itr c a m)) : ∀ d, x (itr c a d) + sumC ls c a d ≤ x a ∧ (x (itr c a d) + sumC ls c a d = x a → t (itr c a d) + d ≤ t a)
  | 0 => ⟨by show x a + 0 ≤ x a; omega, fun _ => Nat.le_refl _⟩
  | d + 1 => by
    obtain ⟨h1, h2⟩ := chain_low h d
    obtain ⟨_, _, _, h3, h4, _⟩ := h d
    show x (c (itr c a d)).2.1 + (sumC ls c a d + lw ls (c (itr c a d)).1) ≤ x a ∧ (x (c (itr c a d)).2.1 + (sumC ls c a d + lw ls (c (itr c a d)).1) = x a → t (c (itr c a d)).2.1 + (d + 1) ≤ t a)
    refine ⟨by omega, fun e => ?_⟩
    have e1 := h2 (by omega)
    have e2 := h4 (by omega)
    omega
theorem uns_par {ls : List (List Int)} {M l0 : Nat} (hl : lmB (M : Int) ls = true) (h4 : ls.length ≤ 400) (hM : M ≤ 64) (hl0 : l0 < M + 1) (he : (stl ls (M + 1) (M + 1)).l = (l0 : Int)) : ∃ rd t, ∀ m, Pq ls (stl ls (M + 1) (M + 1)).x t rd ((stl ls (M + 1) (M + 1)).c (itr (stl ls (M + 1) (M + 1)).c l0 m)) (itr (stl ls (M + 1) (M + 1)).c l0 m) := by
  obtain ⟨rd, t, T, h1, h2⟩ := Gh.stl hl h4 hM (r := M + 1) (Nat.le_refl _)
  have hc := (Iv.stl hl h4 hM (r := M + 1) (Nat.le_refl _)).par
  refine ⟨rd, t, ?_⟩
  have hr0 : rd l0 = M + 1 := by
    rcases h1.last with q | ⟨u, _, q, r⟩
    · omega
    · have : u = l0 := by omega
      rw [← this]; exact r
  have hrd : ∀ j, j ≤ M + 1 → M + 1 ≤ rd (itr (stl ls (M + 1) (M + 1)).c l0 j) + j := by
    intro j
    induction j with
    | zero => intro _; show M + 1 ≤ rd l0 + 0; omega
    | succ j ih =>
      intro hj
      have ih := ih (by omega)
      obtain ⟨_, _, _, _, _, h6⟩ := h1.par _ (itr_lt hc hl0 j) (by omega)
      show M + 1 ≤ rd ((stl ls (M + 1) (M + 1)).c (itr (stl ls (M + 1) (M + 1)).c l0 j)).2.1 + (j + 1)
      omega
  obtain ⟨i, j, hij, hj, e⟩ := pigeon (M + 1) (itr (stl ls (M + 1) (M + 1)).c l0) (fun i _ => itr_lt hc hl0 i)
  have low : ∀ m, ∃ m', m' < M + 1 ∧ itr (stl ls (M + 1) (M + 1)).c l0 m = itr (stl ls (M + 1) (M + 1)).c l0 m' := by
    intro m
    induction m using Nat.strongRecOn with
    | ind m ih =>
      by_cases q : m < M + 1
      · exact ⟨m, q, rfl⟩
      · obtain ⟨m', h5, h6⟩ := ih (i + (m - j)) (by omega)
        refine ⟨m', h5, ?_⟩
        rw [← h6, itr_add, e, ← itr_add, show j + (m - j) = m by omega]
  intro m
  obtain ⟨m', h5, h6⟩ := low m
  rw [h6]
  exact h1.par _ (itr_lt hc hl0 m') (by have := hrd m' (by omega); omega)
/-- What Cycle tells contradicts itself. -/
theorem uns_neg {ls : List (List Int)} {M l0 k : Nat} (hl : lmB (M : Int) ls = true) (h4 : ls.length ≤ 400) (hM : M ≤ 64) (hl0 : l0 < M + 1) (he : (stl ls (M + 1) (M + 1)).l = (l0 : Int))
    (hp : itr (stl ls (M + 1) (M + 1)).c (itr (stl ls (M + 1) (M + 1)).c l0 (M + 1)) (k + 1) = itr (stl ls (M + 1) (M + 1)).c l0 (M + 1)) :
    (∀ m, ((stl ls (M + 1) (M + 1)).c (itr (stl ls (M + 1) (M + 1)).c (itr (stl ls (M + 1) (M + 1)).c l0 (M + 1)) m)).1 < ls.length ∧ lb ls ((stl ls (M + 1) (M + 1)).c (itr (stl ls (M + 1) (M + 1)).c (itr (stl ls (M + 1) (M + 1)).c l0 (M + 1)) m)).1 = itr (stl ls (M + 1) (M + 1)).c (itr (stl ls (M + 1) (M + 1)).c l0 (M + 1)) m ∧ la ls ((stl ls (M + 1) (M + 1)).c (itr (stl ls (M + 1) (M + 1)).c (itr (stl ls (M + 1) (M + 1)).c l0 (M + 1)) m)).1 = itr (stl ls (M + 1) (M + 1)).c (itr (stl ls (M + 1) (M + 1)).c l0 (M + 1)) (m + 1)) ∧
    sumC ls (stl ls (M + 1) (M + 1)).c (itr (stl ls (M + 1) (M + 1)).c l0 (M + 1)) (k + 1) < 0 := by
  obtain ⟨rd, t, h⟩ := uns_par hl h4 hM hl0 he
  have h' : ∀ m, Pq ls (stl ls (M + 1) (M + 1)).x t rd ((stl ls (M + 1) (M + 1)).c (itr (stl ls (M + 1) (M + 1)).c (itr (stl ls (M + 1) (M + 1)).c l0 (M + 1)) m)) (itr (stl ls (M + 1) (M + 1)).c (itr (stl ls (M + 1) (M + 1)).c l0 (M + 1)) m) := fun m => by
    have := h (M + 1 + m)
    rw [itr_add] at this
    exact this
  refine ⟨fun m => ⟨(h' m).1, (h' m).2.2.1, (h' m).2.1⟩, ?_⟩
  obtain ⟨h5, h6⟩ := chain_low h' (k + 1)
  rw [hp] at h5 h6
  by_cases q : sumC ls (stl ls (M + 1) (M + 1)).c (itr (stl ls (M + 1) (M + 1)).c l0 (M + 1)) (k + 1) = 0
  · have := h6 (by omega)
    omega
  · omega

section
variable {X : FuncId → List Value → St → (Value → St → Bool) → Bool}

end
end Ev
end Go.Proofs.YtcpebhdbpkhhiaaGreat

/- A system that settles has a point. -/
namespace Go.Proofs.YtcpebhdbpkhhiaaGreat
open Go Go.RowKit
namespace Ev
theorem rlx_l {ls : List (List Int)} {M v i : Nat} {s : Fs} (h : Lim ls M i) (hl : (rlx ls s v i).l = -1) : rlx ls s v i = s ∧ (lb ls i = v ∨ s.x (lb ls i) ≤ s.x v + lw ls i) := by
  rw [rlx_eq h] at hl ⊢
  by_cases c1 : lb ls i = v
  · rw [if_pos c1]; exact ⟨rfl, .inl c1⟩
  · rw [if_neg c1] at hl ⊢
    by_cases c2 : s.x v + lw ls i < s.x (lb ls i)
    · rw [if_pos c2] at hl
      have : ((lb ls i : Nat) : Int) = -1 := hl
      omega
    · rw [if_neg c2]; exact ⟨rfl, .inr (by omega)⟩
theorem rws_l {ls : List (List Int)} {M v : Nat} {s : Fs} (hl : lmB (M : Int) ls = true) : ∀ {q : Nat}, q ≤ (nl ls ls.length v).length → (rwS ls s v q).l = -1 → rwS ls s v q = s ∧ G3 ls v q s.x
  | 0, _, _ => ⟨rfl, fun p hp => absurd hp (Nat.not_lt_zero p)⟩
  | q + 1, hq, h => by
    obtain ⟨i, hi, hil, hn⟩ := nl_mem (ls := ls) (v := v) (k := ls.length) (q := q) (by omega)
    have e : rwS ls s v (q + 1) = rlx ls (rwS ls s v q) v i := by
      show rlx ls (rwS ls s v q) v ((nl ls ls.length v).getD q 0).toNat = _
      rw [hi, Int.toNat_natCast]
    rw [e] at h ⊢
    obtain ⟨e2, h2⟩ := rlx_l (lim_of hl hil) h
    rw [e2] at h ⊢
    obtain ⟨e3, h3⟩ := rws_l hl (q := q) (by omega) h
    rw [e3] at h2 ⊢
    refine ⟨rfl, fun p hp i' hi' hne => ?_⟩
    by_cases c : p = q
    · subst c
      have : i' = i := by rw [hi] at hi'; omega
      subst this
      rcases h2 with h2 | h2
      · exact absurd h2 hne
      · exact h2
    · exact h3 p (by omega) i' hi' hne
theorem lws_l {ls : List (List Int)} {M : Nat} {s : Fs} (hl : lmB (M : Int) ls = true) : ∀ {v : Nat}, (lwS ls s v).l = -1 → lwS ls s v = s ∧ ∀ a, a < v → ¬ s.x a = 1000000000 → Cl ls s.x a
  | 0, _ => ⟨rfl, fun a ha => absurd ha (Nat.not_lt_zero a)⟩
  | v + 1, h => by
    by_cases c : (lwS ls s v).x v = 1000000000
    · rw [lws_free c] at h ⊢
      obtain ⟨e, h2⟩ := lws_l hl h
      rw [e] at c
      refine ⟨e, fun a ha hf => ?_⟩
      by_cases q : a = v
      · rw [q] at hf; exact absurd c hf
      · exact h2 a (by omega) hf
    · rw [lws_go c] at h ⊢
      obtain ⟨e1, h1⟩ := rws_l hl (Nat.le_refl _) h
      rw [e1] at h ⊢
      obtain ⟨e, h2⟩ := lws_l hl h
      rw [e] at h1 ⊢
      refine ⟨rfl, fun a ha hf => ?_⟩
      by_cases q : a = v
      · rw [q]; exact cl_of hl h1
      · exact h2 a (by omega) hf
/-- Against the steps of what has settled one comes to an unknown that was never lowered. -/
theorem itr_root {ls : List (List Int)} {M : Nat} {c : Nat → Nat × Nat × Nat × Int} {x : Nat → Int} {t rd : Nat → Nat} (hl : lmB (M : Int) ls = true) (hc : ∀ a, a < M + 1 → (c a).2.1 < M + 1) (hz : ∀ a, a < M + 1 → rd a = 0 → x a = 0)
    (hp : ∀ b, b < M + 1 → 0 < rd b → Pq ls x t rd (c b) b) (hx : ∀ i, i < ls.length → x (lb ls i) ≤ x (la ls i) + lw ls i) {v : Nat} (hv : v < M + 1) : -20000 * ((M : Int) + 1) ≤ x v := by
  have hw : ∀ i, i < ls.length → -20000 ≤ lw ls i := fun i hi => by
    obtain ⟨u0, u1, y2, y3, e, hc⟩ := lm_row hl hi
    have e3 : ls.getD i [] = [(u0 : Int), (u1 : Int), y2, y3] := by rw [List.getD_eq_getElem?_getD, e]; rfl
    have e2 : lw ls i = y2 := by unfold lw; rw [e3]; rfl
    omega
  have step : ∀ j, 0 < rd (itr c v j) → t (itr c v (j + 1)) < t (itr c v j) ∧ x (itr c v (j + 1)) - 20000 ≤ x (itr c v j) := fun j hj => by
    obtain ⟨h1, h2, h3, h4, h5, h6⟩ := hp _ (itr_lt hc hv j) hj
    have h7 := hx _ h1
    rw [h2, h3] at h7
    have h8 := hw _ h1
    exact ⟨h5 (by omega), by show x (c (itr c v j)).2.1 - 20000 ≤ _; omega⟩
  have down : ∀ j, (∀ i, i < j → 0 < rd (itr c v i)) → x (itr c v j) - 20000 * (j : Int) ≤ x v ∧ ∀ i, i < j → t (itr c v j) < t (itr c v i) := by
    intro j
    induction j with
    | zero => intro _; exact ⟨by show x v - 20000 * 0 ≤ x v; omega, fun i hi => absurd hi (Nat.not_lt_zero i)⟩
    | succ j ih =>
      intro h
      obtain ⟨h1, h2⟩ := ih (fun i hi => h i (by omega))
      obtain ⟨h3, h4⟩ := step j (h j (by omega))
      refine ⟨by omega, fun i hi => ?_⟩
      by_cases q : i = j
      · rw [q]; exact h3
      · have := h2 i (by omega); omega
  obtain ⟨i, j, hij, hj, e⟩ := pigeon (M + 1) (itr c v) (fun i _ => itr_lt hc hv i)
  have hex : ∃ k, k ≤ M + 1 ∧ rd (itr c v k) = 0 ∧ ∀ i, i < k → 0 < rd (itr c v i) := by
    refine Classical.byContradiction (fun q => ?_)
    have all : ∀ k, k ≤ M + 1 → 0 < rd (itr c v k) := by
      intro k
      induction k using Nat.strongRecOn with
      | ind k ih =>
        intro hk
        refine Nat.pos_of_ne_zero (fun z => q ⟨k, hk, z, fun i hi => ih i hi (by omega)⟩)
    have := (down j (fun i hi => all i (by omega))).2 i hij
    rw [e] at this
    omega
  obtain ⟨k, h1, h2, h3⟩ := hex
  have h4 := (down k h3).1
  have h5 := hz _ (itr_lt hc hv k) h2
  omega
/-- A system that settles has a point, and its numbers are small. -/
theorem set_pt {ls : List (List Int)} {M : Nat} (hl : lmB (M : Int) ls = true) (h4 : ls.length ≤ 400) (hM : M ≤ 64) (h : ¬ Uns ls (M + 1)) : ∃ x : Nat → Int, (∀ i, i < ls.length → x (lb ls i) ≤ x (la ls i) + lw ls i) ∧ ∀ a, a < M + 1 → -1300000 ≤ x a ∧ x a ≤ 0 := by
  have : ∃ r, r < M + 1 ∧ (stl ls (M + 1) (r + 1)).l = -1 := by
    refine Classical.byContradiction (fun q => h (fun r hr e => q ⟨r, hr, e⟩))
  obtain ⟨r, hr, e⟩ := this
  obtain ⟨e2, h2⟩ := lws_l (s := st0 (stl ls (M + 1) r)) hl e
  have hI := Iv.stl hl h4 hM (r := r) (by omega)
  have hb := hI.bd
  have hx : ∀ i, i < ls.length → (stl ls (M + 1) r).x (lb ls i) ≤ (stl ls (M + 1) r).x (la ls i) + lw ls i := fun i hi => by
    have hL := lim_of hl hi
    exact h2 (la ls i) hL.ha (by have := hb (la ls i) hL.ha; show ¬ (stl ls (M + 1) r).x (la ls i) = 1000000000; omega) i hi rfl
  obtain ⟨rd, t, T, g1, _⟩ := Gh.stl hl h4 hM (r := r) (by omega)
  refine ⟨(stl ls (M + 1) r).x, hx, fun a ha => ⟨?_, (hb a ha).2⟩⟩
  have := itr_root hl hI.par g1.zr g1.par hx ha
  omega
/-- Where there is a point, no chain is below 0. -/
theorem pt_chain {ls : List (List Int)} {c : Nat → Nat × Nat × Nat × Int} {x : Nat → Int} {a : Nat} (hx : ∀ i, i < ls.length → x (lb ls i) ≤ x (la ls i) + lw ls i) (h : ∀ m, (c (itr c a m)).1 < ls.length ∧ lb ls (c (itr c a m)).1 = itr c a m ∧ la ls (c (itr c a m)).1 = itr c a (m + 1)) : ∀ d, x a ≤ x (itr c a d) + sumC ls c a d
  | 0 => by show x a ≤ x a + 0; omega
  | d + 1 => by
    have ih := pt_chain hx h d
    obtain ⟨h1, h2, h3⟩ := h d
    have := hx _ h1
    rw [h2, h3] at this
    show x a ≤ x (itr c a (d + 1)) + (sumC ls c a d + lw ls (c (itr c a d)).1)
    omega
/-- A point's numbers keep the first limits. -/
def kpB (x : List Int) : List (List Int) → Bool
  | [] => true
  | [y0, y1, y2, _] :: rs => decide (x.getD y1.toNat 0 - x.getD y0.toNat 0 ≤ y2) && kpB x rs
  | _ :: _ => false
theorem kp_step {x : List Int} {ls : List (List Int)} {k : Nat} {y0 y1 y2 y3 : Int} (h : ls[k]? = some [y0, y1, y2, y3]) : kpB x (ls.drop k) = (decide (x.getD y1.toNat 0 - x.getD y0.toNat 0 ≤ y2) && kpB x (ls.drop (k + 1))) := by
  obtain ⟨hk, e⟩ := List.getElem?_eq_some_iff.1 h
  rw [List.drop_eq_getElem_cons hk, e]; rfl
theorem kp_end {x : List Int} {ls : List (List Int)} {k : Nat} (h : kpB x ls = kpB x (ls.drop k)) (hk : ls.length ≤ k) : kpB x ls = true := by
  rw [h, List.drop_eq_nil_of_le hk]; rfl
theorem kp_bad {x : List Int} {ls : List (List Int)} {k u0 u1 : Nat} {y2 y3 : Int} (hx : ls[k]? = some [(u0 : Int), (u1 : Int), y2, y3]) (h : kpB x ls = kpB x (ls.drop k)) (hb : ¬ x.getD u1 0 - x.getD u0 0 ≤ y2) : kpB x ls = false := by
  rw [h, kp_step hx, Int.toNat_natCast, Int.toNat_natCast, decide_eq_false hb]; rfl
theorem kp_good {x : List Int} {ls : List (List Int)} {k u0 u1 : Nat} {y2 y3 : Int} (hx : ls[k]? = some [(u0 : Int), (u1 : Int), y2, y3]) (h : kpB x ls = kpB x (ls.drop k)) (hb : x.getD u1 0 - x.getD u0 0 ≤ y2) : kpB x ls = kpB x (ls.drop (k + 1)) := by
  rw [h, kp_step hx, Int.toNat_natCast, Int.toNat_natCast, decide_eq_true hb]; rfl
def inB (lo hi : Int) (l : List Int) : Bool := l.all fun x => decide (lo ≤ x ∧ x ≤ hi)
theorem in_step {lo hi : Int} {l : List Int} {k : Nat} (hk : k < l.length) : inB lo hi (l.drop k) = (decide (lo ≤ l.getD k 0 ∧ l.getD k 0 ≤ hi) && inB lo hi (l.drop (k + 1))) := by
  rw [List.drop_eq_getElem_cons hk, List.getD_eq_getElem?_getD, List.getElem?_eq_getElem hk]; rfl
theorem in_bad {lo hi : Int} {l : List Int} {k : Nat} (hk : k < l.length) (hi' : inB lo hi l = inB lo hi (l.drop k)) (h : ¬ (lo ≤ l.getD k 0 ∧ l.getD k 0 ≤ hi)) : inB lo hi l = false := by
  rw [hi', in_step hk, decide_eq_false h]; rfl
theorem in_good {lo hi : Int} {l : List Int} {k : Nat} (hk : k < l.length) (hi' : inB lo hi l = inB lo hi (l.drop k)) (h : lo ≤ l.getD k 0 ∧ l.getD k 0 ≤ hi) : inB lo hi l = inB lo hi (l.drop (k + 1)) := by
  rw [hi', in_step hk, decide_eq_true h]; rfl
theorem in_end {lo hi : Int} {l : List Int} {k : Nat} (hi' : inB lo hi l = inB lo hi (l.drop k)) (hk : l.length ≤ k) : inB lo hi l = true := by
  rw [hi', List.drop_eq_nil_of_le hk]; rfl
/-- What a point is that keeps a system. -/
def ptB (m : Int) (ls : List (List Int)) (x : List Int) : Bool := decide ((x.length : Int) = m + 1 ∧ x.getD 0 0 = 0) && inB (-1000000000) 1000000000 x && kpB x ls
theorem pt_no1 {m : Int} {ls : List (List Int)} {x : List Int} (h : ¬ ((x.length : Int) = m + 1 ∧ x.getD 0 0 = 0)) : ptB m ls x = false := by unfold ptB; rw [decide_eq_false h]; rfl
theorem pt_no2 {m : Int} {ls : List (List Int)} {x : List Int} (h : inB (-1000000000) 1000000000 x = false) : ptB m ls x = false := by unfold ptB; rw [h]; simp
theorem pt_no3 {m : Int} {ls : List (List Int)} {x : List Int} (h : kpB x ls = false) : ptB m ls x = false := by unfold ptB; rw [h]; simp
theorem pt_yes {m : Int} {ls : List (List Int)} {x : List Int} (h : (x.length : Int) = m + 1 ∧ x.getD 0 0 = 0) (h2 : inB (-1000000000) 1000000000 x = true) (h3 : kpB x ls = true) : ptB m ls x = true := by unfold ptB; rw [decide_eq_true h, h2, h3]; rfl
theorem in_all {lo hi : Int} {l : List Int} (h : inB lo hi l = true) {k : Nat} (hk : k < l.length) : lo ≤ l.getD k 0 ∧ l.getD k 0 ≤ hi := by
  have h1 := List.all_eq_true.1 h l[k] (List.getElem_mem hk)
  have e : l.getD k 0 = l[k] := by rw [List.getD_eq_getElem?_getD, List.getElem?_eq_getElem hk]; rfl
  rw [e]
  simpa using h1

section
variable {X : FuncId → List Value → St → (Value → St → Bool) → Bool}

end
end Ev
end Go.Proofs.YtcpebhdbpkhhiaaGreat
