import Derived.Test.YtoeklhdklcpllaaZi16
import Derived.Test.YtoeklhdklcpllaaZi09
import Derived.Test.YtoeklhdklcpllaaProg
import Derived.KernelRfl
import Derived.Test.YtoeklhdklcpllaaZi08
import Derived.Test.YtoeklhdklcpllaaZi06
set_option linter.unusedVariables false
set_option linter.unusedSimpArgs false
namespace Go.Proofs.Ytoeklhdklcpllaa
open Go Go.RowKit
namespace Ev
theorem rowT_fit {T : Nat -> Nat -> Int} {N i : Nat} (h : ∀ a b, a < N -> b < N -> -1000000000 <= T a b /\ T a b <= 1000000000) (hi : i < N) : ∀ z ∈ rowT T N i, -9223372036854775808 <= z /\ z < 9223372036854775808 := fun z hz => by
 obtain ⟨k, hk, rfl⟩ := List.mem_map.1 hz;have := h i k hi (List.mem_range.1 hk);omega
theorem Sm.fit {D : Nat -> Nat -> Int} {N : Nat} (h : Sm D N) : ∀ a b, a < N -> b < N -> -1000000000 <= D a b /\ D a b <= 1000000000 := fun a b ha hb => by
 have h1 := h.lo a b ha hb;have h2 := h.hi a b ha hb;omega
section
variable {X : FuncId -> List Value -> St -> (Value -> St -> Bool) -> Bool}
set_option maxHeartbeats 2000000 in
set_option maxRecDepth 100000 in
theorem BoundIdle_s (n : Nat) (r0 : Int) (ar : Option Addr) (cr : Nat) (rs : List (List Int)) (a1 : Option Addr) (c1 : Nat) (l1 : List Int) (w0 : Int) (s : St) (hs : Wf s) (hn : 16888498602639360 <= n) (hR : RowsE s 4 ar rs) (hI1 : IntsE s a1 l1) : Spec Try.prog (tabK tabw) (knownX 12) (n + 13500) 7 [.agg ⟨[.int .i64 r0, .slice ar rs.length cr]⟩, .slice a1 l1.length c1, .int .i64 w0] s (fun v A => v = .bool true /\ A = []) := by
 refine enter bw7_at rfl hs ?_;unfold bw7;have hlen := hR.len;have hlen1 := hI1.len;refine rS (kO J (a_box J J J (fun b1 => (kM J J (Q0 (rS (kO J (U5 J (by decide) .here rfl (kO J (Y5 J J (fun s1 h1 => made_o _ r0 ar cr rs s1 h1.wf (by omega) (hR.ext hs h1.2.1)) (fun v1 A1 q1 => ?_)))))))))));obtain ⟨aT, cT, TL, rfl, hA9, hTO⟩ := q1;rw [hA9];have hTR := hTO.tlr;obtain ⟨hM1, hM6, hMe⟩ := mdM_bd (r0 := r0);generalize mdM r0 = M at *;have hlm := mdL_lm (rs := rs) hM1 hM6;have hlw := mdL_w (rs := rs) hM1 hM6;have hft := mdL_fit (rs := rs) hM1 hM6;have hsys := mdL_sys (rs := rs) hM1 hM6;have hl20 := mdL_len (M := M) (rs := rs);generalize mdL M rs = ls at *;obtain ⟨hTL, _, hcl⟩ := hTR.ok;have hLg := lg_of hlm;have h400 : ls.length <= 400 := by omega
 have hM : M <= 64 := by omega
 refine kO J (a_new J J (fun b2 => (kZ J (Q7 J J .here rfl rfl rfl rfl (Q0 (rS (kO J (U5 J (by decide) .here rfl (kM J J (kO J (Y5 J J (fun s1 h1 => weights_s _ M aT cT _ a1 c1 l1 s1 h1.wf (by omega) (hI1.ext hs h1.2.1) hM) (fun v1 A1 q1 => ?_))))))))))));obtain ⟨bw3, opw, cW, rfl, hTw, rfl⟩ := q1;rw [List.singleton_append];have hwl : (wgL l1 (M + 1)).length = M + 1 := wgL_len;have hwo : WOk (wgL l1 (M + 1)) (wgL l1 (M + 1)).length := wgL_ok (by omega);have hwf : ∀ z ∈ wgL l1 (M + 1), -9223372036854775808 <= z /\ z < 9223372036854775808 := wgL_fit;generalize wgL l1 (M + 1) = w at *;refine kM J J (Q0 (rS (kO J (U5 J (by decide) (.next .here) J (kO J (Y5 J J (fun s1 h1 => Idle_s _ (M : Int) _ _ ls s1 h1.wf (by omega) (hTL.rows (.cons _ (.cons _ (List.sublist_append_left _ _))) h1 hLg (by omega) (by omega) hft)) (fun v1 A1 q1 => ?_)))))));rcases q1 with ⟨hc, rfl, rfl⟩ | ⟨hc, hc2, rfl, rfl⟩ | ⟨hc, hc2, q1⟩
 ·exact absurd hsys hc
 ·refine kM J J (kO J (Q2 J J (kO J (Q2 J J (kM J J (kM J J (Q0 (rQ (rS (kM J J (kO J (Z4 J J (fun _ => (Q0 (Y0 J (rS (kM J J (kO J (a_eql J J (fun _ => (kM J J (kG J J (a_callV J J (fun s1 h1 => known_s _ s1 h1.wf) (kO J (Q3 J J J (kM J J (Q0 (Z3 (V3 ?_)))))))))) (fun h => absurd h (by decide))))))))) (fun h => absurd h (by decide))))))))))))))
  exact end1 J ⟨rfl, rfl⟩
 ·obtain ⟨aI, cI, il, UI, rfl, hA8, hIl, hId⟩ := q1
  rw [hA8];change ¬ Uns ls (M + 1) at hc2;have hun := hc2;change IdP ls M ls.length il at hId;refine kM J J (kO J (Q2 J J (kO J (Q2 J J (kM J J (kM J J (Q0 (rQ (rS (kM J J (kO J (Z4 J J (fun h => absurd h (by decide)) (fun _ => (Q0 (Z0 J (Q1 (W0 (rQ (rS (kO J (Z2 J (kO J (Z1 J (.app (.next .here)) J (kO J (a_lenx J (by first | exact hTR.spot | exact hIl.spot | exact hR.spot | exact hI1.spot) (kO J (a_eql J J (fun h7 => ?_) (fun h7 => ?_))))))))))))))))))))))))))))
  ·refine Q0 (Y0 J (rS (kM J J (kO J (a_lenx J hIl.spot (kO J (a_eql J J (fun h8 => ?_) (fun h8 => ?_))))))))
   ·refine kM J J (kG J J (a_callV J J (fun s1 h1 => known_s _ s1 h1.wf) (kO J (Q3 J J J (kM J J (Q0 (Z3 (V3 ?_))))))))
    exact end1 J ⟨rfl, rfl⟩
   ·exfalso; have := hId.len; omega
  ·refine Q0 (Z0 J (Q1 (W0 (rS (kM J J (kO J (Z2 J (kO J (Z1 J (.app (.next .here)) J (kO J (a_lenx J (by first | exact hTR.spot | exact hIl.spot | exact hR.spot | exact hI1.spot) (kO J (a_callV J J (fun s1 h1 => mod_s _ _ _ s1 h1.wf (by omega)) ?_)))))))))))))
   obtain ⟨i, hi9, hil⟩ := mod_nat (z := w0) (n := ls.length) (by omega);rw [hi9];obtain ⟨bT, rfl, rfl, how9⟩ := hTO.own (by omega);obtain ⟨l2, hl2⟩ : ∃ l2, l2 = dl ls i := ⟨_, rfl⟩;have hn2 : l2.length + 1 = ls.length := by rw [hl2]; exact dl_len hil
   have hlm2 : lmB (M : Int) l2 = true := by rw [hl2]; exact dl_lm hlm
   have hun2 : ¬ Uns l2 (M + 1) := by rw [hl2]; exact dl_uns hlm h400 hM hil hun
   have hLg2 := lg_of hlm2;have hft2 : ∀ r ∈ l2, r.length = 4 /\ ∀ x ∈ r, -9223372036854775808 <= x /\ x < 9223372036854775808 := fun r hr => hft r (dl_mem (hl2 ▸ hr))
   have hsys2 : sysE (M : Int) l2 = 0 := by rw [hl2]; exact dl_sys hM h400 hlm hil
   refine kM J J (Q0 (rS (kO J (Z2 J (kO J (Z1 J (.app (.next .here)) J (kO J (a_lit J J J (fun b9 => (kO J (Z2 J (kO J (Z1 J (.next (.app (.next .here))) J (kM J J (kO J (a_sl4T (h := i) J J (.next (.app (.next (.next (how9 _))))) (by rw [limC_len]; omega) (kO J (Z2 J (kO J (Z1 J (.next (.app (.next .here))) J (kM J J (kO J (Q4 J J (by omega) (kO J (a_sl4F (l := i + 1) J J (.next (.app (.next (.next (how9 _))))) (by omega) (by rw [limC_len]; omega) (kO J (a_new J J (fun b10 => (kO J (a_appQ (ts := []) (ts2 := ls.take i) (ts3 := ls.take i) (m3 := i) ⟨_, rfl, rfl, .inl ⟨rfl, rfl, rfl⟩⟩ (.next .one) J J (.next (.app (.next (.next (how9 _))))) (by rw [List.length_take]; omega) (seg_take (by omega)) J (by first | omega | (show 0 + _ = _; omega)) (by omega) (fun aU cU UU hQ1 => (kZ J (a_ag4F (l := i + 1) J J J (.app (.next (.app (.next (.next (how9 _)))))) (by omega) (by rw [limC_len]; omega) (kZ J (a_again J J (.app (.next (.app (.next .here)))) J (by simp [eqV, eqA, eqL, kindEq, intEq_eq, V6 hR.spot, V6 hI1.spot, V6 hTR.spot]) (kZ J (a_again J J (.app (.next (.app (.next .here)))) J (by simp [eqV, eqA, eqL, kindEq, intEq_eq, V6 hR.spot, V6 hI1.spot, V6 hTR.spot]) (kO J (a_appQ (ts2 := ls.drop (i + 1)) (ts3 := l2) (m3 := l2.length) hQ1 .here rfl rfl (.next (.app (.next (.next (how9 _))))) List.length_drop (seg_drop (by omega)) hl2.symm (by omega) (by omega) (fun aL cL LL hQ2 => (kZ J (a_again J J (.app (.next (.app (.next .here)))) J (by simp [eqV, eqA, eqL, kindEq, intEq_eq, V6 hR.spot, V6 hI1.spot, V6 hTR.spot]) (kO J (Z7 J J (kZ J (Q7 J J (.app .here) J J J J ?_))))))))))))))))))))))))))))))))))))))))))))));refine Q0 (rS (kO J (U5 J (by decide) (.app (.next (.app (.next .here)))) J (kM J J (kO J (Y5 J J (fun s1 h1 => Range_v _ M _ _ ls _ _ w s1 h1.wf (by omega) (hTL.rows (List.sublist_append_of_sublist_right (.cons _ (List.sublist_append_of_sublist_right (.cons _ (.cons _ (List.sublist_append_left _ _)))))) h1 hLg (by omega) (by omega) hft) hcl (IntsE.own (h1.own (.app (.next (.app .here)))) hwf (by omega)) (cap_tight hTw (h1.own (.app (.next (.app .here)))) (by rw [ints_len]; omega)) hsys hwl hwo) (fun v1 A1 q1 => ?_)))))));rcases q1 with ⟨hz1, rfl, rfl⟩ | ⟨hz1, hz2, rfl, rfl⟩ | ⟨hz1, q1⟩
   ·exact absurd hz1 hun
   ·have hop1 := hz2
    rw [List.nil_append];refine kM J J (kO J (Q2 J J (kO J (Q2 J J (kO J (Q2 J J (kM J J (kM J J (kM J J (Q0 (rS (kO J (U5 J (by decide) (.app .here) J (kM J J (kO J (Y5 J J (fun s1 h1 => Range_v _ M _ _ l2 _ _ w s1 h1.wf (by omega) (hQ2.rows (List.sublist_append_left _ _) h1 hLg2 (by omega) (by omega) hft2) hQ2.ncl (IntsE.own (h1.own (.app (.next (.app .here)))) hwf (by omega)) (cap_tight hTw (h1.own (.app (.next (.app .here)))) (by rw [ints_len]; omega)) hsys2 hwl hwo) (fun v1 A1 q1 => ?_)))))))))))))))));rcases q1 with ⟨hz1, rfl, rfl⟩ | ⟨hz1, hz2, rfl, rfl⟩ | ⟨hz1, q1⟩
    ·exact absurd hz1 hun2
    ·have hop2 := hz2
     rw [List.nil_append];refine kM J J (kO J (Q2 J J (kO J (Q2 J J (kO J (Q2 J J (kM J J (kM J J (kM J J (Q0 (rQ (rS (kM J J (kM J J (kO J (Y5 J J (fun s1 h1 => Has_s _ _ _ il (i : Int) s1 h1.wf (by omega) (hIl.rows (List.sublist_append_of_sublist_right (.cons _ (List.sublist_append_left _ _))) h1 (idle_rng hId (by omega)) (by have := hId.len; omega))) (fun v1 A1 q1 => ?_)))))))))))))))));rcases q1 with ⟨hmm, rfl, rfl⟩ | ⟨hmm, rfl, rfl⟩
     ·obtain ⟨d9, hd9, hi99⟩ := hId.yes i hil hmm
      have hkq : ∀ x, Kq ls x ↔ Kq l2 x := fun x => by rw [hl2]; exact idle_iff hlm hil hd9 hi99 x
      rw [List.nil_append];refine Q0 (Y0 J (rS (kM J J (kM J J (kO J (a_eql J J (fun _ => (kM J J (kG J J (Y3 J (kG J J (Y3 J (kG J J (a_eql J J (fun _ => (kO J (Q3 J J J (kM J J (kG J J (Y3 J (kG J J (Y3 J (kG J J (a_eql J J (fun _ => (kO J (Q3 J J J (kM J J (kG J J (a_callV J J (fun s1 h1 => known_s _ s1 h1.wf) (kO J (Q3 J J J (kM J J (Q0 (Z3 (V3 ?_)))))))))))) (fun h => absurd h (by decide)))))))))))) (fun h => absurd h (by decide)))))))))) (fun h => absurd h (by decide))))))));exact end1 J ⟨rfl, rfl⟩
     ·obtain ⟨d9, hd9, hi99⟩ := hId.no i hil hmm
      rw [List.nil_append];refine Q0 (Z0 J (Q1 (W0 (rS (kO J (U5 J (by decide) (.app (.next (.app (.next .here)))) J (kO J (Y5 J J (fun s1 h1 => Close_s _ (M : Int) _ _ ls s1 h1.wf (by omega) (hTL.rows (List.sublist_append_of_sublist_right (.cons _ (List.sublist_append_of_sublist_right (.cons _ (.cons _ (List.sublist_append_left _ _)))))) h1 hLg (by omega) (by omega) hft)) (fun v1 A1 q1 => ?_)))))))));rcases q1 with ⟨hc, rfl, rfl⟩ | ⟨hc, hc2, rfl, rfl⟩ | ⟨hc, hc2, q1⟩
      ·exact absurd hsys hc
      ·exact absurd hc2 hun
      ·obtain ⟨bt14, B15, D, rfl, rfl, hDT⟩ := q1
       change DT ls (M + 1) D at hDT;rw [List.append_assoc, List.singleton_append];rw [show ((M : Int).toNat) = M from rfl];obtain ⟨y, hy, hyb⟩ := set_pt hlm (show ls.length <= 400 by omega) hM hun;have hS := hDT.sm hy hyb;refine kM J J (kO J (Q2 J J (kO J (Q2 J J (kM J J (kM J J (Q0 (rS (kO J (U5 J (by decide) (.app (.next (.app .here))) J (kO J (Y5 J J (fun s1 h1 => Close_s _ (M : Int) _ _ l2 s1 h1.wf (by omega) (hQ2.rows (List.sublist_append_of_sublist_right (.cons _ (List.sublist_append_left _ _))) h1 hLg2 (by omega) (by omega) hft2)) (fun v1 A1 q1 => ?_)))))))))))));rcases q1 with ⟨hc, rfl, rfl⟩ | ⟨hc, hc2, rfl, rfl⟩ | ⟨hc, hc2, q1⟩
       ·exact absurd hsys2 hc
       ·exact absurd hc2 hun2
       ·obtain ⟨bt16, B17, D2, rfl, rfl, hDT2⟩ := q1
        change DT l2 (M + 1) D2 at hDT2;rw [List.append_assoc, List.singleton_append];rw [show ((M : Int).toNat) = M from rfl];obtain ⟨y2, hy2, hyb2⟩ := set_pt hlm2 (show l2.length <= 400 by omega) hM hun2;have hS2 := hDT2.sm hy2 hyb2;refine kM J J (kO J (Q2 J J (kO J (Q2 J J (kM J J (kM J J (Q0 (rS (kM J J (kO J (a_eql J J (fun _ => (kM J J (kG J J (Y3 J (kG J J (a_eql J J (fun _ => (kO J (Q3 J J J (kM J J (kG J J (Y3 J (kG J J (Y3 J (kG J J (a_inl J J bw24_at rfl ?_)))))))))) (fun h => absurd h (by decide)))))))) (fun h => absurd h (by decide)))))))))))));unfold bw24;refine rS (kM J J (Q0 (rQ (rS (kM J J (kO J (a_len J (kM J J (kO J (a_len J (kO J (Z4 J J (fun h20 => ?_) (fun h20 => ?_)))))))))))))
        ·exact absurd rfl h20
        ·refine Q0 (Z0 J (Q1 (W0 (rQ (rS (kM J J (kO J (a_len J (kM J J (Q0 (Y1 ?_)))))))))))
         refine Z5 (fun j e A => ∃ (k : Nat), e = [(0, .slice (some ⟨bt14, 0, none⟩) (M + 1) (M + 1)), (1, .slice (some ⟨bt16, 0, none⟩) (M + 1) (M + 1)), (12, .int .i64 ((M + 1 : Nat) : Int)), (13, .int .i64 (k : Int))] /\ A = (seg B17 (M + 1) D2 (M + 1) ++ (.row bt16 25 false (slsT B17 (M + 1) (M + 1) (M + 1)) :: (seg B15 (M + 1) D (M + 1) ++ (.row bt14 25 false (slsT B15 (M + 1) (M + 1) (M + 1)) :: [])))) /\ j = M + 1 - k /\ k <= M + 1 /\ ∀ j, j < k -> rowT D (M + 1) j = rowT D2 (M + 1) j) 800 562949953421312 281474976710656 ?_ (j := _) (env2 := _) (A2 := _) ?_ ?_ ?_ ?_ ⟨0, rfl, rfl, rfl, Nat.zero_le _, (fun j hj => absurd hj (Nat.not_lt_zero j))⟩
         rotate_left
         ·omega
         ·omega
         ·exact (lc 0 J (lc 1 J (lc 12 J (lc 13 J Less.nil))))
         ·exact (.r (.q (.r (.q (List.sublist_append_of_sublist_right (.cons _ (List.sublist_append_of_sublist_right (.cons _ (.cons _ (List.sublist_append_of_sublist_right (.cons _ .slnil)))))))))))
         rintro n hn j _ _ ⟨k, rfl, rfl, rfl, hk, hst⟩;refine rS (kO J (Q6 J J (fun h21 => ?_) (fun h21 => ?_)))
         ·refine Q0 (rQ (Y0 J (Q1 (W0 (rQ (Y1 (rS (kM J J (kM J J (Q0 (rS (kM J J (kM J J (kO J (Y4 (j := k) J J (by omega) (by omega) (kO J (Z1 J (.app (.next (.app .here))) (sls_get (by omega) (by omega)) (kM J J (kM J J (kO J (Y4 (j := k) J J (by omega) (by omega) (kO J (Z1 J (.app .here) (sls_get (by omega) (by omega)) (kO J (Y5 J J (fun s1 h1 => Same2_s _ _ _ _ _ _ _ (rowT D (M + 1) k) (rowT D2 (M + 1) k) s1 h1.wf (by omega) rowT_len.symm rowT_len.symm (by rw [rowT_len, rowT_len]) (IntsE.own (h1.own (.app (.next (own_seg (by omega))))) (rowT_fit hS.fit (by omega)) (by rw [rowT_len]; omega)) (IntsE.own (h1.own (own_seg (by omega))) (rowT_fit hS2.fit (by omega)) (by rw [rowT_len]; omega))) (fun v1 A1 q1 => ?_))))))))))))))))))))))))))
          rcases q1 with ⟨hrr, rfl, rfl⟩ | ⟨hrr, rfl, rfl⟩
          ·rw [List.nil_append]
           refine kO J (U7 J (Q0 (Z0 J (Q1 (U1 (W0 (rI (kO J (Q4 J J (by omega) (kM J J (Q0 (W0 ?_))))))))))));exact ⟨rfl, _, _, _, (show M + 1 - (k + 1) < M + 1 - k by omega), (lc 0 J (lc 1 J (lc 12 J (lc 13 J Less.nil)))), (.r (.q (.r (.q .slnil)))), ⟨k + 1, rfl, rfl, rfl, by omega, (fun j hj => by by_cases e : j = k; exact e ▸ hrr; exact hst j (by omega))⟩⟩
          ·rw [List.nil_append]
           refine kO J (U7 J (Q0 (Y0 J (rS (kM J J (Q0 (Z3 (Y7 (V3 (V3 (Y7 (V3 (endD1 J .nil (kG J J (U7 J (kO J (Q3 J J J (kM J J (kG J J (a_callV J J (fun s1 h1 => known_s _ s1 h1.wf) (kO J (Q3 J J J (kM J J (Q0 (Z3 ?_)))))))))))))))))))))))));exact end1 J ⟨rfl, rfl⟩
         ·exfalso; exact idle_tab hlm hil hDT (hl2 ▸ hDT2) hd9 hi99 (rowT_at (hst _ (by have := (hN_of hlm i hil).1; omega)) (hN_of hlm i hil).2)
    ·obtain ⟨u, q, u2, q2, hOu, hOu2, hus, hus2, rfl, rfl⟩ := q1
     rw [List.nil_append];refine kM J J (kO J (Q2 J J (kO J (Q2 J J (kO J (Q2 J J (kM J J (kM J J (kM J J (Q0 (rQ (rS (kM J J (kM J J (kO J (Y5 J J (fun s1 h1 => Has_s _ _ _ il (i : Int) s1 h1.wf (by omega) (hIl.rows (List.sublist_append_of_sublist_right (.cons _ (List.sublist_append_left _ _))) h1 (idle_rng hId (by omega)) (by have := hId.len; omega))) (fun v1 A1 q1 => ?_)))))))))))))))));rcases q1 with ⟨hmm, rfl, rfl⟩ | ⟨hmm, rfl, rfl⟩
     ·obtain ⟨d9, hd9, hi99⟩ := hId.yes i hil hmm
      have hkq : ∀ x, Kq ls x ↔ Kq l2 x := fun x => by rw [hl2]; exact idle_iff hlm hil hd9 hi99 x
      rcases hop1 with q9 | q9 <;> first | exact (opn_kq hlm2 hkq q9 hOu).elim | exact (opn_kq hlm2 hkq q9 hOu2).elim
     ·obtain ⟨d9, hd9, hi99⟩ := hId.no i hil hmm
      rw [List.nil_append];refine Q0 (Z0 J (Q1 (W0 (rS (kO J (U5 J (by decide) (.app (.next (.app (.next .here)))) J (kO J (Y5 J J (fun s1 h1 => Close_s _ (M : Int) _ _ ls s1 h1.wf (by omega) (hTL.rows (List.sublist_append_of_sublist_right (.cons _ (List.sublist_append_of_sublist_right (.cons _ (.cons _ (List.sublist_append_left _ _)))))) h1 hLg (by omega) (by omega) hft)) (fun v1 A1 q1 => ?_)))))))));rcases q1 with ⟨hc, rfl, rfl⟩ | ⟨hc, hc2, rfl, rfl⟩ | ⟨hc, hc2, q1⟩
      ·exact absurd hsys hc
      ·exact absurd hc2 hun
      ·obtain ⟨bt22, B23, D, rfl, rfl, hDT⟩ := q1
       change DT ls (M + 1) D at hDT;rw [List.append_assoc, List.singleton_append];rw [show ((M : Int).toNat) = M from rfl];obtain ⟨y, hy, hyb⟩ := set_pt hlm (show ls.length <= 400 by omega) hM hun;have hS := hDT.sm hy hyb;refine kM J J (kO J (Q2 J J (kO J (Q2 J J (kM J J (kM J J (Q0 (rS (kO J (U5 J (by decide) (.app (.next (.app .here))) J (kO J (Y5 J J (fun s1 h1 => Close_s _ (M : Int) _ _ l2 s1 h1.wf (by omega) (hQ2.rows (List.sublist_append_of_sublist_right (.cons _ (List.sublist_append_left _ _))) h1 hLg2 (by omega) (by omega) hft2)) (fun v1 A1 q1 => ?_)))))))))))));rcases q1 with ⟨hc, rfl, rfl⟩ | ⟨hc, hc2, rfl, rfl⟩ | ⟨hc, hc2, q1⟩
       ·exact absurd hsys2 hc
       ·exact absurd hc2 hun2
       ·obtain ⟨bt24, B25, D2, rfl, rfl, hDT2⟩ := q1
        change DT l2 (M + 1) D2 at hDT2;rw [List.append_assoc, List.singleton_append];rw [show ((M : Int).toNat) = M from rfl];obtain ⟨y2, hy2, hyb2⟩ := set_pt hlm2 (show l2.length <= 400 by omega) hM hun2;have hS2 := hDT2.sm hy2 hyb2;refine kM J J (kO J (Q2 J J (kO J (Q2 J J (kM J J (kM J J (Q0 (rS (kM J J (kO J (a_eql J J (fun _ => (kM J J (kG J J (Y3 J (kG J J (a_eql J J (fun _ => (kO J (Q3 J J J (kM J J (kG J J (Y3 J (kG J J (Y3 J (kG J J (a_inl J J bw24_at rfl ?_)))))))))) (fun h => absurd h (by decide)))))))) (fun h => absurd h (by decide)))))))))))));unfold bw24;refine rS (kM J J (Q0 (rQ (rS (kM J J (kO J (a_len J (kM J J (kO J (a_len J (kO J (Z4 J J (fun h28 => ?_) (fun h28 => ?_)))))))))))))
        ·exact absurd rfl h28
        ·refine Q0 (Z0 J (Q1 (W0 (rQ (rS (kM J J (kO J (a_len J (kM J J (Q0 (Y1 ?_)))))))))))
         refine Z5 (fun j e A => ∃ (k : Nat), e = [(0, .slice (some ⟨bt22, 0, none⟩) (M + 1) (M + 1)), (1, .slice (some ⟨bt24, 0, none⟩) (M + 1) (M + 1)), (12, .int .i64 ((M + 1 : Nat) : Int)), (13, .int .i64 (k : Int))] /\ A = (seg B25 (M + 1) D2 (M + 1) ++ (.row bt24 25 false (slsT B25 (M + 1) (M + 1) (M + 1)) :: (seg B23 (M + 1) D (M + 1) ++ (.row bt22 25 false (slsT B23 (M + 1) (M + 1) (M + 1)) :: [])))) /\ j = M + 1 - k /\ k <= M + 1 /\ ∀ j, j < k -> rowT D (M + 1) j = rowT D2 (M + 1) j) 800 562949953421312 281474976710656 ?_ (j := _) (env2 := _) (A2 := _) ?_ ?_ ?_ ?_ ⟨0, rfl, rfl, rfl, Nat.zero_le _, (fun j hj => absurd hj (Nat.not_lt_zero j))⟩
         rotate_left
         ·omega
         ·omega
         ·exact (lc 0 J (lc 1 J (lc 12 J (lc 13 J Less.nil))))
         ·exact (.r (.q (.r (.q (List.sublist_append_of_sublist_right (.cons _ (List.sublist_append_of_sublist_right (.cons _ (.cons _ (List.sublist_append_of_sublist_right (.cons _ .slnil)))))))))))
         rintro n hn j _ _ ⟨k, rfl, rfl, rfl, hk, hst⟩;refine rS (kO J (Q6 J J (fun h29 => ?_) (fun h29 => ?_)))
         ·refine Q0 (rQ (Y0 J (Q1 (W0 (rQ (Y1 (rS (kM J J (kM J J (Q0 (rS (kM J J (kM J J (kO J (Y4 (j := k) J J (by omega) (by omega) (kO J (Z1 J (.app (.next (.app .here))) (sls_get (by omega) (by omega)) (kM J J (kM J J (kO J (Y4 (j := k) J J (by omega) (by omega) (kO J (Z1 J (.app .here) (sls_get (by omega) (by omega)) (kO J (Y5 J J (fun s1 h1 => Same2_s _ _ _ _ _ _ _ (rowT D (M + 1) k) (rowT D2 (M + 1) k) s1 h1.wf (by omega) rowT_len.symm rowT_len.symm (by rw [rowT_len, rowT_len]) (IntsE.own (h1.own (.app (.next (own_seg (by omega))))) (rowT_fit hS.fit (by omega)) (by rw [rowT_len]; omega)) (IntsE.own (h1.own (own_seg (by omega))) (rowT_fit hS2.fit (by omega)) (by rw [rowT_len]; omega))) (fun v1 A1 q1 => ?_))))))))))))))))))))))))))
          rcases q1 with ⟨hrr, rfl, rfl⟩ | ⟨hrr, rfl, rfl⟩
          ·rw [List.nil_append]
           refine kO J (U7 J (Q0 (Z0 J (Q1 (U1 (W0 (rI (kO J (Q4 J J (by omega) (kM J J (Q0 (W0 ?_))))))))))));exact ⟨rfl, _, _, _, (show M + 1 - (k + 1) < M + 1 - k by omega), (lc 0 J (lc 1 J (lc 12 J (lc 13 J Less.nil)))), (.r (.q (.r (.q .slnil)))), ⟨k + 1, rfl, rfl, rfl, by omega, (fun j hj => by by_cases e : j = k; exact e ▸ hrr; exact hst j (by omega))⟩⟩
          ·rw [List.nil_append]
           refine kO J (U7 J (Q0 (Y0 J (rS (kM J J (Q0 (Z3 (Y7 (V3 (V3 (Y7 (V3 (endD1 J .nil (kG J J (U7 J (kO J (Q3 J J J (kM J J (kG J J (a_callV J J (fun s1 h1 => known_s _ s1 h1.wf) (kO J (Q3 J J J (kM J J (Q0 (Z3 ?_)))))))))))))))))))))))));exact end1 J ⟨rfl, rfl⟩
         ·exfalso; exact idle_tab hlm hil hDT (hl2 ▸ hDT2) hd9 hi99 (rowT_at (hst _ (by have := (hN_of hlm i hil).1; omega)) (hN_of hlm i hil).2)
   ·obtain ⟨t, p, t2, p2, hOp, hOp2, hts, hts2, rfl, rfl⟩ := q1
    rw [List.nil_append];refine kM J J (kO J (Q2 J J (kO J (Q2 J J (kO J (Q2 J J (kM J J (kM J J (kM J J (Q0 (rS (kO J (U5 J (by decide) (.app .here) J (kM J J (kO J (Y5 J J (fun s1 h1 => Range_v _ M _ _ l2 _ _ w s1 h1.wf (by omega) (hQ2.rows (List.sublist_append_left _ _) h1 hLg2 (by omega) (by omega) hft2) hQ2.ncl (IntsE.own (h1.own (.app (.next (.app .here)))) hwf (by omega)) (cap_tight hTw (h1.own (.app (.next (.app .here)))) (by rw [ints_len]; omega)) hsys2 hwl hwo) (fun v1 A1 q1 => ?_)))))))))))))))));rcases q1 with ⟨hz1, rfl, rfl⟩ | ⟨hz1, hz2, rfl, rfl⟩ | ⟨hz1, q1⟩
    ·exact absurd hz1 hun2
    ·have hop2 := hz2
     rw [List.nil_append];refine kM J J (kO J (Q2 J J (kO J (Q2 J J (kO J (Q2 J J (kM J J (kM J J (kM J J (Q0 (rQ (rS (kM J J (kM J J (kO J (Y5 J J (fun s1 h1 => Has_s _ _ _ il (i : Int) s1 h1.wf (by omega) (hIl.rows (List.sublist_append_of_sublist_right (.cons _ (List.sublist_append_left _ _))) h1 (idle_rng hId (by omega)) (by have := hId.len; omega))) (fun v1 A1 q1 => ?_)))))))))))))))));rcases q1 with ⟨hmm, rfl, rfl⟩ | ⟨hmm, rfl, rfl⟩
     ·obtain ⟨d9, hd9, hi99⟩ := hId.yes i hil hmm
      have hkq : ∀ x, Kq ls x ↔ Kq l2 x := fun x => by rw [hl2]; exact idle_iff hlm hil hd9 hi99 x
      rcases hop2 with q9 | q9 <;> first | exact (opn_kq hlm (fun x => (hkq x).symm) q9 hOp).elim | exact (opn_kq hlm (fun x => (hkq x).symm) q9 hOp2).elim
     ·obtain ⟨d9, hd9, hi99⟩ := hId.no i hil hmm
      rw [List.nil_append];refine Q0 (Z0 J (Q1 (W0 (rS (kO J (U5 J (by decide) (.app (.next (.app (.next .here)))) J (kO J (Y5 J J (fun s1 h1 => Close_s _ (M : Int) _ _ ls s1 h1.wf (by omega) (hTL.rows (List.sublist_append_of_sublist_right (.cons _ (List.sublist_append_of_sublist_right (.cons _ (.cons _ (List.sublist_append_left _ _)))))) h1 hLg (by omega) (by omega) hft)) (fun v1 A1 q1 => ?_)))))))));rcases q1 with ⟨hc, rfl, rfl⟩ | ⟨hc, hc2, rfl, rfl⟩ | ⟨hc, hc2, q1⟩
      ·exact absurd hsys hc
      ·exact absurd hc2 hun
      ·obtain ⟨bt30, B31, D, rfl, rfl, hDT⟩ := q1
       change DT ls (M + 1) D at hDT;rw [List.append_assoc, List.singleton_append];rw [show ((M : Int).toNat) = M from rfl];obtain ⟨y, hy, hyb⟩ := set_pt hlm (show ls.length <= 400 by omega) hM hun;have hS := hDT.sm hy hyb;refine kM J J (kO J (Q2 J J (kO J (Q2 J J (kM J J (kM J J (Q0 (rS (kO J (U5 J (by decide) (.app (.next (.app .here))) J (kO J (Y5 J J (fun s1 h1 => Close_s _ (M : Int) _ _ l2 s1 h1.wf (by omega) (hQ2.rows (List.sublist_append_of_sublist_right (.cons _ (List.sublist_append_left _ _))) h1 hLg2 (by omega) (by omega) hft2)) (fun v1 A1 q1 => ?_)))))))))))));rcases q1 with ⟨hc, rfl, rfl⟩ | ⟨hc, hc2, rfl, rfl⟩ | ⟨hc, hc2, q1⟩
       ·exact absurd hsys2 hc
       ·exact absurd hc2 hun2
       ·obtain ⟨bt32, B33, D2, rfl, rfl, hDT2⟩ := q1
        change DT l2 (M + 1) D2 at hDT2;rw [List.append_assoc, List.singleton_append];rw [show ((M : Int).toNat) = M from rfl];obtain ⟨y2, hy2, hyb2⟩ := set_pt hlm2 (show l2.length <= 400 by omega) hM hun2;have hS2 := hDT2.sm hy2 hyb2;refine kM J J (kO J (Q2 J J (kO J (Q2 J J (kM J J (kM J J (Q0 (rS (kM J J (kO J (a_eql J J (fun _ => (kM J J (kG J J (Y3 J (kG J J (a_eql J J (fun _ => (kO J (Q3 J J J (kM J J (kG J J (Y3 J (kG J J (Y3 J (kG J J (a_inl J J bw24_at rfl ?_)))))))))) (fun h => absurd h (by decide)))))))) (fun h => absurd h (by decide)))))))))))));unfold bw24;refine rS (kM J J (Q0 (rQ (rS (kM J J (kO J (a_len J (kM J J (kO J (a_len J (kO J (Z4 J J (fun h36 => ?_) (fun h36 => ?_)))))))))))))
        ·exact absurd rfl h36
        ·refine Q0 (Z0 J (Q1 (W0 (rQ (rS (kM J J (kO J (a_len J (kM J J (Q0 (Y1 ?_)))))))))))
         refine Z5 (fun j e A => ∃ (k : Nat), e = [(0, .slice (some ⟨bt30, 0, none⟩) (M + 1) (M + 1)), (1, .slice (some ⟨bt32, 0, none⟩) (M + 1) (M + 1)), (12, .int .i64 ((M + 1 : Nat) : Int)), (13, .int .i64 (k : Int))] /\ A = (seg B33 (M + 1) D2 (M + 1) ++ (.row bt32 25 false (slsT B33 (M + 1) (M + 1) (M + 1)) :: (seg B31 (M + 1) D (M + 1) ++ (.row bt30 25 false (slsT B31 (M + 1) (M + 1) (M + 1)) :: [])))) /\ j = M + 1 - k /\ k <= M + 1 /\ ∀ j, j < k -> rowT D (M + 1) j = rowT D2 (M + 1) j) 800 562949953421312 281474976710656 ?_ (j := _) (env2 := _) (A2 := _) ?_ ?_ ?_ ?_ ⟨0, rfl, rfl, rfl, Nat.zero_le _, (fun j hj => absurd hj (Nat.not_lt_zero j))⟩
         rotate_left
         ·omega
         ·omega
         ·exact (lc 0 J (lc 1 J (lc 12 J (lc 13 J Less.nil))))
         ·exact (.r (.q (.r (.q (List.sublist_append_of_sublist_right (.cons _ (List.sublist_append_of_sublist_right (.cons _ (.cons _ (List.sublist_append_of_sublist_right (.cons _ .slnil)))))))))))
         rintro n hn j _ _ ⟨k, rfl, rfl, rfl, hk, hst⟩;refine rS (kO J (Q6 J J (fun h37 => ?_) (fun h37 => ?_)))
         ·refine Q0 (rQ (Y0 J (Q1 (W0 (rQ (Y1 (rS (kM J J (kM J J (Q0 (rS (kM J J (kM J J (kO J (Y4 (j := k) J J (by omega) (by omega) (kO J (Z1 J (.app (.next (.app .here))) (sls_get (by omega) (by omega)) (kM J J (kM J J (kO J (Y4 (j := k) J J (by omega) (by omega) (kO J (Z1 J (.app .here) (sls_get (by omega) (by omega)) (kO J (Y5 J J (fun s1 h1 => Same2_s _ _ _ _ _ _ _ (rowT D (M + 1) k) (rowT D2 (M + 1) k) s1 h1.wf (by omega) rowT_len.symm rowT_len.symm (by rw [rowT_len, rowT_len]) (IntsE.own (h1.own (.app (.next (own_seg (by omega))))) (rowT_fit hS.fit (by omega)) (by rw [rowT_len]; omega)) (IntsE.own (h1.own (own_seg (by omega))) (rowT_fit hS2.fit (by omega)) (by rw [rowT_len]; omega))) (fun v1 A1 q1 => ?_))))))))))))))))))))))))))
          rcases q1 with ⟨hrr, rfl, rfl⟩ | ⟨hrr, rfl, rfl⟩
          ·rw [List.nil_append]
           refine kO J (U7 J (Q0 (Z0 J (Q1 (U1 (W0 (rI (kO J (Q4 J J (by omega) (kM J J (Q0 (W0 ?_))))))))))));exact ⟨rfl, _, _, _, (show M + 1 - (k + 1) < M + 1 - k by omega), (lc 0 J (lc 1 J (lc 12 J (lc 13 J Less.nil)))), (.r (.q (.r (.q .slnil)))), ⟨k + 1, rfl, rfl, rfl, by omega, (fun j hj => by by_cases e : j = k; exact e ▸ hrr; exact hst j (by omega))⟩⟩
          ·rw [List.nil_append]
           refine kO J (U7 J (Q0 (Y0 J (rS (kM J J (Q0 (Z3 (Y7 (V3 (V3 (Y7 (V3 (endD1 J .nil (kG J J (U7 J (kO J (Q3 J J J (kM J J (kG J J (a_callV J J (fun s1 h1 => known_s _ s1 h1.wf) (kO J (Q3 J J J (kM J J (Q0 (Z3 ?_)))))))))))))))))))))))));exact end1 J ⟨rfl, rfl⟩
         ·exfalso; exact idle_tab hlm hil hDT (hl2 ▸ hDT2) hd9 hi99 (rowT_at (hst _ (by have := (hN_of hlm i hil).1; omega)) (hN_of hlm i hil).2)
    ·obtain ⟨u, q, u2, q2, hOu, hOu2, hus, hus2, rfl, rfl⟩ := q1
     rw [List.nil_append];refine kM J J (kO J (Q2 J J (kO J (Q2 J J (kO J (Q2 J J (kM J J (kM J J (kM J J (Q0 (rQ (rS (kM J J (kM J J (kO J (Y5 J J (fun s1 h1 => Has_s _ _ _ il (i : Int) s1 h1.wf (by omega) (hIl.rows (List.sublist_append_of_sublist_right (.cons _ (List.sublist_append_left _ _))) h1 (idle_rng hId (by omega)) (by have := hId.len; omega))) (fun v1 A1 q1 => ?_)))))))))))))))));rcases q1 with ⟨hmm, rfl, rfl⟩ | ⟨hmm, rfl, rfl⟩
     ·obtain ⟨d9, hd9, hi99⟩ := hId.yes i hil hmm
      have hkq : ∀ x, Kq ls x ↔ Kq l2 x := fun x => by rw [hl2]; exact idle_iff hlm hil hd9 hi99 x
      have e1 := opt_kq hlm hlm2 hkq hOp hOu;have e2 := opt_kq hlm hlm2 hkq hOp2 hOu2;rw [List.nil_append];refine Q0 (Y0 J (rS (kM J J (kM J J (kO J (a_eql J J (fun _ => (kM J J (kG J J (Y3 J (kG J J (Y3 J (kG J J (a_eql J J (fun h39 => ?_) (fun h39 => ?_))))))))) (fun h => absurd h (by decide))))))))
      ·refine kO J (Q3 J J J (kM J J (kG J J (Y3 J (kG J J (Y3 J (kG J J (a_eql J J (fun h40 => ?_) (fun h40 => ?_)))))))))
       ·refine kO J (Q3 J J J (kM J J (kG J J (a_callV J J (fun s1 h1 => known_s _ s1 h1.wf) (kO J (Q3 J J J (kM J J (Q0 (Z3 (V3 ?_))))))))))
        exact end1 J ⟨rfl, rfl⟩
       ·exfalso; omega
      ·exfalso; omega
     ·obtain ⟨d9, hd9, hi99⟩ := hId.no i hil hmm
      rw [List.nil_append];refine Q0 (Z0 J (Q1 (W0 (rS (kO J (U5 J (by decide) (.app (.next (.app (.next .here)))) J (kO J (Y5 J J (fun s1 h1 => Close_s _ (M : Int) _ _ ls s1 h1.wf (by omega) (hTL.rows (List.sublist_append_of_sublist_right (.cons _ (List.sublist_append_of_sublist_right (.cons _ (.cons _ (List.sublist_append_left _ _)))))) h1 hLg (by omega) (by omega) hft)) (fun v1 A1 q1 => ?_)))))))));rcases q1 with ⟨hc, rfl, rfl⟩ | ⟨hc, hc2, rfl, rfl⟩ | ⟨hc, hc2, q1⟩
      ·exact absurd hsys hc
      ·exact absurd hc2 hun
      ·obtain ⟨bt41, B42, D, rfl, rfl, hDT⟩ := q1
       change DT ls (M + 1) D at hDT;rw [List.append_assoc, List.singleton_append];rw [show ((M : Int).toNat) = M from rfl];obtain ⟨y, hy, hyb⟩ := set_pt hlm (show ls.length <= 400 by omega) hM hun;have hS := hDT.sm hy hyb;refine kM J J (kO J (Q2 J J (kO J (Q2 J J (kM J J (kM J J (Q0 (rS (kO J (U5 J (by decide) (.app (.next (.app .here))) J (kO J (Y5 J J (fun s1 h1 => Close_s _ (M : Int) _ _ l2 s1 h1.wf (by omega) (hQ2.rows (List.sublist_append_of_sublist_right (.cons _ (List.sublist_append_left _ _))) h1 hLg2 (by omega) (by omega) hft2)) (fun v1 A1 q1 => ?_)))))))))))));rcases q1 with ⟨hc, rfl, rfl⟩ | ⟨hc, hc2, rfl, rfl⟩ | ⟨hc, hc2, q1⟩
       ·exact absurd hsys2 hc
       ·exact absurd hc2 hun2
       ·obtain ⟨bt43, B44, D2, rfl, rfl, hDT2⟩ := q1
        change DT l2 (M + 1) D2 at hDT2;rw [List.append_assoc, List.singleton_append];rw [show ((M : Int).toNat) = M from rfl];obtain ⟨y2, hy2, hyb2⟩ := set_pt hlm2 (show l2.length <= 400 by omega) hM hun2;have hS2 := hDT2.sm hy2 hyb2;refine kM J J (kO J (Q2 J J (kO J (Q2 J J (kM J J (kM J J (Q0 (rS (kM J J (kO J (a_eql J J (fun _ => (kM J J (kG J J (Y3 J (kG J J (a_eql J J (fun _ => (kO J (Q3 J J J (kM J J (kG J J (Y3 J (kG J J (Y3 J (kG J J (a_inl J J bw24_at rfl ?_)))))))))) (fun h => absurd h (by decide)))))))) (fun h => absurd h (by decide)))))))))))));unfold bw24;refine rS (kM J J (Q0 (rQ (rS (kM J J (kO J (a_len J (kM J J (kO J (a_len J (kO J (Z4 J J (fun h47 => ?_) (fun h47 => ?_)))))))))))))
        ·exact absurd rfl h47
        ·refine Q0 (Z0 J (Q1 (W0 (rQ (rS (kM J J (kO J (a_len J (kM J J (Q0 (Y1 ?_)))))))))))
         refine Z5 (fun j e A => ∃ (k : Nat), e = [(0, .slice (some ⟨bt41, 0, none⟩) (M + 1) (M + 1)), (1, .slice (some ⟨bt43, 0, none⟩) (M + 1) (M + 1)), (12, .int .i64 ((M + 1 : Nat) : Int)), (13, .int .i64 (k : Int))] /\ A = (seg B44 (M + 1) D2 (M + 1) ++ (.row bt43 25 false (slsT B44 (M + 1) (M + 1) (M + 1)) :: (seg B42 (M + 1) D (M + 1) ++ (.row bt41 25 false (slsT B42 (M + 1) (M + 1) (M + 1)) :: [])))) /\ j = M + 1 - k /\ k <= M + 1 /\ ∀ j, j < k -> rowT D (M + 1) j = rowT D2 (M + 1) j) 800 562949953421312 281474976710656 ?_ (j := _) (env2 := _) (A2 := _) ?_ ?_ ?_ ?_ ⟨0, rfl, rfl, rfl, Nat.zero_le _, (fun j hj => absurd hj (Nat.not_lt_zero j))⟩
         rotate_left
         ·omega
         ·omega
         ·exact (lc 0 J (lc 1 J (lc 12 J (lc 13 J Less.nil))))
         ·exact (.r (.q (.r (.q (List.sublist_append_of_sublist_right (.cons _ (List.sublist_append_of_sublist_right (.cons _ (.cons _ (List.sublist_append_of_sublist_right (.cons _ .slnil)))))))))))
         rintro n hn j _ _ ⟨k, rfl, rfl, rfl, hk, hst⟩;refine rS (kO J (Q6 J J (fun h48 => ?_) (fun h48 => ?_)))
         ·refine Q0 (rQ (Y0 J (Q1 (W0 (rQ (Y1 (rS (kM J J (kM J J (Q0 (rS (kM J J (kM J J (kO J (Y4 (j := k) J J (by omega) (by omega) (kO J (Z1 J (.app (.next (.app .here))) (sls_get (by omega) (by omega)) (kM J J (kM J J (kO J (Y4 (j := k) J J (by omega) (by omega) (kO J (Z1 J (.app .here) (sls_get (by omega) (by omega)) (kO J (Y5 J J (fun s1 h1 => Same2_s _ _ _ _ _ _ _ (rowT D (M + 1) k) (rowT D2 (M + 1) k) s1 h1.wf (by omega) rowT_len.symm rowT_len.symm (by rw [rowT_len, rowT_len]) (IntsE.own (h1.own (.app (.next (own_seg (by omega))))) (rowT_fit hS.fit (by omega)) (by rw [rowT_len]; omega)) (IntsE.own (h1.own (own_seg (by omega))) (rowT_fit hS2.fit (by omega)) (by rw [rowT_len]; omega))) (fun v1 A1 q1 => ?_))))))))))))))))))))))))))
          rcases q1 with ⟨hrr, rfl, rfl⟩ | ⟨hrr, rfl, rfl⟩
          ·rw [List.nil_append]
           refine kO J (U7 J (Q0 (Z0 J (Q1 (U1 (W0 (rI (kO J (Q4 J J (by omega) (kM J J (Q0 (W0 ?_))))))))))));exact ⟨rfl, _, _, _, (show M + 1 - (k + 1) < M + 1 - k by omega), (lc 0 J (lc 1 J (lc 12 J (lc 13 J Less.nil)))), (.r (.q (.r (.q .slnil)))), ⟨k + 1, rfl, rfl, rfl, by omega, (fun j hj => by by_cases e : j = k; exact e ▸ hrr; exact hst j (by omega))⟩⟩
          ·rw [List.nil_append]
           refine kO J (U7 J (Q0 (Y0 J (rS (kM J J (Q0 (Z3 (Y7 (V3 (V3 (Y7 (V3 (endD1 J .nil (kG J J (U7 J (kO J (Q3 J J J (kM J J (kG J J (a_callV J J (fun s1 h1 => known_s _ s1 h1.wf) (kO J (Q3 J J J (kM J J (Q0 (Z3 ?_)))))))))))))))))))))))));exact end1 J ⟨rfl, rfl⟩
         ·exfalso; exact idle_tab hlm hil hDT (hl2 ▸ hDT2) hd9 hi99 (rowT_at (hst _ (by have := (hN_of hlm i hil).1; omega)) (hN_of hlm i hil).2)
end
end Ev
end Go.Proofs.Ytoeklhdklcpllaa
namespace Go.Proofs.Ytoeklhdklcpllaa.Ev
open Go Go.RowKit Go.ChangeShapes Go.WideShapes Go.ChangeAt Go.Joins
set_option linter.unusedVariables false
noncomputable section
theorem ints_of {s : St} {a : Option Addr} {rs : List (List Int)} (h : RowsE s 1 a rs) : IntsE s a (rs.map fun r => r.getD 0 0) := by
 have hr : ∀ r ∈ rs, r = [r.getD 0 0] := fun r hr => by
  have := h.width r hr
  match r, this with
  | [z], _ => rfl
 refine ⟨h.spot, fun hn => h.addr (by rintro rfl; exact hn rfl), fun b o ha => ?_, fun x hx => ?_, by rw [List.length_map]; exact h.len⟩
 ·have key : ∀ (l : List (List Int)) (k : Nat), (∀ i r, l[i]? = some r -> Ats s b (o + (k + i) * 1) (r.map (.int .i64))) -> (∀ r ∈ l, r = [r.getD 0 0]) -> Ats s b (o + k) (ints (l.map fun r => r.getD 0 0)) := by
   intro l
   induction l with
   | nil => intro k _ _; exact trivial
   | cons r l ih =>
    intro k h1 h2;have q := h1 0 r rfl;rw [h2 r (by simp)] at q;refine ⟨?_, ?_⟩
    ·have := q.1; simpa using this
    ·have := ih (k + 1) (fun i r' hr' => by have := h1 (i + 1) r' (by simpa using hr'); rwa [show k + (i + 1) = k + 1 + i by omega] at this) (fun r' hr' => h2 r' (by simp [hr']))
     rwa [show o + (k + 1) = o + k + 1 by omega] at this
  have := key rs 0 (fun i r hr' => by rw [Nat.zero_add]; exact h.cells b o ha i r hr') hr;simpa using this
 ·obtain ⟨r, h1, rfl⟩ := List.mem_map.1 hx
  have h2 := h.fit r h1;rw [hr r h1] at h2 ⊢;exact h2 _ (by simp)
set_option maxRecDepth 100000 in
theorem open_int {H : Type} {enc : TypeId × Value -> H} {W : World} {r : Reach} {b0 : Nat} {v : Value} {d : DataW H} {p : List MemPlace} (h : DataW.Trod enc Try.prog W 0 (fun _ => true) true 3 v d p) (hv : Value.okWide Try.prog W r b0 3 v) : ∃ z, v = .int .i64 z := by
 obtain ⟨fuel, hf⟩ := h;have hk : v.cells.toList = [v] := by
  simp only [Value.okWide, Try.underlying3] at hv;unfold Cell.okWide at hv;rw [Try.underlying3] at hv;unfold Cell.ok at hv;rw [Try.underlying3] at hv;cases v <;> first | rfl | exact absurd hv id
 rw [hk] at hf;obtain ⟨l, q, ql, _⟩ := intCells_int (P := Try.prog) Try.underlying3 hf
 match l, ql with
 | [z], _ => exact ⟨z, by simpa using q⟩
set_option maxRecDepth 100000 in
theorem open_islice {H : Type} {enc : TypeId × Value -> H} {W : World} {r : Reach} {b0 : Nat} {v : Value} {d : DataW H} {p : List MemPlace} (hv : Value.okWide Try.prog W r b0 25 v) (h : DataW.Trod enc Try.prog W 0 (fun _ => true) true 25 v d p) (hz : ∀ x ∈ DataW.weights Try.prog 25 d, x <= reachBytes) :
 ∃ a n c r, v = .slice a n c /\ r.length = n /\ NiceS W a n c /\ RowsE (wst W) 1 a r := by
 obtain ⟨fuel, hf⟩ := h;simp only [Value.okWide, Try.underlying25] at hv;obtain ⟨a, n, c, rfl, hN⟩ := cell_niceS Try.underlying25 hv;obtain ⟨rs, f, k, _⟩ := rowsW (w := 1) (bytes := 8) Try.underlying25 (by kernel_rfl) (by decide) (by kernel_rfl) (by decide) (intCells_int Try.underlying3) hN (by simpa [Value.cells] using hf) hz;exact ⟨a, n, c, rs, rfl, f, hN, k⟩
end
end Go.Proofs.Ytoeklhdklcpllaa.Ev
namespace Go.Proofs.Ytoeklhdklcpllaa.Ev
open Go Go.RowKit Go.ChangeShapes Go.WideShapes Go.ChangeAt Go.Joins
set_option linter.unusedVariables false
noncomputable section
set_option maxRecDepth 100000 in
theorem int_four {H : Type} {enc : TypeId × Value -> H} {W : World} : IntCells H Try.prog enc W 26 4 := by
 intro base fuel sp held cs x h;obtain ⟨xs, m, _, _, hl, hxl, hxi⟩ := DataW.trod_array Try.underlying26 h;have e3 : Try.prog.cellsOf 26 = 4 := by kernel_rfl
 have e4 : Try.prog.cellsOf 3 = 1 := by kernel_rfl
 rw [e3] at hl
 match cs, hl with
 | [c0, c1, c2, c3], _ =>
  have g0 := hxi 0 (by omega);rw [e4] at g0;have g1 := hxi 1 (by omega);rw [e4] at g1;have g2 := hxi 2 (by omega);rw [e4] at g2;have g3 := hxi 3 (by omega);rw [e4] at g3
  match xs, hxl with
  | [y0, y1, y2, y3], _ =>
   obtain ⟨z0, q0, _, w0⟩ := DataW.trod_int Try.underlying3 (show DataW.trod enc Try.prog W base sp held m 3 [c0] = some y0 from g0);obtain ⟨z1, q1, _, w1⟩ := DataW.trod_int Try.underlying3 (show DataW.trod enc Try.prog W base sp held m 3 [c1] = some y1 from g1);obtain ⟨z2, q2, _, w2⟩ := DataW.trod_int Try.underlying3 (show DataW.trod enc Try.prog W base sp held m 3 [c2] = some y2 from g2);obtain ⟨z3, q3, _, w3⟩ := DataW.trod_int Try.underlying3 (show DataW.trod enc Try.prog W base sp held m 3 [c3] = some y3 from g3);simp at q0 q1 q2 q3;subst q0; subst q1; subst q2; subst q3;exact ⟨[z0, z1, z2, z3], rfl, rfl, fun z hz => by simp at hz; rcases hz with rfl | rfl | rfl | rfl <;> first | exact wf_I64 w0 | exact wf_I64 w1 | exact wf_I64 w2 | exact wf_I64 w3⟩
set_option maxRecDepth 100000 in
set_option maxHeartbeats 2000000 in
theorem open_raw {H : Type} {enc : TypeId × Value -> H} {W : World} {r : Reach} {b0 : Nat} {v : Value} {d : DataW H} {p : List MemPlace} (hv : Value.okWide Try.prog W r b0 24 v) (h : DataW.Trod enc Try.prog W 0 (fun _ => true) true 24 v d p) (hz : ∀ x ∈ DataW.weights Try.prog 24 d, x <= reachBytes) :
 ∃ z0 a1 n1 c1 r1, v = .agg #[.int .i64 z0, .slice a1 n1 c1] /\ r1.length = n1 /\ NiceS W a1 n1 c1 /\ RowsE (wst W) 4 a1 r1 := by
 obtain ⟨fuel, hf⟩ := h;simp only [Value.okWide, Try.underlying24] at hv;obtain ⟨cs, rfl, hsz, ts, hts, _, hc⟩ := hv;have e2 : Try.prog.cellTypes Try.prog.depth 24 = some [3, 22] := by kernel_rfl
 rw [e2] at hts;cases hts;have e3 : Try.prog.cellsOf 24 = 2 := by kernel_rfl
 rw [e3] at hsz;obtain ⟨l⟩ := cs
 match l, hsz with
 | [x0, x1], _ =>
  have u0 : ∃ t, [3, 22][0]? = some t /\ Cell.okWide Try.prog W r b0 t x0 := by
   obtain ⟨t, h1, h2⟩ := hc 0 x0 rfl;exact ⟨t, h1, h2⟩
  obtain ⟨t0, e0, w0⟩ := u0;have : t0 = 3 := by simpa using e0.symm
  subst this;have u1 : ∃ t, [3, 22][1]? = some t /\ Cell.okWide Try.prog W r b0 t x1 := by
   obtain ⟨t, h1, h2⟩ := hc 1 x1 rfl;exact ⟨t, h1, h2⟩
  obtain ⟨t1, e1, w1⟩ := u1;have : t1 = 22 := by simpa using e1.symm
  subst this;obtain ⟨xs, m, _, hx, _, hlen, hfs⟩ := DataW.trod_struct Try.underlying24 hf;have hd : d = .agg (xs.map (·.1)) := by simpa using congrArg Prod.fst hx
  have g_0 : ∃ y, xs[0]? = some y /\ DataW.trod enc Try.prog W 0 (fun _ => true) true m 3 [x0] = some y := by
   have hy : ∃ y, xs[0]? = some y := ⟨xs[0]'(by rw [hlen]; decide), List.getElem?_eq_getElem _⟩;obtain ⟨y, hy⟩ := hy;have h4 := hfs 0 _ rfl;rw [hy] at h4;have e4 : Try.prog.cellsOf 3 = 1 := by kernel_rfl
   exact ⟨y, hy, by simpa [e4, Value.cells] using h4⟩
  obtain ⟨⟨d_0, p_0⟩, gy_0, g_0⟩ := g_0;obtain ⟨l_0, q_0, ql_0, _⟩ := intCells_int (P := Try.prog) Try.underlying3 g_0;obtain ⟨z0, rfl⟩ : ∃ z, l_0 = [z] := by
   match l_0, ql_0 with
   | [z], _ => exact ⟨z, rfl⟩
  simp at q_0;subst q_0;have g_1 : ∃ y, xs[1]? = some y /\ DataW.trod enc Try.prog W 0 (fun _ => true) true m 22 [x1] = some y := by
   have hy : ∃ y, xs[1]? = some y := ⟨xs[1]'(by rw [hlen]; decide), List.getElem?_eq_getElem _⟩;obtain ⟨y, hy⟩ := hy;have h4 := hfs 1 _ rfl;rw [hy] at h4;have e4 : Try.prog.cellsOf 22 = 1 := by kernel_rfl
   exact ⟨y, hy, by simpa [e4, Value.cells] using h4⟩
  obtain ⟨⟨d_1, p_1⟩, gy_1, g_1⟩ := g_1;obtain ⟨a1, n1, c1, rfl, hN1⟩ := cell_niceS Try.underlying22 w1;have hz_1 : ∀ x ∈ DataW.weights Try.prog 22 d_1, x <= reachBytes := fun x hx' => hz x (by
   rw [hd];simp only [DataW.weights, Try.underlying24];exact DataW.weights_mem_each (j := 1) (t := 22) J (by rw [List.getElem?_map, gy_1]; rfl) x hx')
  obtain ⟨r1, f1, k1, _⟩ := rowsW (w := 4) (bytes := 32) Try.underlying22 (by kernel_rfl) (by decide) (by kernel_rfl) (by decide) int_four hN1 g_1 hz_1;exact ⟨z0, a1, n1, c1, r1, rfl, f1, hN1, k1⟩
end
end Go.Proofs.Ytoeklhdklcpllaa.Ev
namespace Go.Proofs.Ytoeklhdklcpllaa
open Go Go.RowKit
namespace Ev
set_option maxRecDepth 1000000 in
theorem sane_yes : yesK Try.prog tabw 3000 12 = true := by kernel_rfl
end Ev
theorem sane_w (w : World) : Calls Try.prog 12 #[] w fun e w' => e = .returned (.bool true) /\ Below w.heap.size w w' := Ev.yes_ok Ev.tabw_holds Ev.sane_yes w
end Go.Proofs.Ytoeklhdklcpllaa
