import Derived.Test.YtoeklhdklcpllaaGreatZe17
set_option linter.unusedVariables false
set_option linter.unusedSimpArgs false
namespace Go.Proofs.YtoeklhdklcpllaaGreat
open Go Go.RowKit
namespace Ev
section
variable {X : FuncId -> List Value -> St -> (Value -> St -> Bool) -> Bool}
set_option maxHeartbeats 2000000 in
theorem least_s (n : Nat) (ls : List (List Int)) (bm om M : Nat) (m : Nat -> Nat -> Int) (y : Nat -> Int) (aw : Option Addr) (cw : Nat) (w : List Int) (s : St) (hs : Wf s) (hn : 2814749767106560 <= n) (hM : M <= 64) (hl : lmB (M : Int) ls = true) (hD : DT ls (M + 1) m) (hm : MT m (M + 1)) (hs0 : LS m (M + 1) (du0 w M) (du0 w M) Z0 y) (hm9 : TabE s bm om (M + 1) m) (hW : IntsE s aw w) (hCap : CapOk s aw w.length cw) (hwl : w.length = M + 1) (hwo : WOk w w.length) : Spec Tryz.prog (tabK tabw) X (n + 8000) 88 [.slice (some ⟨bm, om, none⟩) (M + 1) (M + 1), .slice aw w.length cw] s (fun v A => (∃ z, v = .tuple #[.int .i64 (wq z), .bool true] /\ A = [] /\ IsM ls M (du0 w M) z) ∨ (∃ z, v = .tuple #[.int .i64 z, .bool false] /\ A = [] /\ Opn ls (M + 1) (du0 w M))) := by
 refine enter bw88_at rfl hs ?_;unfold bw88;refine rS (kM J J (kM J J (Q0 (rS (kM J J (kO J (Y5 J J (fun s1 h1 => balance_s _ M aw cw w s1 h1.wf (by omega) hM (hW.ext hs h1.2.1) (hCap.ext hs h1.2.1) hwl hwo) (fun v1 A1 q1 => ?_))))))));obtain ⟨b1, rfl, rfl⟩ := q1;refine kM J J (Q0 (rS (kM J J (kO J (a_len J (kO J (a_mks1 (m := M + 1) (c := M + 1) J J (by omega) (by omega) (by omega) (fun b2 => (kM J J (Q0 (rQ (rS (kM J J (kO J (a_len J (kM J J (Q0 (Z1 ?_))))))))))))))))));rw [sls_zero (B := fun _ => 0) (n := M + 1)];refine Z5 (fun j e A => ∃ (i : Nat) (B : Nat -> Nat), e = [(0, .slice (some ⟨bm, om, none⟩) (M + 1) (M + 1)), (6, .slice (some ⟨b1, 0, none⟩) (M + 1) OPEN), (7, .slice (some ⟨b2, 0, none⟩) (M + 1) (M + 1)), (26, .int .i64 ((M + 1 : Nat) : Int)), (27, .int .i64 (i : Int))] /\ A = (seg B (M + 1) Z0 i ++ (.row b2 25 false (slsT B (M + 1) i (M + 1)) :: (.row b1 3 true (ints (xs (du0 w M) (M + 1))) :: []))) /\ j = M + 1 - i /\ i <= M + 1) 300 0 281474976710656 ?_ (j := _) (env2 := _) (A2 := _) ?_ ?_ ?_ ?_ ⟨0, fun _ => 0, rfl, rfl, rfl, Nat.zero_le _⟩
 rotate_left
 ·omega
 ·omega
 ·exact (lc 0 J (lc 6 J (lc 7 J (lc 26 J (lc 27 J Less.nil)))))
 ·exact (.q (.q .slnil))
 rintro n hn j _ _ ⟨i, B, rfl, rfl, rfl, hi⟩;refine rS (kO J (Q6 J J (fun h3 => ?_) (fun h3 => ?_)))
 ·refine Q0 (rQ (Y0 J (W1 (W0 (rQ (Z1 (rS (kM J J (kM J J (Q0 (rI (kM J J (kM J J (kM J J (kO J (a_len J (kO J (a_mksZ (m := M + 1) J J (by omega) (by omega) (by omega) (fun b4 => (kO J (Y4 (j := i) J J (by omega) (by omega) (kZ J (a_st J J (by rw [sls_set]; exact (.next (.app .here))) (by rw [Nat.blt_eq, sls_len]; omega) J (Q0 (V1 (W0 (rI (kO J (Q4 J J (by omega) ?_)))))))))))))))))))))))))))))
  refine kM J J (Q0 (W0 ?_));exact ⟨rfl, _, _, _, (show M + 1 - (i + 1) < M + 1 - i by omega), (lc 0 J (lc 6 J (lc 7 J (lc 26 J (lc 27 J Less.nil))))), (.q (.r (.q (.q .slnil)))), ⟨i + 1, updB B i b4, rfl, seg_nil, rfl, by omega⟩⟩
 ·refine Q0 (rQ (U0 J (W5 (W3 (W3 (U3 (W0 (Z1 ?_))))))))
  have hiM : i = M + 1 := by omega
  subst hiM;refine Z5 (fun j e A => ∃ (need p : Nat -> Int) (F : Nat -> Nat -> Int), e = [(0, .slice (some ⟨bm, om, none⟩) (M + 1) (M + 1)), (6, .slice (some ⟨b1, 0, none⟩) (M + 1) OPEN), (7, .slice (some ⟨b2, 0, none⟩) (M + 1) (M + 1))] /\ A = (seg B (M + 1) F (M + 1) ++ (.row b2 25 false (slsT B (M + 1) (M + 1) (M + 1)) :: (.row b1 3 true (ints (xs need (M + 1))) :: []))) /\ j = (pos need (M + 1)).toNat /\ LS m (M + 1) (du0 w M) need F p) 6000 2251799813685248 281474976710656 ?_ (j := _) (env2 := _) (A2 := _) ?_ ?_ ?_ ?_ ⟨(du0 w M), y, Z0, rfl, rfl, rfl, hs0⟩
  rotate_left
  ·omega
  ·(have := (du_pos hwl hwo).1; show (posS (du0 w M) (M + 1)).toNat <= _; omega)
  ·exact (lc 0 J (lc 6 J (lc 7 J Less.nil)))
  ·exact (.r (.q (.q .slnil)))
  rintro n hn j _ _ ⟨need, p, F, rfl, rfl, rfl, hLS⟩;refine Z1 (rS (kM J J (kM J J (kM J J (kO J (Y5 J J (fun s1 h1 => reach_s _ bm om b2 0 b1 0 OPEN (M + 1) m F (du0 w M) need p s1 h1.wf (by omega) (by omega) hm hLS (hm9.ext hs h1.2.1) (TabE.own h1 (.app .here) (fun i hi => (own_seg hi))) (VecE.own h1 (.app (.next .here)))) (fun v1 A1 q1 => ?_)))))));obtain ⟨b5, b6, x, f, bk, T, c, rfl, rfl, hRf⟩ := q1;have hLS2 := hLS.reach hm (by omega) hRf;rw [List.cons_append, List.cons_append, List.nil_append];refine kM J J (kO J (W2 J J (kO J (W2 J J (kM J J (kM J J (Q0 (rS (kM J J (Q0 (rS (kM J J (Q0 (rQ (rS (kM J J (kO J (a_len J (kM J J (Q0 (Z1 ?_)))))))))))))))))))));refine Z5 (fun j e A => ∃ (kv : Nat) (to : Int) (lf : Bool), e = [(0, .slice (some ⟨bm, om, none⟩) (M + 1) (M + 1)), (6, .slice (some ⟨b1, 0, none⟩) (M + 1) OPEN), (7, .slice (some ⟨b2, 0, none⟩) (M + 1) (M + 1)), (9, .slice (some ⟨b5, 0, none⟩) (M + 1) (M + 1)), (10, .slice (some ⟨b6, 0, none⟩) (M + 1) (M + 1)), (11, .int .i64 to), (12, .bool lf), (44, .slice (some ⟨b1, 0, none⟩) (M + 1) OPEN), (45, .int .i64 ((M + 1 : Nat) : Int)), (46, .int .i64 (kv : Int))] /\ A = (.row b6 124 false (stc f bk (M + 1)) :: (.row b5 3 false (ints (xs x (M + 1))) :: (seg B (M + 1) F (M + 1) ++ (.row b2 25 false (slsT B (M + 1) (M + 1) (M + 1)) :: (.row b1 3 true (ints (xs need (M + 1))) :: []))))) /\ j = M + 1 - kv /\ kv <= M + 1 /\ Se (M + 1) need x kv to lf) 300 0 281474976710656 ?_ (j := _) (env2 := _) (A2 := _) ?_ ?_ ?_ ?_ ⟨0, -1, false, rfl, rfl, rfl, Nat.zero_le _, Se.zero⟩
  rotate_left
  ·omega
  ·omega
  ·exact (lc 0 J (lc 6 J (lc 7 J (lc 9 J (lc 10 J (lc 11 J (lc 12 J (lc 44 J (lc 45 J (lc 46 J Less.nil))))))))))
  ·exact (.q (.q (.r (.q (.q .slnil)))))
  rintro n hn j _ _ ⟨kv, to, lf, rfl, rfl, rfl, hkv, hSe⟩;refine rS (kO J (Q6 J J (fun h7 => ?_) (fun h7 => ?_)))
  ·refine Q0 (rQ (Y0 J (W1 (W0 (rQ (Z1 (rS (kM J J (kO J (Y4 (j := kv) J J (by omega) (by omega) (kO J (V5 (x := (need) (kv)) J (.next (.next (.app (.next .here)))) (by rw [W4]; omega) (V4 (by omega)) (kM J J (kM J J (Q0 (rS (kM J J ?_)))))))))))))))))
   cases lf
   ·refine kM J J (kG J J (Y3 J (kG J J (a_gtr J J (fun h8 => ?_) (fun h8 => ?_)))))
    ·refine kO J (Q2 J J J (kM J J (Q0 (rS (kM J J (kO J (a_gtr J J (fun h9 => ?_) (fun h9 => ?_))))))))
     ·refine kM J J (kG J J (Y3 J (kG J J (Y3 J (kG J J (Y4 (j := kv) J J (by omega) (by omega) (kG J J (V5 (x := (x) (kv)) J (.next .here) (by rw [W4]; omega) (V4 (by omega)) (kG J J (Z4 J J (fun h10 => ?_) (fun h10 => ?_)))))))))))
      ·refine kO J (Q3 J J J (kM J J (kG J J (Y3 J (kG J J (Q6 J J (fun h11 => ?_) (fun h11 => ?_)))))))
       ·refine kG J J (Y3 J (V0 J J (V0 J J (V0 J J (V0 J J (V0 J J (V0 J J (V0 J J (V0 J J (V0 J J (kG J J (Q3 J J J (kO J (Q3 J J J (Q0 (Y0 J (rI (kM J J (kM J J (Q0 (V1 (W0 (rI (kO J (Q4 J J (by omega) (kM J J (Q0 ?_)))))))))))))))))))))))))))
        refine W0 ?_;exact ⟨rfl, _, _, _, (show M + 1 - (kv + 1) < M + 1 - kv by omega), (lc 0 J (lc 6 J (lc 7 J (lc 9 J (lc 10 J (lc 11 J (lc 12 J (lc 44 J (lc 45 J (lc 46 J Less.nil)))))))))), (.q (.q (.r (.q (.q .slnil))))), ⟨kv + 1, (kv : Int), true, rfl, rfl, rfl, by omega, (hSe.any (by omega) (fun q => by first | rfl | omega) (fun q => by first | rfl | omega) (by first | exact .inl ⟨rfl, fun q => by omega⟩ | exact .inr ⟨rfl, by omega, by omega⟩))⟩⟩
       ·obtain ⟨ta, rfl, hta1, hta2, hta3⟩ := hSe.tg.resolve_left (by omega)
        refine kG J J (Y3 J (kG J J (Y3 J (kG J J (Y3 J (kG J J (Y4 (j := kv) J J (by omega) (by omega) (kG J J (V5 (x := (x) (kv)) J (.next .here) (by rw [W4]; omega) (V4 (by omega)) (kG J J (Y3 J (kG J J (Y3 J (kG J J (Y4 (j := ta) J J (by omega) (by omega) (kG J J (V5 (x := (x) (ta)) J (.next .here) (by rw [W4]; omega) (V4 (by omega)) (kG J J (Q6 J J (fun h12 => ?_) (fun h12 => ?_))))))))))))))))))))
        ·refine kG J J (Q2 J J J (kO J (Q3 J J J (Q0 (Y0 J (rI (kM J J (kM J J (Q0 (V1 (W0 (rI (kO J (Q4 J J (by omega) (kM J J (Q0 (W0 ?_)))))))))))))))))
         exact ⟨rfl, _, _, _, (show M + 1 - (kv + 1) < M + 1 - kv by omega), (lc 0 J (lc 6 J (lc 7 J (lc 9 J (lc 10 J (lc 11 J (lc 12 J (lc 44 J (lc 45 J (lc 46 J Less.nil)))))))))), (.q (.q (.r (.q (.q .slnil))))), ⟨kv + 1, (kv : Int), true, rfl, rfl, rfl, by omega, (hSe.any (by omega) (fun q => by first | rfl | omega) (fun q => by first | rfl | omega) (by first | exact .inl ⟨rfl, fun q => by omega⟩ | exact .inr ⟨rfl, by omega, by omega⟩))⟩⟩
        ·refine kG J J (Q2 J J J (kO J (Q3 J J J (Q0 (U0 J (W1 (V1 (W0 (rI (kO J (Q4 J J (by omega) (kM J J (Q0 (W0 ?_))))))))))))))
         exact ⟨rfl, _, _, _, (show M + 1 - (kv + 1) < M + 1 - kv by omega), (lc 0 J (lc 6 J (lc 7 J (lc 9 J (lc 10 J (lc 11 J (lc 12 J (lc 44 J (lc 45 J (lc 46 J Less.nil)))))))))), (.q (.q (.r (.q (.q .slnil))))), ⟨kv + 1, (ta : Int), true, rfl, rfl, rfl, by omega, (hSe.any (by omega) (fun q => by first | rfl | omega) (fun q => by first | rfl | omega) (by first | exact .inl ⟨rfl, fun q => by omega⟩ | exact .inr ⟨rfl, by omega, by omega⟩))⟩⟩
      ·refine kO J (Q3 J J J (kM J J (V0 J J (V0 J J (V0 J J (V0 J J (V0 J J (V0 J J (V0 J J (V0 J J (V0 J J (V0 J J (V0 J J (V0 J J (V0 J J (kO J (Q2 J J J (Q0 (U0 J (W1 (V1 (W0 (rI (kO J (Q4 J J (by omega) (kM J J ?_))))))))))))))))))))))))))
       refine Q0 (W0 ?_);exact ⟨rfl, _, _, _, (show M + 1 - (kv + 1) < M + 1 - kv by omega), (lc 0 J (lc 6 J (lc 7 J (lc 9 J (lc 10 J (lc 11 J (lc 12 J (lc 44 J (lc 45 J (lc 46 J Less.nil)))))))))), (.q (.q (.r (.q (.q .slnil))))), ⟨kv + 1, to, true, rfl, rfl, rfl, by omega, (hSe.any (by omega) (fun q => by first | rfl | omega) (fun q => by first | rfl | omega) (by first | exact .inl ⟨rfl, fun q => by omega⟩ | exact .inr ⟨rfl, by omega, by omega⟩))⟩⟩
     ·exfalso; omega
    ·refine kO J (Q2 J J J (kM J J (Q0 (rS (kM J J (kO J (a_gtr J J (fun h13 => ?_) (fun h13 => ?_))))))))
     ·exfalso; omega
     ·refine kM J J (V0 J J (V0 J J (V0 J J (V0 J J (V0 J J (kO J (Q2 J J J (kM J J (V0 J J (V0 J J (V0 J J (V0 J J (V0 J J (V0 J J (V0 J J (V0 J J (V0 J J (V0 J J (V0 J J (V0 J J (V0 J J (kO J (Q2 J J J (Q0 (U0 J ?_)))))))))))))))))))))))))
      refine W1 (V1 (W0 (rI (kO J (Q4 J J (by omega) (kM J J (Q0 (W0 ?_))))))));exact ⟨rfl, _, _, _, (show M + 1 - (kv + 1) < M + 1 - kv by omega), (lc 0 J (lc 6 J (lc 7 J (lc 9 J (lc 10 J (lc 11 J (lc 12 J (lc 44 J (lc 45 J (lc 46 J Less.nil)))))))))), (.q (.q (.r (.q (.q .slnil))))), ⟨kv + 1, to, false, rfl, rfl, rfl, by omega, (hSe.any (by omega) (fun q => by first | rfl | omega) (fun q => by first | rfl | omega) (by first | exact .inl ⟨rfl, fun q => by omega⟩ | exact .inr ⟨rfl, by omega, by omega⟩))⟩⟩
   ·refine kM J J (V0 J J (V0 J J (kO J (Q3 J J J (kM J J (Q0 (rS (kM J J (kO J (a_gtr J J (fun h14 => ?_) (fun h14 => ?_)))))))))))
    ·refine kM J J (kG J J (Y3 J (kG J J (Y3 J (kG J J (Y4 (j := kv) J J (by omega) (by omega) (kG J J (V5 (x := (x) (kv)) J (.next .here) (by rw [W4]; omega) (V4 (by omega)) (kG J J (Z4 J J (fun h15 => ?_) (fun h15 => ?_)))))))))))
     ·refine kO J (Q3 J J J (kM J J (kG J J (Y3 J (kG J J (Q6 J J (fun h16 => ?_) (fun h16 => ?_)))))))
      ·refine kG J J (Y3 J (V0 J J (V0 J J (V0 J J (V0 J J (V0 J J (V0 J J (V0 J J (V0 J J (V0 J J (kG J J (Q3 J J J (kO J (Q3 J J J (Q0 (Y0 J (rI (kM J J (kM J J (Q0 (V1 (W0 (rI (kO J (Q4 J J (by omega) (kM J J (Q0 ?_)))))))))))))))))))))))))))
       refine W0 ?_;exact ⟨rfl, _, _, _, (show M + 1 - (kv + 1) < M + 1 - kv by omega), (lc 0 J (lc 6 J (lc 7 J (lc 9 J (lc 10 J (lc 11 J (lc 12 J (lc 44 J (lc 45 J (lc 46 J Less.nil)))))))))), (.q (.q (.r (.q (.q .slnil))))), ⟨kv + 1, (kv : Int), true, rfl, rfl, rfl, by omega, (hSe.any (by omega) (fun q => by first | rfl | omega) (fun q => by first | rfl | omega) (by first | exact .inl ⟨rfl, fun q => by omega⟩ | exact .inr ⟨rfl, by omega, by omega⟩))⟩⟩
      ·obtain ⟨ta, rfl, hta1, hta2, hta3⟩ := hSe.tg.resolve_left (by omega)
       refine kG J J (Y3 J (kG J J (Y3 J (kG J J (Y3 J (kG J J (Y4 (j := kv) J J (by omega) (by omega) (kG J J (V5 (x := (x) (kv)) J (.next .here) (by rw [W4]; omega) (V4 (by omega)) (kG J J (Y3 J (kG J J (Y3 J (kG J J (Y4 (j := ta) J J (by omega) (by omega) (kG J J (V5 (x := (x) (ta)) J (.next .here) (by rw [W4]; omega) (V4 (by omega)) (kG J J (Q6 J J (fun h17 => ?_) (fun h17 => ?_))))))))))))))))))))
       ·refine kG J J (Q2 J J J (kO J (Q3 J J J (Q0 (Y0 J (rI (kM J J (kM J J (Q0 (V1 (W0 (rI (kO J (Q4 J J (by omega) (kM J J (Q0 (W0 ?_)))))))))))))))))
        exact ⟨rfl, _, _, _, (show M + 1 - (kv + 1) < M + 1 - kv by omega), (lc 0 J (lc 6 J (lc 7 J (lc 9 J (lc 10 J (lc 11 J (lc 12 J (lc 44 J (lc 45 J (lc 46 J Less.nil)))))))))), (.q (.q (.r (.q (.q .slnil))))), ⟨kv + 1, (kv : Int), true, rfl, rfl, rfl, by omega, (hSe.any (by omega) (fun q => by first | rfl | omega) (fun q => by first | rfl | omega) (by first | exact .inl ⟨rfl, fun q => by omega⟩ | exact .inr ⟨rfl, by omega, by omega⟩))⟩⟩
       ·refine kG J J (Q2 J J J (kO J (Q3 J J J (Q0 (U0 J (W1 (V1 (W0 (rI (kO J (Q4 J J (by omega) (kM J J (Q0 (W0 ?_))))))))))))))
        exact ⟨rfl, _, _, _, (show M + 1 - (kv + 1) < M + 1 - kv by omega), (lc 0 J (lc 6 J (lc 7 J (lc 9 J (lc 10 J (lc 11 J (lc 12 J (lc 44 J (lc 45 J (lc 46 J Less.nil)))))))))), (.q (.q (.r (.q (.q .slnil))))), ⟨kv + 1, (ta : Int), true, rfl, rfl, rfl, by omega, (hSe.any (by omega) (fun q => by first | rfl | omega) (fun q => by first | rfl | omega) (by first | exact .inl ⟨rfl, fun q => by omega⟩ | exact .inr ⟨rfl, by omega, by omega⟩))⟩⟩
     ·refine kO J (Q3 J J J (kM J J (V0 J J (V0 J J (V0 J J (V0 J J (V0 J J (V0 J J (V0 J J (V0 J J (V0 J J (V0 J J (V0 J J (V0 J J (V0 J J (kO J (Q2 J J J (Q0 (U0 J (W1 (V1 (W0 (rI (kO J (Q4 J J (by omega) (kM J J ?_))))))))))))))))))))))))))
      refine Q0 (W0 ?_);exact ⟨rfl, _, _, _, (show M + 1 - (kv + 1) < M + 1 - kv by omega), (lc 0 J (lc 6 J (lc 7 J (lc 9 J (lc 10 J (lc 11 J (lc 12 J (lc 44 J (lc 45 J (lc 46 J Less.nil)))))))))), (.q (.q (.r (.q (.q .slnil))))), ⟨kv + 1, to, true, rfl, rfl, rfl, by omega, (hSe.any (by omega) (fun q => by first | rfl | omega) (fun q => by first | rfl | omega) (by first | exact .inl ⟨rfl, fun q => by omega⟩ | exact .inr ⟨rfl, by omega, by omega⟩))⟩⟩
    ·refine kM J J (V0 J J (V0 J J (V0 J J (V0 J J (V0 J J (kO J (Q2 J J J (kM J J (V0 J J (V0 J J (V0 J J (V0 J J (V0 J J (V0 J J (V0 J J (V0 J J (V0 J J (V0 J J (V0 J J (V0 J J (V0 J J (kO J (Q2 J J J (Q0 (U0 J ?_)))))))))))))))))))))))))
     refine W1 (V1 (W0 (rI (kO J (Q4 J J (by omega) (kM J J (Q0 (W0 ?_))))))));exact ⟨rfl, _, _, _, (show M + 1 - (kv + 1) < M + 1 - kv by omega), (lc 0 J (lc 6 J (lc 7 J (lc 9 J (lc 10 J (lc 11 J (lc 12 J (lc 44 J (lc 45 J (lc 46 J Less.nil)))))))))), (.q (.q (.r (.q (.q .slnil))))), ⟨kv + 1, to, true, rfl, rfl, rfl, by omega, (hSe.any (by omega) (fun q => by first | rfl | omega) (fun q => by first | rfl | omega) (by first | exact .inl ⟨rfl, fun q => by omega⟩ | exact .inr ⟨rfl, by omega, by omega⟩))⟩⟩
  ·refine Q0 (rQ (U0 J (W5 (W3 (W3 (U3 (W0 (rQ (rS (kM J J (kO J (Q6 J J (fun h18 => ?_) (fun h18 => ?_)))))))))))))
   ·have hkv9 : kv = M + 1 := by omega
    subst hkv9;have hto : to = -1 := by rcases hSe.tg with q | ⟨a, q, _⟩ <;> omega
    refine Q0 (Y0 J (rS (kM J J (kM J J (kO J (a_callV J J (fun s1 h1 => cost_s _ bm om b2 0 (M + 1) m F (du0 w M) need p s1 h1.wf (by omega) (by omega) hm hLS (hm9.ext hs h1.2.1) (TabE.own h1 (.next (.next (.app .here))) (fun i hi => (.next (.next (own_seg hi)))))) (kM J J ?_)))))));cases lf
    ·refine kO J (U7 J (kM J J (kM J J (Q0 (Z3 (V3 (Y7 (V3 (Y7 ?_)))))))))
     exact end2 J J (.inl ⟨_, rfl, rfl, hLS.most hl hD du_tot (fun v hv => hSe.no rfl v hv)⟩)
    ·refine kO J (U7 J (kM J J (kM J J (Q0 (Z3 (V3 (Y7 (V3 (Y7 ?_)))))))))
     obtain ⟨u9, hu9, hun9⟩ := hSe.ex rfl;exact end2 J J (.inr ⟨_, rfl, rfl, hLS.open hl hD hRf (fun v hv hn => hSe.un hto v hv hn) hu9 hun9⟩)
   ·obtain ⟨ta, rfl, hta1, hta2, hta3⟩ := hSe.tg.resolve_left (by omega)
    refine Q0 (U0 J (W1 (W0 (rS (kM J J (kM J J (kO J (Y4 (j := ta) J J (by omega) (by omega) (kO J (V5 (x := (need) (ta)) J (.next (.next (.app (.next .here)))) (by rw [W4]; omega) (V4 (by omega)) (kM J J (Q0 (rS (kM J J (kM J J (Q0 (rQ (Z1 ?_))))))))))))))))));refine Z5 (fun j e A => ∃ (k : Nat) (mu : Int), e = [(0, .slice (some ⟨bm, om, none⟩) (M + 1) (M + 1)), (6, .slice (some ⟨b1, 0, none⟩) (M + 1) OPEN), (7, .slice (some ⟨b2, 0, none⟩) (M + 1) (M + 1)), (10, .slice (some ⟨b6, 0, none⟩) (M + 1) (M + 1)), (11, .int .i64 (ta : Int)), (15, .int .i64 mu), (16, .int .i64 ((an f ta k : Nat) : Int))] /\ A = (.row b6 124 false (stc f bk (M + 1)) :: (seg B (M + 1) F (M + 1) ++ (.row b2 25 false (slsT B (M + 1) (M + 1) (M + 1)) :: (.row b1 3 true (ints (xs need (M + 1))) :: [])))) /\ j = cn (M + 1) (rk x p T c) (an f ta k) /\ Tr m F (M + 1) need x f bk ta k mu) 300 0 281474976710656 ?_ (j := _) (env2 := _) (A2 := _) ?_ ?_ ?_ ?_ ⟨0, (need ta), rfl, rfl, rfl, (Tr.zero hta1 hta3 hta2)⟩
    rotate_left
    ·omega
    ·(refine Nat.le_trans cn_le ?_; omega)
    ·exact (lc 0 J (lc 6 J (lc 7 J (lc 10 J (lc 11 J (lc 15 J (lc 16 J Less.nil)))))))
    ·exact (.q (.cons _ (.r (.q (.q .slnil)))))
    rintro n hn j _ _ ⟨k, mu, rfl, rfl, rfl, hTr⟩;have hak := (hTr.lt k (Nat.le_refl _)).1;refine rQ (rS (kM J J (kM J J (kO J (Y4 (j := an f ta k) J J (by omega) (by omega) (kO J (V5 (x := (need) (an f ta k)) J (.next (.app (.next .here))) (by rw [W4]; omega) (V4 (by omega)) (kO J (a_geq J J (fun h19 => ?_) (fun h19 => ?_))))))))))
    ·obtain ⟨a9, hz1, rfl, hz3, hz4, hz5, hz6⟩ := hTr.next hRf.rh (by omega)
     have hcl := cn_lt hz3 hz4;refine kM J J (V0 J J (V0 J J (V0 J J (V0 J J (V0 J J (V0 J J (kO J (Q3 J J J (Q0 (Y0 J (W1 (W0 (Z1 (rS (kM J J (kM J J (kO J (Y4 (j := an f ta k) J J (by omega) (by omega) (kO J (U5 J (by decide) .here (stc_seg (by omega)) ?_))))))))))))))))))));rw [hz1];refine kO J (a_new J J (fun b20 => (kZ J (Q7 J J .here rfl rfl rfl rfl (Q0 (rQ (rS (kO J (U2 J (kO J (a_ldb J .here rfl (fun h21 => ?_) (fun h21 => ?_))))))))))))
     ·have hT2 := hz5 h21
      refine Q0 (Y0 J (rI (kM J J (kM J J (kM J J (kO J (Y4 (j := an f ta k) J J (by omega) (by omega) (kO J (U1 J (.next (.next (.app .here))) (sls_get (by omega) (by omega)) (kO J (U2 J (kO J (U1 J .here rfl (kO J (Y4 (j := an f ta (k + 1)) J J (by omega) (by omega) (kO J (V5 (x := (F) (an f ta k) (an f ta (k + 1))) J (.next (.next (own_seg (by omega)))) (by rw [rowT_len]; omega) (rowT_get (by omega)) (kO J (a_min J (kM J J (Q0 (W0 (rI (kO J (U2 J (kO J (U1 J .here rfl (kM J J (Q0 (V1 (W0 ?_)))))))))))))))))))))))))))))));exact ⟨rfl, _, _, _, (show cn (M + 1) (rk x p T c) (an f ta (k + 1)) < cn (M + 1) (rk x p T c) (an f ta k) by omega), (lc 0 J (lc 6 J (lc 7 J (lc 10 J (lc 11 J (lc 15 J (lc 16 J Less.nil))))))), (.cons _ (.q (.r (.q (.q .slnil))))), ⟨k + 1, (min mu (F (an f ta k) (an f ta (k + 1)))), rfl, rfl, rfl, hT2⟩⟩
     ·have hT2 := hz6 h21
      refine Q0 (U0 J (W1 (W0 (rI (kO J (U2 J (kO J (U1 J .here rfl (kM J J (Q0 (V1 (W0 ?_))))))))))));exact ⟨rfl, _, _, _, (show cn (M + 1) (rk x p T c) (an f ta (k + 1)) < cn (M + 1) (rk x p T c) (an f ta k) by omega), (lc 0 J (lc 6 J (lc 7 J (lc 10 J (lc 11 J (lc 15 J (lc 16 J Less.nil))))))), (.cons _ (.q (.r (.q (.q .slnil))))), ⟨k + 1, mu, rfl, rfl, rfl, hT2⟩⟩
    ·refine kM J J (kG J J (Y3 J (kG J J (Y3 J (kG J J (Y4 (j := an f ta k) J J (by omega) (by omega) (kG J J (U2 J (kG J J (U1 J .here (stc_fr (by omega)) (kG J J (a_geq J J (fun h22 => ?_) (fun h22 => ?_)))))))))))))
     ·obtain ⟨a9, hz1, rfl, hz3, hz4, hz5, hz6⟩ := hTr.next hRf.rh (by omega)
      have hcl := cn_lt hz3 hz4;refine kO J (Q2 J J J (Q0 (Y0 J (W1 (W0 (Z1 (rS (kM J J (kM J J (kO J (Y4 (j := an f ta k) J J (by omega) (by omega) (kO J (U5 J (by decide) .here (stc_seg (by omega)) ?_)))))))))))));rw [hz1];refine kO J (a_new J J (fun b23 => (kZ J (Q7 J J .here rfl rfl rfl rfl (Q0 (rQ (rS (kO J (U2 J (kO J (a_ldb J .here rfl (fun h24 => ?_) (fun h24 => ?_))))))))))))
      ·have hT2 := hz5 h24
       refine Q0 (Y0 J (rI (kM J J (kM J J (kM J J (kO J (Y4 (j := an f ta k) J J (by omega) (by omega) (kO J (U1 J (.next (.next (.app .here))) (sls_get (by omega) (by omega)) (kO J (U2 J (kO J (U1 J .here rfl (kO J (Y4 (j := an f ta (k + 1)) J J (by omega) (by omega) (kO J (V5 (x := (F) (an f ta k) (an f ta (k + 1))) J (.next (.next (own_seg (by omega)))) (by rw [rowT_len]; omega) (rowT_get (by omega)) (kO J (a_min J (kM J J (Q0 (W0 (rI (kO J (U2 J (kO J (U1 J .here rfl (kM J J (Q0 (V1 (W0 ?_)))))))))))))))))))))))))))))));exact ⟨rfl, _, _, _, (show cn (M + 1) (rk x p T c) (an f ta (k + 1)) < cn (M + 1) (rk x p T c) (an f ta k) by omega), (lc 0 J (lc 6 J (lc 7 J (lc 10 J (lc 11 J (lc 15 J (lc 16 J Less.nil))))))), (.cons _ (.q (.r (.q (.q .slnil))))), ⟨k + 1, (min mu (F (an f ta k) (an f ta (k + 1)))), rfl, rfl, rfl, hT2⟩⟩
      ·have hT2 := hz6 h24
       refine Q0 (U0 J (W1 (W0 (rI (kO J (U2 J (kO J (U1 J .here rfl (kM J J (Q0 (V1 (W0 ?_))))))))))));exact ⟨rfl, _, _, _, (show cn (M + 1) (rk x p T c) (an f ta (k + 1)) < cn (M + 1) (rk x p T c) (an f ta k) by omega), (lc 0 J (lc 6 J (lc 7 J (lc 10 J (lc 11 J (lc 15 J (lc 16 J Less.nil))))))), (.cons _ (.q (.r (.q (.q .slnil))))), ⟨k + 1, mu, rfl, rfl, rfl, hT2⟩⟩
     ·refine kO J (Q2 J J J (Q0 (U0 J (W5 (W3 (W3 (U3 (W0 (rS (kM J J (kM J J (kM J J (kO J (Y4 (j := an f ta k) J J (by omega) (by omega) (kO J (V5 (x := (need) (an f ta k)) J (.next (.app (.next .here))) (by rw [W4]; omega) (V4 (by omega)) ?_))))))))))))))))
      have hnb := hLS.nb (an f ta k) hak;refine kO J (a_neg J (by omega) (kO J (a_min J ?_)));have hT3 := hTr.less (mu' := (min mu (-(need (an f ta k))))) (by have := hTr.mu1; omega) (by omega);have hT4 := hT3.mu1;refine kM J J (Q0 (rQ (rS (kM J J (kM J J (Q0 (Z1 ?_)))))));refine Z5 (fun j e A => ∃ (mi : Nat) (G : Nat -> Nat -> Int), e = [(0, .slice (some ⟨bm, om, none⟩) (M + 1) (M + 1)), (6, .slice (some ⟨b1, 0, none⟩) (M + 1) OPEN), (7, .slice (some ⟨b2, 0, none⟩) (M + 1) (M + 1)), (10, .slice (some ⟨b6, 0, none⟩) (M + 1) (M + 1)), (11, .int .i64 (ta : Int)), (15, .int .i64 (min mu (-(need (an f ta k))))), (16, .int .i64 ((an f ta k : Nat) : Int)), (18, .int .i64 ((an f ta mi : Nat) : Int))] /\ A = (.row b6 124 false (stc f bk (M + 1)) :: (seg B (M + 1) G (M + 1) ++ (.row b2 25 false (slsT B (M + 1) (M + 1) (M + 1)) :: (.row b1 3 true (ints (xs need (M + 1))) :: [])))) /\ j = cn (M + 1) (rk x p T c) (an f ta mi) /\ mi <= k /\ Au m F G (M + 1) (pN x p) (rk x p T c) ta (an f ta mi) (min mu (-(need (an f ta k))))) 300 0 281474976710656 ?_ (j := _) (env2 := _) (A2 := _) ?_ ?_ ?_ ?_ ⟨0, F, rfl, rfl, rfl, Nat.zero_le _, (Au.zero hLS2 (by omega))⟩
      rotate_left
      ·omega
      ·(refine Nat.le_trans cn_le ?_; omega)
      ·exact (lc 0 J (lc 6 J (lc 7 J (lc 10 J (lc 11 J (lc 15 J (lc 16 J (lc 18 J Less.nil))))))))
      ·exact (.q (.r (.q (.q .slnil))))
      rintro n hn j _ _ ⟨mi, G, rfl, rfl, rfl, hmi, hAu⟩;have hai := (hTr.lt mi (by omega)).1;refine rQ (rS (kM J J (kM J J (kO J (Z4 J J (fun h25 => ?_) (fun h25 => ?_))))))
      ·have hlt9 : mi < k := Nat.lt_of_le_of_ne hmi (fun q => by rw [q] at h25; omega)
       obtain ⟨a9, hy1, rfl, hy3, hy4, hy5, hy6⟩ := Au.next hm hLS2 hRf hT3 hlt9 hAu;have hcl2 := cn_lt hy3 hy4;refine Q0 (Y0 J (W1 (W0 (rQ (Z1 (rS (kM J J (kM J J (kO J (Y4 (j := an f ta mi) J J (by omega) (by omega) (kO J (U5 J (by decide) .here (stc_seg (by omega)) ?_))))))))))));rw [hy1];refine kO J (a_new J J (fun b26 => (kZ J (Q7 J J .here rfl rfl rfl rfl (Q0 (rS (kO J (U2 J (kO J (a_ldb J .here rfl (fun h27 => ?_) (fun h27 => ?_)))))))))))
       ·obtain ⟨hG0, hA2⟩ := hy5 h27
        have hG1 := hAu.nn (an f ta mi) (an f ta (mi + 1)) (by omega) (by omega);have hG2 := hAu.cp (an f ta mi) (an f ta (mi + 1)) (by omega) (by omega);have hG3 := hLS.cp (an f ta mi) (an f ta (mi + 1)) (by omega) (by omega);have hG4 : 0 <= pos need (M + 1) := posS_nn;have hG5 := hLS.nb ta hta1;have hG6 := hT3.mu1;refine Q0 (Y0 J (rI (kM J J (kM J J (kO J (Y4 (j := an f ta mi) J J (by omega) (by omega) (kO J (U1 J (.next (.next (.app .here))) (sls_get (by omega) (by omega)) (kO J (U2 J (kO J (U1 J .here rfl (kO J (Y4 (j := an f ta (mi + 1)) J J (by omega) (by omega) (kO J (V5 (x := (G) (an f ta mi) (an f ta (mi + 1))) J (.next (.next (own_seg (by omega)))) (by rw [rowT_len]; omega) (rowT_get (by omega)) (kM J J (kO J (a_sub J J (by omega) (kO J (Y4 (j := an f ta (mi + 1)) J J (by omega) (by omega) (kZ J (W8 J J (.next (.next (upd_seg (by omega)))) (by rw [rowT_len]; omega) (Q0 (V1 (W0 (rI (kM J J (kM J J (kO J (Y4 (j := an f ta mi) J J (by omega) (by omega) (kO J (U2 J (kO J (U1 J (.next .here) (stc_fr (by omega)) ?_)))))))))))))))))))))))))))))))))));rw [hy1];refine kM J J (Q0 (W0 ?_));exact ⟨rfl, _, _, _, (show cn (M + 1) (rk x p T c) (an f ta (mi + 1)) < cn (M + 1) (rk x p T c) (an f ta mi) by omega), (lc 0 J (lc 6 J (lc 7 J (lc 10 J (lc 11 J (lc 15 J (lc 16 J (lc 18 J Less.nil)))))))), (.cons _ (.q (.r (.q (.q .slnil))))), ⟨mi + 1, (updT G (an f ta mi) (an f ta (mi + 1)) (G (an f ta mi) (an f ta (mi + 1)) - (min mu (-(need (an f ta k)))))), rfl, rfl, rfl, hlt9, hA2⟩⟩
       ·have hA2 := hy6 h27
        have hG1 := hAu.nn (an f ta (mi + 1)) (an f ta mi) (by omega) (by omega);have hG2 := hAu.cp (an f ta (mi + 1)) (an f ta mi) (by omega) (by omega);have hG3 := hLS.cp (an f ta (mi + 1)) (an f ta mi) (by omega) (by omega);have hG4 : 0 <= pos need (M + 1) := posS_nn;have hG5 := hLS.nb ta hta1;have hG6 := hT3.mu1;refine Q0 (U0 J (rI (kM J J (kO J (U2 J (kO J (U1 J .here rfl (kO J (Y4 (j := an f ta (mi + 1)) J J (by omega) (by omega) (kO J (U1 J (.next (.next (.app .here))) (sls_get (by omega) (by omega)) (kM J J (kO J (Y4 (j := an f ta mi) J J (by omega) (by omega) (kO J (V5 (x := (G) (an f ta (mi + 1)) (an f ta mi)) J (.next (.next (own_seg (by omega)))) (by rw [rowT_len]; omega) (rowT_get (by omega)) (kM J J (kO J (Q4 J J (by omega) (kO J (Y4 (j := an f ta mi) J J (by omega) (by omega) (kZ J (W8 J J (.next (.next (upd_seg (by omega)))) (by rw [rowT_len]; omega) (Q0 (V1 (W0 (rI (kM J J (kM J J (kO J (Y4 (j := an f ta mi) J J (by omega) (by omega) (kO J (U2 J (kO J (U1 J (.next .here) (stc_fr (by omega)) ?_)))))))))))))))))))))))))))))))))));rw [hy1];refine kM J J (Q0 (W0 ?_));exact ⟨rfl, _, _, _, (show cn (M + 1) (rk x p T c) (an f ta (mi + 1)) < cn (M + 1) (rk x p T c) (an f ta mi) by omega), (lc 0 J (lc 6 J (lc 7 J (lc 10 J (lc 11 J (lc 15 J (lc 16 J (lc 18 J Less.nil)))))))), (.cons _ (.q (.r (.q (.q .slnil))))), ⟨mi + 1, (updT G (an f ta (mi + 1)) (an f ta mi) (G (an f ta (mi + 1)) (an f ta mi) + (min mu (-(need (an f ta k)))))), rfl, rfl, rfl, hlt9, hA2⟩⟩
      ·have heq9 : an f ta mi = an f ta k := by omega
       rw [heq9] at hAu;have hmv := hLS2.moved hAu hta1 hak (by omega) hT4 (by omega);have hnb2 := hLS.nb ta hta1;refine Q0 (U0 J (W5 (W3 (W3 (U3 (W0 (rS (kM J J (kM J J (kO J (Y4 (j := an f ta k) J J (by omega) (by omega) (kO J (V5 (x := (need) (an f ta k)) J (.next (.app (.next .here))) (by rw [W4]; omega) (V4 (by omega)) (kM J J (kO J (Q4 J J (by omega) (kO J (Y4 (j := an f ta k) J J (by omega) (by omega) (kZ J (W8 J J (by rw [xs_set]; exact (.next (.app (.next .here)))) (by rw [W4]; omega) (Q0 (rI (kM J J (kM J J (kO J (Y4 (j := ta) J J (by omega) (by omega) (kO J (V5 (x := ((Z2 need (an f ta k) (need (an f ta k) + (min mu (-(need (an f ta k))))))) (ta)) J (.next (.app (.next .here))) (by rw [W4]; omega) (V4 (by omega)) ?_))))))))))))))))))))))))))));rw [Q1 (show ta ≠ an f ta k from fun q => hmv.2.2 q.symm)];refine kM J J (kO J (a_sub J J (by omega) (kO J (Y4 (j := ta) J J (by omega) (by omega) (kZ J (W8 J J (by rw [xs_set]; exact (.next (.app (.next .here)))) (by rw [W4]; omega) (Q0 (V1 (W0 ?_)))))))));have hps9 := hmv.2.1;have hpn9 : 0 <= pos (Z2 (Z2 need (an f ta k) (need (an f ta k) + (min mu (-(need (an f ta k)))))) ta (need ta - (min mu (-(need (an f ta k)))))) (M + 1) := posS_nn;exact ⟨rfl, _, _, _, (show (pos (Z2 (Z2 need (an f ta k) (need (an f ta k) + (min mu (-(need (an f ta k)))))) ta (need ta - (min mu (-(need (an f ta k)))))) (M + 1)).toNat < (pos need (M + 1)).toNat by omega), (lc 0 J (lc 6 J (lc 7 J Less.nil))), (.cons _ (.r (.q (.q .slnil)))), ⟨(Z2 (Z2 need (an f ta k) (need (an f ta k) + (min mu (-(need (an f ta k)))))) ta (need ta - (min mu (-(need (an f ta k)))))), (pN x p), G, rfl, rfl, rfl, hmv.1⟩⟩
end
theorem dd_ex {ls : List (List Int)} {M f : Nat} {y : Nat -> Int} (hl : lmB (M : Int) ls = true) (hM : M <= 64) (hf : f < M + 1) (hy : ∀ i, i < ls.length -> y (lb ls i) <= y (la ls i) + lw ls i) (hb : ∀ a, a < M + 1 -> -1300000 <= y a /\ y a <= 0) : ∀ (k : Nat) (s : Fs), Dv ls (M + 1) f s -> (tot s.x (M + 1) + 100000000000).toNat <= k -> ∃ x, Dd ls (M + 1) f x
 | k, s, h, hk => by
  have hd1 := Dv.lws hl hM h.st0 (v := M + 1) (Nat.le_refl _);by_cases he : (lwS ls (st0 s) (M + 1)).l = -1
  ·exact ⟨_, (dd_of hl hM hf hy h he).2⟩
  ·have hlt : tot (lwS ls (st0 s) (M + 1)).x (M + 1) < tot s.x (M + 1) := hd1.2.resolve_left (fun e => he (by rw [e]; rfl))
   have hlo := hd1.1.tot_lo hy hb (by omega)
   match k with
   | 0 => omega
   | k + 1 => exact dd_ex hl hM hf hy hb k _ hd1.1 (by omega)
theorem Dd.congr {ls : List (List Int)} {M f : Nat} {x z : Nat -> Int} (hl : lmB (M : Int) ls = true) (hf : f < M + 1) (h : Dd ls (M + 1) f x) (e : ∀ a, a < M + 1 -> z a = x a) : Dd ls (M + 1) f z := by
 refine ⟨by rw [e f hf]; exact h.own, fun a ha q => ?_, fun a ha => by rw [e a ha]; exact h.hi a ha, fun i hi q => ?_⟩
 ·rw [e a ha] at q ⊢; exact h.way a ha q
 ·obtain ⟨k1, k2⟩ := hN_of hl i hi
  rw [e _ k1] at q ⊢;rw [e _ k2]; exact h.fix i hi q
theorem wm_dt {ls : List (List Int)} {M : Nat} (hl : lmB (M : Int) ls = true) (h4 : ls.length <= 400) (hM : M <= 64) (hn : ¬ Uns ls (M + 1)) : ∃ y : Nat -> Int, DT ls (M + 1) (wm ls (M + 1) (M + 1)) /\ MT (wm ls (M + 1) (M + 1)) (M + 1) /\ (∀ i, i < ls.length -> y (lb ls i) <= y (la ls i) + lw ls i) /\ ∀ a, a < M + 1 -> -1300000 <= y a /\ y a <= 0 := by
 obtain ⟨y, hy, hb⟩ := set_pt hl h4 hM hn;have : ∀ f, ∃ x, f < M + 1 -> Dd ls (M + 1) f x := fun f => by
  by_cases hf : f < M + 1
  ·obtain ⟨x, hx⟩ := dd_ex hl hM hf hy hb _ _ (Dv.zero hf) (Nat.le_refl _)
   exact ⟨x, fun _ => hx⟩
  ·exact ⟨fun _ => 0, fun q => absurd q hf⟩
 obtain ⟨D, hD⟩ := Classical.axiomOfChoice this;have hD : DT ls (M + 1) D := hD;have hW : DT ls (M + 1) (wm ls (M + 1) (M + 1)) := fun f hf => (hD f hf).congr hl hf (fun a ha => wm_dd hl hM hD hy hb hf ha)
 exact ⟨y, hW, MT.of hW (hW.sm hy hb), hy, hb⟩
theorem ng_take {w : List Int} {k : Nat} (h : k < w.length) : ints ((NG w).take k) ++ [.int .i64 (-(w.getD k 0))] = ints ((NG w).take (k + 1)) := by
 rw [<- ng_get, List.take_succ_eq_append_getElem (by rw [ng_len]; exact h), show ∀ (l : List Int) (x : Int), ints (l ++ [x]) = ints l ++ [.int .i64 x] from fun l x => by unfold ints; rw [List.map_append]; rfl]
 congr 3
 rw [List.getD_eq_getElem?_getD, List.getElem?_eq_getElem (by rw [ng_len]; exact h)]; rfl
theorem ng_app {w : List Int} {k b : Nat} {R : List Ob} (h : k < w.length) : .row b 3 true (ints ((NG w).take k) ++ [.int .i64 (-(w.getD k 0))]) :: R = .row b 3 true (ints ((NG w).take (k + 1))) :: R := by rw [ng_take h]
theorem ng_app1 {w : List Int} (h : 0 < w.length) : [.int .i64 (-(w.getD 0 0))] = ints ((NG w).take 1) := by rw [<- ng_take h]; rfl
section
variable {X : FuncId -> List Value -> St -> (Value -> St -> Bool) -> Bool}
theorem sound_t (n : Nat) (bm om N : Nat) (D : Nat -> Nat -> Int) (s : St) (hs : Wf s) (hn : 281474976710656 <= n) (hN : N <= 65) (hm9 : TabE s bm om N D) : Spec Tryz.prog (tabK tabw) X (n + 300) 87 [.slice (some ⟨bm, om, none⟩) N N] s (fun v A => ((v = .bool true /\ Snd D N) ∨ (v = .bool false /\ ¬ Snd D N)) /\ A = []) := by
 refine enter bw87_at rfl hs ?_;unfold bw87;refine rS (kM J J (Q0 (rQ (rS (kM J J (kO J (a_len J (kM J J (Q0 (Z1 (Z5 (fun j e A => ∃ (i : Nat), e = [(0, .slice (some ⟨bm, om, none⟩) N N), (5, .int .i64 (N : Int)), (6, .int .i64 (i : Int))] /\ A = [] /\ j = N - i /\ i <= N /\ ∀ a, a < i -> 0 <= D a a) 100 0 281474976710656 ?_ (j := _) (env2 := _) (A2 := _) ?_ ?_ ?_ ?_ ⟨0, rfl, rfl, rfl, Nat.zero_le _, (fun a ha => absurd ha (Nat.not_lt_zero a))⟩)))))))))))
 rotate_left
 ·omega
 ·omega
 ·exact (lc 0 J (lc 5 J (lc 6 J Less.nil)))
 ·exact .slnil
 rintro n hn j _ _ ⟨i, rfl, rfl, rfl, hi, hsd⟩;refine rS (kO J (Q6 J J (fun h1 => ?_) (fun h1 => ?_)))
 ·refine Q0 (rQ (Y0 J (W1 (W0 (rQ (Z1 (rS (kM J J (kM J J (Q0 (rS (kM J J (kM J J (kO J (Y4 (j := i) J J (by first | decide | omega) (by omega) ?_)))))))))))))))
  obtain ⟨bi4, hb2, hr3⟩ := hm9 i (by omega);refine kO J (W7 J hb2 (kM J J (kO J (Y4 (j := i) J J (by first | decide | omega) (by omega) (kO J (W7 J (hr3 i (by omega)) (kO J (Q6 J J (fun h5 => ?_) (fun h5 => ?_)))))))))
  ·refine Q0 (Y0 J (rS (kM J J (Q0 (Z3 (Y7 (V3 (V3 (Y7 (V3 ?_))))))))))
   exact end1 J ⟨.inr ⟨rfl, fun q => by have := q i (by omega); omega⟩, rfl⟩
  ·refine Q0 (U0 J (W1 (V1 (W0 (rI (kO J (Q4 J J (by omega) (kM J J (Q0 (W0 ?_))))))))))
   exact ⟨rfl, _, _, _, (show N - (i + 1) < N - i by omega), (lc 0 J (lc 5 J (lc 6 J Less.nil))), .slnil, ⟨i + 1, rfl, rfl, rfl, by omega, (snd_step hsd (by assumption))⟩⟩
 ·refine Q0 (rQ (U0 J (W5 (W3 (W3 (U3 (W0 (rS (kM J J (Q0 (Z3 ?_)))))))))))
  exact end1 J ⟨.inl ⟨rfl, fun a ha => hsd a (by omega)⟩, rfl⟩
theorem negative_s (n : Nat) (aw : Option Addr) (cw : Nat) (w : List Int) (s : St) (hs : Wf s) (hn : 281474976710656 <= n) (hW : IntsE s aw w) (hb : ∀ i, i < w.length -> -1000000000000000 <= w.getD i 0 /\ w.getD i 0 <= 1000000000000000) (h64 : w.length <= 100000) (h0 : 0 < w.length) : Spec Tryz.prog (tabK tabw) X (n + 400) 90 [.slice aw w.length cw] s (fun v A => ∃ b, v = .slice (some ⟨b, 0, none⟩) w.length OPEN /\ A = [.row b 3 true (ints (NG w))]) := by
 refine enter bw90_at rfl hs ?_;unfold bw90;have hlen := hW.len;refine rS (kM J J (Q0 (rS (kM J J (Q0 (rQ (rS (kM J J (kO J (a_lenx J hW.spot (kM J J (Q0 (Z1 (r_unroll (rS (kO J (Q6 J J (fun h1 => ?_) (fun h1 => ?_))))))))))))))))))
 ·refine Q0 (rQ (Y0 J (W1 (W0 (rQ (Z1 (rS (kO J (Q8 (j := 0) hW rfl rfl (by omega) (by first | rfl | omega) (by omega) (fun _ _ a2 => (kO J (W7 J (hW.at a2 (by omega)) (kM J J (Q0 (rI (kM J J (kM J J ?_)))))))))))))))))
  have hbk := hb 0 (by omega);refine kO J (a_neg J (by omega) (kO J (a_lit J J J (fun b3 => (kO J (a_appn J J (Src.own .here rfl (by simp)) (by decide) (by omega) (by omega) (fun b4 => (kM J J (Q0 (V1 (W0 (rI (kO J (Q4 J J (by decide) (kM J J (Q0 (W0 (Z5 (fun j e A => ∃ (k b : Nat), e = [(3, .slice (some ⟨b, 0, none⟩) k OPEN), (6, .slice aw w.length cw), (7, .int .i64 (w.length : Int)), (8, .int .i64 (k : Int))] /\ A = (.row b 3 true (ints ((NG w).take k)) :: []) /\ j = w.length - k /\ k <= w.length) 200 0 281474976710656 ?_ (j := _) (env2 := _) (A2 := _) ?_ ?_ ?_ ?_ ⟨1, b4, rfl, rfl, rfl, (by omega)⟩))))))))))))))))))
  rotate_left
  ·omega
  ·omega
  ·exact (lc 3 J (lc 6 J (lc 7 J (lc 8 J Less.nil))))
  ·rw [<- ng_app1 (by omega)]
   exact (.q (.cons _ .slnil))
  rintro n hn j _ _ ⟨k, b, rfl, rfl, rfl, hk⟩;refine rS (kO J (Q6 J J (fun h5 => ?_) (fun h5 => ?_)))
  ·refine Q0 (rQ (Y0 J (W1 (W0 (rQ (Z1 (rS (kO J (Q8 (j := k) hW rfl rfl (by omega) (by first | rfl | omega) (by omega) (fun _ _ a6 => (kO J (W7 J (hW.at a6 (by omega)) (kM J J (Q0 (rI (kM J J (kM J J ?_)))))))))))))))))
   have hbk := hb k (by omega);refine kO J (a_neg J (by omega) (kO J (a_lit J J J (fun b7 => (kO J (a_app J J (Src.own .here rfl (by simp)) (.next .here) (by rw [ints_len, List.length_take, ng_len, Nat.mul_one]; omega) (.inl ⟨rfl, rfl⟩) (by decide) (by omega) (by omega) (fun b8 => (kM J J (Q0 (V1 (W0 (rI (kO J (Q4 J J (by omega) (kM J J (Q0 (W0 ?_)))))))))))))))));exact ⟨rfl, _, _, _, (show w.length - (k + 1) < w.length - k by omega), (lc 3 J (lc 6 J (lc 7 J (lc 8 J Less.nil)))), (.q (.cons _ .slnil)), ⟨k + 1, b8, rfl, (ng_app (by omega)), rfl, by omega⟩⟩
  ·refine Q0 (rQ (U0 J (W5 (W3 (W3 (U3 (W0 (rS (kM J J (kM J J (Q0 (Z3 ?_))))))))))))
   have hkl : k = w.length := by omega
   rw [hkl, List.take_of_length_le (by rw [ng_len]; exact Nat.le_refl _)];exact end1A J (.q .slnil) ⟨_, rfl, rfl⟩
 ·exfalso; omega
end
theorem wrap_wq {n : Int} : IntKind.wrap .i64 n = wq n := by
 rw [wq_mod];unfold IntKind.wrap;simp only [IntKind.bits, IntKind.signed, show (2 : Int) ^ 64 = 18446744073709551616 from by decide, show (2 : Int) ^ (64 - 1) = 9223372036854775808 from by decide, Bool.true_and, decide_eq_true_eq];split <;> omega
theorem a_negW {P : Program} {C : Nat -> (CF -> Bool) -> Bool} {X : FuncId -> List Value -> St -> (Value -> St -> Bool) -> Bool} {s0 : St} {n nt : Nat} {env : List (Nat × Value)} {A : List Ob} {R : Value -> List Ob -> Prop} {x : Ev.X} {a : Int} (hx : xv env x = some (.int .i64 a)) (h : R (.int .i64 (wq (-a))) A) : OpA P C X s0 n nt (.un .neg x) env A R :=
 a_un hx (r := .int .i64 (wq (-a))) (by
  have : ev1 P (Op.unary .neg) (.int .i64 a) = some (.int .i64 (IntKind.i64.wrap (0 - a))) := rfl;rw [this, show (0 - a) = -a by omega, wrap_wq]) h
section
variable {X : FuncId -> List Value -> St -> (Value -> St -> Bool) -> Bool}
theorem rWeights_s (n : Nat) (m : Int) (al : Option Addr) (cl : Nat) (ls : List (List Int)) (aw : Option Addr) (cw : Nat) (w : List Int) (s : St) (hs : Wf s) (hn : 562949953421312 <= n) (hL : RowsE s 4 al ls) (hm0 : 0 <= m /\ m <= 64) (hW : IntsE s aw w) : Spec Tryz.prog (tabK tabw) X (n + 500) 86 [.agg ⟨[.int .i64 m, .slice al ls.length cl]⟩, .slice aw w.length cw] s (fun v A => ((v = .bool true /\ ((w.length : Int) = m + 1 /\ WOk w w.length)) ∨ (v = .bool false /\ ¬ ((w.length : Int) = m + 1 /\ WOk w w.length))) /\ A = []) := by
 refine enter bw86_at rfl hs ?_;unfold bw86;have hlen := hL.len;have hlenW := hW.len;refine rS (kO J (a_box J J J (fun b1 => (kM J J (Q0 (rS (kM J J (kO J (a_lenx J hW.spot (kO J (U2 J (kO J (U1 J .here rfl (kO J (Q4 J J (by omega) (kO J (a_eql J J (fun h2 => ?_) (fun h2 => ?_))))))))))))))))))
 ·refine kM J J (kG J J (Y3 J (kG J J (Y5 J J (fun s1 h1 => sized_s _ _ _ _ s1 h1.wf (by omega) (hW.ext hs h1.2.1)) (fun v1 A1 q1 => ?_)))))
  obtain ⟨q1, rfl⟩ := q1;rcases q1 with ⟨hwo, rfl⟩ | ⟨hwo, rfl⟩
  ·have hwo1 := hwo
   refine kO J (Q3 J J J (kM J J (Q0 (Z3 ?_))));exact end1 J ⟨.inl ⟨rfl, ⟨by omega, hwo1⟩⟩, rfl⟩
  ·have hno : ¬ VP1 w := fun q => hwo q.2
   refine kO J (Q3 J J J (kM J J (Q0 (Z3 ?_))));exact end1 J ⟨.inr ⟨rfl, fun q => by first | omega | exact hwo q.2⟩, rfl⟩
 ·refine kM J J (V0 J J (V0 J J (kO J (Q2 J J J (kM J J (Q0 (Z3 ?_)))))))
  exact end1 J ⟨.inr ⟨rfl, fun q => by first | omega | exact hwo q.2⟩, rfl⟩
theorem asked_s (n : Nat) (m : Int) (al : Option Addr) (cl : Nat) (ls : List (List Int)) (aw : Option Addr) (cw : Nat) (w : List Int) (s : St) (hs : Wf s) (hn : 1125899906842624 <= n) (hL : RowsE s 4 al ls) (hW : IntsE s aw w) : Spec Tryz.prog (tabK tabw) X (n + 900) 38 [.agg ⟨[.int .i64 m, .slice al ls.length cl]⟩, .slice aw w.length cw] s (fun v A => (¬ sysE m ls = 0 /\ v = .int .i64 (sysE m ls) /\ A = []) ∨ (sysE m ls = 0 /\ ¬ ((w.length : Int) = m + 1 /\ WOk w w.length) /\ v = .int .i64 27 /\ A = []) ∨ (sysE m ls = 0 /\ ((w.length : Int) = m + 1 /\ WOk w w.length) /\ v = .int .i64 0 /\ A = [])) := by
 refine enter bw38_at rfl hs ?_;unfold bw38;have hlen := hL.len;have hlenW := hW.len;refine rS (kO J (a_box J J J (fun b1 => (kM J J (Q0 (rS (kO J (U5 J (by decide) .here rfl (kO J (a_callV J J (fun s1 h1 => rCheck_s _ _ _ _ _ s1 h1.wf (by omega) (hL.ext hs h1.2.1)) (kM J J (Q0 (rQ (rS (kM J J (kO J (a_eql J J (fun h2 => ?_) (fun h2 => ?_))))))))))))))))))
 ·have hsys : sysE m ls = 0 := by omega
  obtain ⟨hm0, hm64, h400, hlm⟩ := sysE_ok hsys;refine kM J J (kG J J (U5 J (by decide) .here rfl (kG J J (Y3 J (kG J J (Y5 J J (fun s1 h1 => rWeights_s _ m al cl ls aw cw w s1 h1.wf (by omega) (hL.ext hs h1.2.1) (by omega) (hW.ext hs h1.2.1)) (fun v1 A1 q1 => ?_)))))));obtain ⟨q1, rfl⟩ := q1;rcases q1 with ⟨rfl, hww⟩ | ⟨rfl, hww⟩
  ·refine kG J J (U7 J (kO J (Q3 J J J (Q0 (U0 J (W1 (W0 (rS (kM J J (kM J J (Q0 (Z3 ?_))))))))))))
   exact end1 J (.inr (.inr ⟨hsys, hww, congrArg (Value.int .i64) hsys, rfl⟩))
  ·refine kG J J (U7 J (kO J (Q3 J J J (Q0 (Y0 J (rI (kM J J (Q0 (W0 (rS (kM J J (kM J J (Q0 (Z3 ?_))))))))))))))
   exact end1 J (.inr (.inl ⟨hsys, hww, rfl, rfl⟩))
 ·refine kM J J (V0 J J (V0 J J (V0 J J (V0 J J (kO J (Q2 J J J (Q0 (U0 J (W1 (W0 (rS (kM J J (kM J J (Q0 (Z3 ?_)))))))))))))))
  exact end1 J (.inl ⟨by omega, rfl, rfl⟩)
theorem rmost_s (n : Nat) (ls : List (List Int)) (bm om M : Nat) (aw : Option Addr) (cw : Nat) (w : List Int) (s : St) (hs : Wf s) (hn : 3377699720527872 <= n) (hM : M <= 64) (h400 : ls.length <= 400) (hlm : lmB (M : Int) ls = true) (hm9 : TabE s bm om (M + 1) (wm ls (M + 1) (M + 1))) (hW : IntsE s aw w) (hCap : CapOk s aw w.length cw) (hwl : w.length = M + 1) (hwo : WOk w w.length) : Spec Tryz.prog (tabK tabw) X (n + 9000) 39 [.slice (some ⟨bm, om, none⟩) (M + 1) (M + 1), .slice aw w.length cw] s (fun v A => (Uns ls (M + 1) /\ v = .tuple #[.int .i64 0, .int .i64 23] /\ A = []) ∨ (¬ Uns ls (M + 1) /\ Opn ls (M + 1) (du0 w M) /\ v = .tuple #[.int .i64 0, .int .i64 22] /\ A = []) ∨ (¬ Uns ls (M + 1) /\ ∃ z, IsM ls M (du0 w M) z /\ v = .tuple #[.int .i64 (wq z), .int .i64 0] /\ A = [])) := by
 refine enter bw39_at rfl hs ?_;unfold bw39;refine rS (kM J J (kM J J (Q0 (rQ (rS (kM J J (kO J (Y5 J J (fun s1 h1 => sound_t _ bm om (M + 1) (wm ls (M + 1) (M + 1)) s1 h1.wf (by omega) (by omega) (hm9.ext hs h1.2.1)) (fun v1 A1 q1 => ?_)))))))));obtain ⟨q1, rfl⟩ := q1;rcases q1 with ⟨rfl, hsn⟩ | ⟨rfl, hsn⟩
 ·have hnu := (wm_snd hlm h400 hM).1 hsn
  obtain ⟨y, hyD, hym, hy, hyb⟩ := wm_dt hlm h400 hM hnu;refine kO J (U7 J (Q0 (U0 J (W1 (W0 (rS (kM J J (kM J J (kO J (Y5 J J (fun s1 h1 => least_s _ ls bm om M (wm ls (M + 1) (M + 1)) y aw cw w s1 h1.wf (by omega) hM hlm hyD hym (LS.start hyD hy hyb hwl hwo) (hm9.ext hs h1.2.1) (hW.ext hs h1.2.1) (hCap.ext hs h1.2.1) hwl hwo) (fun v1 A1 q1 => ?_)))))))))));rcases q1 with ⟨z, rfl, rfl, hz⟩ | ⟨z, rfl, rfl, hz⟩
  ·refine kM J J (kO J (W2 J J (kO J (W2 J J (kM J J (kM J J (Q0 (rQ (rS (kM J J (kO J (U7 J (Q0 (U0 J (W1 (W0 (rS (kM J J (kM J J (kM J J (Q0 (Z3 ?_))))))))))))))))))))))
   exact end2 J J (.inr (.inr ⟨hnu, _, hz, rfl, rfl⟩))
  ·refine kM J J (kO J (W2 J J (kO J (W2 J J (kM J J (kM J J (Q0 (rQ (rS (kM J J (kO J (U7 J (Q0 (Y0 J (rS (kM J J (kM J J (Q0 (Z3 (V3 ?_))))))))))))))))))))
   exact end2 J J (.inr (.inl ⟨hnu, hz, rfl, rfl⟩))
 ·have hun : Uns ls (M + 1) := Classical.byContradiction (fun q => hsn ((wm_snd hlm h400 hM).2 q))
  refine kO J (U7 J (Q0 (Y0 J (rS (kM J J (kM J J (Q0 (Z3 (V3 ?_)))))))));exact end2 J J (.inl ⟨hun, rfl, rfl⟩)
theorem rmost_n (n : Nat) (ls : List (List Int)) (bm om M : Nat) (aw : Option Addr) (cw nw : Nat) (w : List Int) (s : St) (hs : Wf s) (hn : 3377699720527872 <= n) (hM : M <= 64) (h400 : ls.length <= 400) (hlm : lmB (M : Int) ls = true) (hm9 : TabE s bm om (M + 1) (wm ls (M + 1) (M + 1))) (hW : IntsE s aw w) (hCap : CapOk s aw w.length cw) (hwl : w.length = M + 1) (hwo : WOk w w.length) (hnw : nw = w.length) : Spec Tryz.prog (tabK tabw) X (n + 9000) 39 [.slice (some ⟨bm, om, none⟩) (M + 1) (M + 1), .slice aw nw cw] s (fun v A => (Uns ls (M + 1) /\ v = .tuple #[.int .i64 0, .int .i64 23] /\ A = []) ∨ (¬ Uns ls (M + 1) /\ Opn ls (M + 1) (du0 w M) /\ v = .tuple #[.int .i64 0, .int .i64 22] /\ A = []) ∨ (¬ Uns ls (M + 1) /\ ∃ z, IsM ls M (du0 w M) z /\ v = .tuple #[.int .i64 (wq z), .int .i64 0] /\ A = [])) := by
 subst hnw;exact rmost_s n ls bm om M aw cw w s hs hn hM h400 hlm hm9 hW hCap hwl hwo
set_option maxRecDepth 100000 in
theorem rMost_s (n : Nat) (m : Int) (al : Option Addr) (cl : Nat) (ls : List (List Int)) (aw : Option Addr) (cw : Nat) (w : List Int) (s : St) (hs : Wf s) (hn : 4503599627370496 <= n) (hL : RowsE s 4 al ls) (hW : IntsE s aw w) (hCap : CapOk s aw w.length cw) : Spec Tryz.prog (tabK tabw) X (n + 9500) 8 [.agg ⟨[.int .i64 m, .slice al ls.length cl]⟩, .slice aw w.length cw] s (fun v A => (¬ sysE m ls = 0 /\ v = .tuple #[.int .i64 0, .int .i64 (sysE m ls)] /\ A = []) ∨ (sysE m ls = 0 /\ ¬ ((w.length : Int) = m + 1 /\ WOk w w.length) /\ v = .tuple #[.int .i64 0, .int .i64 27] /\ A = []) ∨ (sysE m ls = 0 /\ ((w.length : Int) = m + 1 /\ WOk w w.length) /\ Uns ls (m.toNat + 1) /\ v = .tuple #[.int .i64 0, .int .i64 23] /\ A = []) ∨ (sysE m ls = 0 /\ ((w.length : Int) = m + 1 /\ WOk w w.length) /\ ¬ Uns ls (m.toNat + 1) /\ Opn ls (m.toNat + 1) (du0 w m.toNat) /\ v = .tuple #[.int .i64 0, .int .i64 22] /\ A = []) ∨ (sysE m ls = 0 /\ ((w.length : Int) = m + 1 /\ WOk w w.length) /\ ¬ Uns ls (m.toNat + 1) /\ ∃ z, IsM ls m.toNat (du0 w m.toNat) z /\ v = .tuple #[.int .i64 (wq z), .int .i64 0] /\ A = [])) := by
 refine enter bw8_at rfl hs ?_;unfold bw8;have hlen := hL.len;have hlenW := hW.len;refine rS (kO J (a_box J J J (fun b1 => (kM J J (kM J J (Q0 (rS (kO J (U5 J (by decide) .here rfl (kM J J (kO J (Y5 J J (fun s1 h1 => asked_s _ m al cl ls aw cw w s1 h1.wf (by omega) (hL.ext hs h1.2.1) (hW.ext hs h1.2.1)) (fun v1 A1 q1 => ?_)))))))))))));rcases q1 with ⟨hsx, rfl, rfl⟩ | ⟨hsys, hww, rfl, rfl⟩ | ⟨hsys, hww, rfl, rfl⟩
 ·have hsx9 := hsx
  refine kM J J (Q0 (rQ (rS (kM J J (kO J (Z4 J J (fun h2 => ?_) (fun h2 => ?_)))))))
  ·refine Q0 (Y0 J (rS (kM J J (kM J J (kM J J (Q0 (Z3 (V3 ?_))))))))
   exact end2 J J (.inl ⟨hsx9, rfl, rfl⟩)
  ·exfalso; omega
 ·have hww9 := hww
  refine kM J J (Q0 (rQ (rS (kM J J (kO J (Z4 J J (fun _ => (Q0 (Y0 J (rS (kM J J (kM J J (kM J J (Q0 (Z3 (V3 ?_)))))))))) (fun h => absurd h (by decide))))))));exact end2 J J (.inr (.inl ⟨hsys, hww9, rfl, rfl⟩))
 ·have hww0 := hww
  obtain ⟨hm0, hM, h400, hlm⟩ := sysE_ok hsys;obtain ⟨M, rfl⟩ : ∃ q : Nat, m = (q : Int) := ⟨m.toNat, by omega⟩;have hM : M <= 64 := by omega
  have h400 : ls.length <= 400 := by omega
  obtain ⟨hwl0, hwo⟩ := hww;have hwl : w.length = M + 1 := by omega
  refine kM J J (Q0 (rQ (rS (kM J J (kO J (Z4 J J (fun h => absurd h (by decide)) (fun _ => (Q0 (U0 J (W1 (W0 (rS (kO J (U5 J (by decide) .here rfl (kO J (Y5 J J (fun s1 h1 => rWays_s _ M al cl ls s1 h1.wf (by omega) (hL.ext hs h1.2.1) hM hlm) (fun v1 A1 q1 => ?_)))))))))))))))));obtain ⟨bw5, Bw6, rfl, rfl⟩ := q1;rw [List.append_assoc, List.singleton_append];refine kM J J (kO J (Y5 J J (fun s1 h1 => rmost_s _ ls bw5 0 M aw cw w s1 h1.wf (by omega) hM h400 hlm (TabE.own h1 (.app .here) (fun i hi => (own_seg hi))) (hW.ext hs h1.2.1) (hCap.ext hs h1.2.1) hwl hwo) (fun v1 A1 q1 => ?_)));rcases q1 with ⟨hun, rfl, rfl⟩ | ⟨hnu, hop, rfl, rfl⟩ | ⟨hnu, q1⟩
  ·refine kO J (W2 J J (kO J (W2 J J (kM J J (kM J J (Q0 (Z3 ?_)))))))
   exact end2 J J (.inr (.inr (.inl ⟨hsys, hww0, hun, rfl, rfl⟩)))
  ·refine kO J (W2 J J (kO J (W2 J J (kM J J (kM J J (Q0 (Z3 ?_)))))))
   exact end2 J J (.inr (.inr (.inr (.inl ⟨hsys, hww0, hnu, hop, rfl, rfl⟩))))
  ·obtain ⟨z, hz, rfl, rfl⟩ := q1
   rw [List.nil_append (seg _ _ _ _ ++ _)];refine kO J (W2 J J (kO J (W2 J J (kM J J (kM J J (Q0 (Z3 ?_)))))));exact end2 J J (.inr (.inr (.inr (.inr ⟨hsys, hww0, hnu, _, hz, rfl, rfl⟩))))
set_option maxRecDepth 100000 in
theorem rRange_s (n : Nat) (m : Int) (al : Option Addr) (cl : Nat) (ls : List (List Int)) (aw : Option Addr) (cw : Nat) (w : List Int) (s : St) (hs : Wf s) (hn : 4503599627370496 <= n) (hL : RowsE s 4 al ls) (hW : IntsE s aw w) (hCap : CapOk s aw w.length cw) : Spec Tryz.prog (tabK tabw) X (n + 10500) 10 [.agg ⟨[.int .i64 m, .slice al ls.length cl]⟩, .slice aw w.length cw] s (fun v A => (∃ e, (e = sysE m ls ∨ e = 27 ∨ e = 23) /\ ¬ e = 0 /\ (sysE m ls = 0 -> ((w.length : Int) = m + 1 /\ WOk w w.length) -> e = 23 /\ Uns ls (m.toNat + 1)) /\ (¬ sysE m ls = 0 -> e = sysE m ls) /\ (sysE m ls = 0 -> ¬ ((w.length : Int) = m + 1 /\ WOk w w.length) -> e = 27) /\ v = .tuple #[.int .i64 0, .int .i64 0, .int .i64 e] /\ A = []) ∨ (sysE m ls = 0 /\ ((w.length : Int) = m + 1 /\ WOk w w.length) /\ ¬ Uns ls (m.toNat + 1) /\ (Opn ls (m.toNat + 1) (du0 w m.toNat) ∨ Opn ls (m.toNat + 1) (du0 (NG w) m.toNat)) /\ v = .tuple #[.int .i64 0, .int .i64 0, .int .i64 22] /\ A = []) ∨ (sysE m ls = 0 /\ ((w.length : Int) = m + 1 /\ WOk w w.length) /\ ¬ Uns ls (m.toNat + 1) /\ ∃ z z2, IsM ls m.toNat (du0 w m.toNat) z /\ IsM ls m.toNat (du0 (NG w) m.toNat) z2 /\ v = .tuple #[.int .i64 (wq (-(wq z2))), .int .i64 (wq z), .int .i64 0] /\ A = [])) := by
 refine enter bw10_at rfl hs ?_;unfold bw10;have hlen := hL.len;have hlenW := hW.len;refine rS (kO J (a_box J J J (fun b1 => (kM J J (kM J J (kM J J (Q0 (rS (kO J (U5 J (by decide) .here rfl (kM J J (kO J (Y5 J J (fun s1 h1 => asked_s _ m al cl ls aw cw w s1 h1.wf (by omega) (hL.ext hs h1.2.1) (hW.ext hs h1.2.1)) (fun v1 A1 q1 => ?_))))))))))))));rcases q1 with ⟨hsx, rfl, rfl⟩ | ⟨hsys, hww, rfl, rfl⟩ | ⟨hsys, hww, rfl, rfl⟩
 ·have hsx9 := hsx
  refine kM J J (Q0 (rQ (rS (kM J J (kO J (Z4 J J (fun h2 => ?_) (fun h2 => ?_)))))))
  ·refine Q0 (Y0 J (rS (kM J J (kM J J (kM J J (kM J J (Q0 (Z3 (V3 ?_)))))))))
   exact end3A J J J (List.nil_sublist _) (.inl ⟨_, .inl rfl, hsx9, fun q => absurd q hsx9, fun _ => rfl, fun q => absurd q hsx9, rfl, rfl⟩)
  ·exfalso; omega
 ·have hww9 := hww
  refine kM J J (Q0 (rQ (rS (kM J J (kO J (Z4 J J (fun _ => (Q0 (Y0 J (rS (kM J J (kM J J (kM J J (kM J J (Q0 (Z3 (V3 ?_))))))))))) (fun h => absurd h (by decide))))))));exact end3A J J J (List.nil_sublist _) (.inl ⟨27, .inr (.inl rfl), by decide, fun _ q => absurd q hww9, fun q => absurd hsys q, fun _ _ => rfl, rfl, rfl⟩)
 ·have hww0 := hww
  obtain ⟨hm0, hM, h400, hlm⟩ := sysE_ok hsys;obtain ⟨M, rfl⟩ : ∃ q : Nat, m = (q : Int) := ⟨m.toNat, by omega⟩;have hM : M <= 64 := by omega
  have h400 : ls.length <= 400 := by omega
  obtain ⟨hwl0, hwo⟩ := hww;have hwl : w.length = M + 1 := by omega
  refine kM J J (Q0 (rQ (rS (kM J J (kO J (Z4 J J (fun h => absurd h (by decide)) (fun _ => (Q0 (U0 J (W1 (W0 (rS (kO J (U5 J (by decide) .here rfl (kM J J (kG J J (a_inl J J bw42_at rfl ?_)))))))))))))))));unfold bw42;refine rS (kO J (a_box J J J (fun b5 => (kM J J (kM J J (kM J J (Q0 (rS (kO J (U5 J (by decide) .here rfl (kO J (Y5 J J (fun s1 h1 => rWays_s _ M al cl ls s1 h1.wf (by omega) (hL.ext hs h1.2.1) hM hlm) (fun v1 A1 q1 => ?_)))))))))))));obtain ⟨bw6, Bw7, rfl, rfl⟩ := q1;rw [List.append_assoc, List.singleton_append];refine kM J J (Q0 (rS (kM J J (kM J J (kO J (Y5 J J (fun s1 h1 => rmost_s _ ls bw6 0 M aw cw w s1 h1.wf (by omega) hM h400 hlm (TabE.own h1 (.app .here) (fun i hi => (own_seg hi))) (hW.ext hs h1.2.1) (hCap.ext hs h1.2.1) hwl hwo) (fun v1 A1 q1 => ?_)))))));rcases q1 with ⟨hun, rfl, rfl⟩ | ⟨hnu, hop, rfl, rfl⟩ | ⟨hnu, q1⟩
  ·refine kM J J (kO J (W2 J J (kO J (W2 J J (kM J J (kM J J (Q0 (rQ (rS (kM J J (kO J (Z4 J J (fun _ => (Q0 (Y0 J (rS (kM J J (kM J J (kM J J (kM J J (Q0 (Z3 (V3 (endD3A J J J .nil (.refl _) (kO J (W2 J J (kO J (W2 J J (kO J (W2 J J ?_)))))))))))))))))) (fun h => absurd h (by decide))))))))))))))
   refine kM J J (kM J J (kM J J (Q0 (Z3 ?_))));exact end3A J J J (List.nil_sublist _) (.inl ⟨23, .inr (.inr rfl), by decide, fun _ _ => ⟨rfl, hun⟩, fun q => absurd hsys q, fun _ q => absurd hww0 q, rfl, rfl⟩)
  ·refine kM J J (kO J (W2 J J (kO J (W2 J J (kM J J (kM J J (Q0 (rQ (rS (kM J J (kO J (Z4 J J (fun _ => (Q0 (Y0 J (rS (kM J J (kM J J (kM J J (kM J J (Q0 (Z3 (V3 (endD3A J J J .nil (.refl _) (kO J (W2 J J (kO J (W2 J J (kO J (W2 J J ?_)))))))))))))))))) (fun h => absurd h (by decide))))))))))))))
   refine kM J J (kM J J (kM J J (Q0 (Z3 ?_))));exact end3A J J J (List.nil_sublist _) (.inr (.inl ⟨hsys, hww0, (by first | exact hnu1 | exact hnu), (by first | exact .inl hop | exact .inr hop), rfl, rfl⟩))
  ·obtain ⟨z, hz, rfl, rfl⟩ := q1
   rw [List.nil_append (seg _ _ _ _ ++ _)];refine kM J J (kO J (W2 J J (kO J (W2 J J (kM J J (kM J J (Q0 (rQ (rS (kM J J (kO J (Z4 J J (fun h => absurd h (by decide)) (fun _ => (Q0 (U0 J (W1 (W0 (rS (kM J J (kM J J (kO J (Y5 J J (fun s1 h1 => negative_s _ aw cw w s1 h1.wf (by omega) (hW.ext hs h1.2.1) (fun i hi => by have := wok_at hwo hi; omega) (by omega) (by omega)) (fun v1 A1 q1 => ?_)))))))))))))))))))))));obtain ⟨bg11, rfl, rfl⟩ := q1;rw [List.singleton_append];have hnu1 := hnu;refine kO J (Y5 J J (fun s1 h1 => rmost_n _ ls bw6 0 M _ _ _ (NG w) s1 h1.wf (by omega) hM h400 hlm (TabE.own h1 (.next (.app .here)) (fun i hi => (.next (own_seg hi)))) (IntsE.own (h1.own .here) (ng_fit hwo) (by rw [ng_len]; omega)) (CapOk.own (h1.own .here) (by rw [ints_len]; exact Nat.le_refl _)) (by rw [ng_len]; exact hwl) (ng_wok hwo) ng_len.symm) (fun v1 A1 q1 => ?_));rcases q1 with ⟨hun, rfl, rfl⟩ | ⟨hnu, hop, rfl, rfl⟩ | ⟨hnu, q1⟩
   ·refine kM J J (kO J (W2 J J (kO J (W2 J J (kM J J (kM J J (Q0 (rQ (rS (kM J J (kO J (Z4 J J (fun _ => (Q0 (Y0 J (rS (kM J J (kM J J (kM J J (kM J J (Q0 (Z3 (V3 (endD3A J J J .nil (.refl _) (kO J (W2 J J (kO J (W2 J J (kO J (W2 J J ?_)))))))))))))))))) (fun h => absurd h (by decide))))))))))))))
    refine kM J J (kM J J (kM J J (Q0 (Z3 ?_))));exact end3A J J J (List.nil_sublist _) (.inl ⟨23, .inr (.inr rfl), by decide, fun _ _ => ⟨rfl, hun⟩, fun q => absurd hsys q, fun _ q => absurd hww0 q, rfl, rfl⟩)
   ·refine kM J J (kO J (W2 J J (kO J (W2 J J (kM J J (kM J J (Q0 (rQ (rS (kM J J (kO J (Z4 J J (fun _ => (Q0 (Y0 J (rS (kM J J (kM J J (kM J J (kM J J (Q0 (Z3 (V3 (endD3A J J J .nil (.refl _) (kO J (W2 J J (kO J (W2 J J (kO J (W2 J J ?_)))))))))))))))))) (fun h => absurd h (by decide))))))))))))))
    refine kM J J (kM J J (kM J J (Q0 (Z3 ?_))));exact end3A J J J (List.nil_sublist _) (.inr (.inl ⟨hsys, hww0, (by first | exact hnu1 | exact hnu), (by first | exact .inl hop | exact .inr hop), rfl, rfl⟩))
   ·obtain ⟨z2, hz2, rfl, rfl⟩ := q1
    refine kM J J (kO J (W2 J J (kO J (W2 J J (kM J J (kM J J (Q0 (rQ (rS (kM J J (kO J (Z4 J J (fun h => absurd h (by decide)) (fun _ => (Q0 (U0 J (W1 (W0 (rS (kM J J (kO J (a_negW J (kM J J (kM J J (kM J J (kM J J (Q0 (Z3 (endD3A J J J .nil (.refl _) ?_))))))))))))))))))))))))))));refine kO J (W2 J J (kO J (W2 J J (kO J (W2 J J (kM J J (kM J J (kM J J (Q0 (Z3 ?_))))))))));exact end3A J J J (List.nil_sublist _) (.inr (.inr ⟨hsys, hww0, hnu1, z, z2, hz, hz2, rfl, rfl⟩))
end
def unet (ls us : List (List Int)) : Nat -> Nat -> Int
 | 0 => fun _ => 0
 | k + 1 => Z2 (Z2 (unet ls us k) (lb ls (pf us k)) (unet ls us k (lb ls (pf us k)) + pn us k)) (la ls (pf us k)) (Z2 (unet ls us k) (lb ls (pf us k)) (unet ls us k (lb ls (pf us k)) + pn us k) (la ls (pf us k)) - pn us k)
theorem un_mis {ls us : List (List Int)} {m : Nat -> Int} {v : Nat} : ∀ {k : Nat}, unet ls us k v = m v - umis ls us m k v
 | 0 => by show (0 : Int) = m v - m v; omega
 | k + 1 => by
  have h0 := un_mis (ls := ls) (us := us) (m := m) (v := v) (k := k);have h1 := un_mis (ls := ls) (us := us) (m := m) (v := lb ls (pf us k)) (k := k);have h2 := un_mis (ls := ls) (us := us) (m := m) (v := la ls (pf us k)) (k := k);show Z2 _ _ _ v = m v - Z2 _ _ _ v;by_cases e1 : v = la ls (pf us k)
  ·rw [e1, V2, V2]
   by_cases e2 : la ls (pf us k) = lb ls (pf us k)
   ·rw [e2, V2, V2]; omega
   ·rw [Q1 e2, Q1 e2]; omega
  ·rw [Q1 e1, Q1 e1]
   by_cases e2 : v = lb ls (pf us k)
   ·rw [e2, V2, V2]; omega
   ·rw [Q1 e2, Q1 e2]; omega
theorem bef_pred {us : List (List Int)} {k : Nat} {z0 z1 : Int} (hk : 0 < k) (h : us[k - 1]? = some [z0, z1]) : bef us k = z0 := by
 obtain ⟨j, rfl⟩ : ∃ j, k = j + 1 := ⟨k - 1, by omega⟩;exact (u_row h).1
section
variable {X : FuncId -> List Value -> St -> (Value -> St -> Bool) -> Bool}
theorem rCheckProof_k (n : Nat) (M : Nat) (al : Option Addr) (cl : Nat) (ls : List (List Int)) (aw : Option Addr) (cw : Nat) (w : List Int) (ap : Option Addr) (cp : Nat) (us : List (List Int)) (bd : Int) (s : St) (hs : Wf s) (hn : 1688849860263936 <= n) (hL : RowsE s 4 al ls) (hW : IntsE s aw w) (hU : RowsE s 2 ap us) (hu : us.length <= 400) (hsys : sysE (M : Int) ls = 0) (hwl : w.length = M + 1) (hwo : WOk w w.length) (had : AdP ls us w M bd) : Spec Tryz.prog (tabK tabw) X (n + 1800) 15 [.agg ⟨[.int .i64 (M : Int), .slice al ls.length cl]⟩, .slice aw w.length cw, .agg ⟨[.int .i64 bd, .slice ap us.length cp]⟩] s (fun v A => v = .int .i64 0 /\ A = []) := by
 refine enter bw15_at rfl hs ?_;unfold bw15;have hlen := hL.len;have hlenW := hW.len;have hlenU := hU.len;obtain ⟨hm0, hM64, h4, hlm⟩ := sysE_ok hsys;have hM : M <= 64 := by omega
 have h400 : ls.length <= 400 := by omega
 have hwb : ∀ v, v < M + 1 -> -3600000000000 <= w.getD v 0 /\ w.getD v 0 <= 3600000000000 := fun v hv => wok_at hwo (by omega)
 refine rS (kO J (a_box J J J (fun b1 => (kO J (a_box J J J (fun b2 => (kM J J (Q0 (rS (kO J (U5 J (by decide) (.next .here) J (kM J J (kO J (Y5 J J (fun s1 h1 => asked_s _ (M : Int) al cl ls aw cw w s1 h1.wf (by omega) (hL.ext hs h1.2.1) (hW.ext hs h1.2.1)) (fun v1 A1 q1 => ?_)))))))))))))));rcases q1 with ⟨hsx, rfl, rfl⟩ | ⟨hsy, hww, rfl, rfl⟩ | ⟨hsy, hww, rfl, rfl⟩
 ·exact absurd hsys hsx
 ·exact absurd ⟨by omega, hwo⟩ hww
 ·refine kM J J (Q0 (rQ (rS (kM J J (kO J (Z4 J J (fun h => absurd h (by decide)) (fun _ => (Q0 (U0 J (W1 (W0 (rQ (rS (kO J (U2 J (kO J (U1 J .here rfl (kO J (a_lenx J (by first | exact hL.spot | exact hU.spot | exact hW.spot) (kO J (a_gtr J J (fun h4 => ?_) (fun h4 => ?_))))))))))))))))))))))
  ·exfalso; omega
  ·refine Q0 (U0 J (W1 (W0 (rS (kO J (U2 J (kO J (U1 J (.next .here) J (kO J (Q4 J J (by omega) (kO J (a_mksZ (m := M + 1) J J (by omega) (by omega) (by omega) (fun b5 => (kM J J (Q0 (rS (kM J J (Q0 (rS (kM J J (Q0 (rQ (rS (kO J (U2 J (kO J (U1 J (.next .here) J (kO J (a_lenx J (by first | exact hL.spot | exact hU.spot | exact hW.spot) (kM J J (Q0 ?_)))))))))))))))))))))))))))))))
   refine Z1 ?_;rw [rep_xs0 (n := M + 1), show xs (fun _ => 0) (M + 1) = xs (unet ls us 0) (M + 1) from rfl];refine Z5 (fun j e A => ∃ (k : Nat), e = [(1, .slice aw w.length cw), (3, .pointer (some ⟨b1, 0, none⟩)), (5, .pointer (some ⟨b2, 0, none⟩)), (8, .slice (some ⟨b5, 0, none⟩) (M + 1) (M + 1)), (9, .int .i64 (tot (pn us) k)), (10, .int .i64 (tot (fun j => pn us j * uz ls us j) k)), (30, .slice ap us.length cp), (31, .int .i64 (us.length : Int)), (32, .int .i64 (k : Int))] /\ A = (.row b5 3 false (ints (xs (unet ls us k) (M + 1))) :: (.row b2 35 false ([.int .i64 bd, .slice ap us.length cp]) :: (.row b1 24 false ([.int .i64 (M : Int), .slice al ls.length cl]) :: []))) /\ j = us.length - k /\ k <= us.length) 400 281474976710656 281474976710656 ?_ (j := _) (env2 := _) (A2 := _) ?_ ?_ ?_ ?_ ⟨0, rfl, rfl, rfl, Nat.zero_le _⟩
   rotate_left
   ·omega
   ·omega
   ·exact (lc 1 J (lc 3 J (lc 5 J (lc 8 J (lc 9 J (lc 10 J (lc 30 J (lc 31 J (lc 32 J Less.nil)))))))))
   ·exact (.q (.q (.q .slnil)))
   rintro n hn j _ _ ⟨k, rfl, rfl, rfl, hk⟩;have hUk : UkP ls us k := fun j hj => had.1 j (by omega)
   have hbe := hUk.bef;have hto := hUk.tot;have hub := um_bd hwb hUk;have hus := us_bd hlm hUk;have hun := fun v => un_mis (ls := ls) (us := us) (m := (fun v => w.getD v 0)) (v := v) (k := k)
   refine rS (kO J (Q6 J J (fun h6 => ?_) (fun h6 => ?_)))
   ·obtain ⟨q5, o5, z0, z1, ahU, hux, huat, j0, j1⟩ := hU.row2 (k := k) (by omega)
    have := j0.lo; have := j0.hi; have := j1.lo; have := j1.hi;obtain ⟨ur1, ur2⟩ := u_row hux;have hq := had.1 k (by omega);have e9 : tot (pn us) (k + 1) = tot (pn us) k + pn us k := rfl;obtain ⟨li, rfl⟩ : ∃ q : Nat, z0 = (q : Int) := ⟨z0.toNat, by omega⟩;refine Q0 (rQ (Y0 J (W1 (W0 (rQ (Z1 (rS (kM J J (kO J (a_iaA (j := k) ahU rfl rfl (by first | rfl | omega) (by first | decide | omega) (kO J (a_ldar J (by decide) (by assumption) J (kO J (a_new J J (fun b7 => (kM J J (kZ J (Q7 J J .here rfl rfl rfl rfl (Q0 (rQ (rS (kO J (U2 J (kO J (U1 J .here rfl (kO J (U2 J (kO J (U1 J (.next (.next (.next .here))) J (kO J (a_lenx J (by first | exact hL.spot | exact hU.spot | exact hW.spot) (kO J (a_sub J J (by omega) (kO J (a_callB J J (fun s1 h1 => rwithin_s _ _ _ _ s1 h1.wf) (fun h8 => ?_) (fun h8 => ?_))))))))))))))))))))))))))))))))))))
    ·refine kO J (U7 J (kM J J (kG J J (Y3 J (kG J J (a_gtr J J (fun h9 => ?_) (fun h9 => ?_)))))))
     ·obtain ⟨q6, o6, x0, x1, ahV, hvx, hvat, l0, l1⟩ := hU.row2 (k := k - 1) (by omega)
      have e7 := ahU.symm.trans ahV;cases e7;obtain ⟨dv0, _⟩ := hvat;have hbf := bef_pred (by omega) hvx;refine kG J J (Y3 J (kG J J (U2 J (kG J J (U1 J (.next (.next .here)) J (kG J J (Y3 J (kG J J (a_sub J J (by omega) ?_)))))))));rw [show ((k : Int) - 1) = ((k - 1 : Nat) : Int) from by omega];refine kG J J (a_iaA (j := (k - 1)) ahU rfl rfl (by first | rfl | omega) (by first | decide | omega) (kG J J (U2 J (kG J J (W7 J (by assumption) (kG J J (U2 J (kG J J (U1 J .here rfl (kG J J (a_geq J J (fun h10 => ?_) (fun h10 => ?_))))))))))))
      ·exfalso; omega
      ·refine kG J J (Q3 J J J (kO J (Q2 J J J (kM J J (kG J J (U2 J (kG J J (U1 J .here rfl (kG J J (a_callB J J (fun s1 h1 => rwithin_s _ _ _ _ s1 h1.wf) (fun h11 => ?_) (fun h11 => ?_)))))))))))
       ·refine kG J J (U7 J (kO J (Q2 J J J (Q0 (U0 J (W1 (W0 (rS (kM J J (kO J (U2 J (kO J (U1 J .here rfl (kO J (Q4 J J (by omega) (kM J J (Q0 (rQ (rS (kM J J (kO J (a_gtr J J (fun h12 => ?_) (fun h12 => ?_)))))))))))))))))))))))
        ·exfalso; omega
        ·refine Q0 (U0 J (W1 (W0 (rS (kO J (U2 J (kO J (U1 J (.next (.next (.next .here))) J (kO J (U2 J (kO J (U1 J .here rfl ?_))))))))))))
         obtain ⟨q4, o4, y0, y1, y2, y3, ahL, hx, hat, i0, i1, i2, i3⟩ := hL.row4 (k := li) (by omega);have hat2 := hat;obtain ⟨d0, d1, d2, d3, _⟩ := hat2;have := i0.lo; have := i0.hi;have := i1.lo; have := i1.hi;have := i2.lo; have := i2.hi;have := i3.lo; have := i3.hi;obtain ⟨fl1, fl2, fl3⟩ : la ls li = y0.toNat /\ lb ls li = y1.toNat /\ lw ls li = y2 := by
          have e9 : ls.getD li [] = [y0, y1, y2, y3] := by rw [List.getD_eq_getElem?_getD, hx]; rfl
          unfold la lb lw; rw [e9]; exact ⟨rfl, rfl, rfl⟩
         obtain ⟨hg1, hg2, hg3, hg4, hg5, y9, hx9⟩ := lg_of hlm li (by omega);rw [hx] at hx9;simp only [Option.some.injEq, List.cons.injEq, and_true] at hx9;obtain ⟨e0, e1, e2, e3⟩ := hx9;subst e0 e1 e2;have := hub _ hg1;have := hub _ hg2;have := hun (la ls li);have := hun (lb ls li);have := hwb _ hg1;have := hwb _ hg2;refine kO J (a_iaA (j := li) ahL rfl rfl (by first | rfl | omega) (by first | decide | omega) (kO J (a_ldar J (by decide) (by assumption) J (kO J (a_new J J (fun b13 => (kZ J (Q7 J J .here rfl rfl rfl rfl (Q0 (rS (kM J J (kO J (U2 J (kO J (U1 J .here rfl (kO J (Y4 (j := (lb ls li)) J J (by omega) (by omega) (kO J (V5 (x := (unet ls us k) ((lb ls li))) J (.next (.next .here)) (by rw [W4]; omega) (V4 (by omega)) (kO J (U2 J (kO J (U1 J (.next .here) J (kO J (Q4 J J (by omega) (kO J (Y4 (j := (lb ls li)) J J (by omega) (by omega) (kZ J (W8 J J (by rw [xs_set]; exact (.next (.next .here))) (by rw [W4]; omega) (Q0 (rS (kM J J (kO J (U2 J (kO J (U1 J .here rfl (kO J (Y4 (j := (la ls li)) J J (by omega) (by omega) ?_))))))))))))))))))))))))))))))))))))));have hud : Z2 (unet ls us k) (lb ls li) (unet ls us k (lb ls li) + z1) (la ls li) = unet ls us k (la ls li) := Q1 hg3;refine kO J (V5 J (.next (.next .here)) (by rw [W4]; omega) (V4 (by omega)) (kO J (U2 J (kO J (U1 J (.next .here) J (kO J (a_sub J J (by omega) (kO J (Y4 (j := (la ls li)) J J (by omega) (by omega) (kZ J (W8 J J (by rw [xs_set]; exact (.next (.next .here))) (by rw [W4]; omega) (Q0 (rI (kM J J (kO J (U2 J (kO J (U1 J (.next .here) J (kO J (U2 J (kO J (U1 J .here rfl ?_))))))))))))))))))))));have hpr := sum_pr (t := z1) (z := lw ls li) (by omega) (lw_bd' hlm (by omega));refine kO J (a_mul J J (by omega) (kO J (Q4 J J (by omega) (kM J J (Q0 (V1 (W0 (rI (kO J (Q4 J J (by omega) (kM J J (Q0 (W0 ?_)))))))))))));exact ⟨rfl, _, _, _, (show us.length - (k + 1) < us.length - k by omega), (lc 1 J (lc 3 J (lc 5 J (lc 8 J (lc 9 (by show some (Value.int .i64 (tot (pn us) k + z1)) = some (Value.int .i64 (tot (pn us) k + pn us k)); rw [(u_row hux).2]) (lc 10 (by show some (Value.int .i64 (_ + z1 * lw ls li)) = some (Value.int .i64 (tot (fun j => pn us j * uz ls us j) k + pn us k * lw ls (pf us k))); rw [(u_row hux).2, u_pf hux]) (lc 30 J (lc 31 J (lc 32 J Less.nil))))))))), (.cons _ (.cons _ (.q (.q (.q .slnil))))), ⟨k + 1, rfl, (by rw [show unet ls us (k + 1) = Z2 (Z2 (unet ls us k) (lb ls li) (unet ls us k (lb ls li) + z1)) (la ls li) (Z2 (unet ls us k) (lb ls li) (unet ls us k (lb ls li) + z1) (la ls li) - z1) from by rw [<- u_pf hux, <- (u_row hux).2]; rfl]), rfl, by omega⟩⟩
       ·exfalso; omega
     ·refine kG J J (Y3 J (V0 J J (V0 J J (V0 J J (V0 J J (V0 J J (V0 J J (V0 J J (V0 J J (V0 J J (V0 J J (kG J J (Q2 J J J (kO J (Q2 J J J (kM J J (kG J J (U2 J (kG J J (U1 J .here rfl (kG J J (a_callB J J (fun s1 h1 => rwithin_s _ _ _ _ s1 h1.wf) (fun h14 => ?_) (fun h14 => ?_)))))))))))))))))))))))
      ·refine kG J J (U7 J (kO J (Q2 J J J (Q0 (U0 J (W1 (W0 (rS (kM J J (kO J (U2 J (kO J (U1 J .here rfl (kO J (Q4 J J (by omega) (kM J J (Q0 (rQ (rS (kM J J (kO J (a_gtr J J (fun h15 => ?_) (fun h15 => ?_)))))))))))))))))))))))
       ·exfalso; omega
       ·refine Q0 (U0 J (W1 (W0 (rS (kO J (U2 J (kO J (U1 J (.next (.next (.next .here))) J (kO J (U2 J (kO J (U1 J .here rfl ?_))))))))))))
        obtain ⟨q4, o4, y0, y1, y2, y3, ahL, hx, hat, i0, i1, i2, i3⟩ := hL.row4 (k := li) (by omega);have hat2 := hat;obtain ⟨d0, d1, d2, d3, _⟩ := hat2;have := i0.lo; have := i0.hi;have := i1.lo; have := i1.hi;have := i2.lo; have := i2.hi;have := i3.lo; have := i3.hi;obtain ⟨fl1, fl2, fl3⟩ : la ls li = y0.toNat /\ lb ls li = y1.toNat /\ lw ls li = y2 := by
         have e9 : ls.getD li [] = [y0, y1, y2, y3] := by rw [List.getD_eq_getElem?_getD, hx]; rfl
         unfold la lb lw; rw [e9]; exact ⟨rfl, rfl, rfl⟩
        obtain ⟨hg1, hg2, hg3, hg4, hg5, y9, hx9⟩ := lg_of hlm li (by omega);rw [hx] at hx9;simp only [Option.some.injEq, List.cons.injEq, and_true] at hx9;obtain ⟨e0, e1, e2, e3⟩ := hx9;subst e0 e1 e2;have := hub _ hg1;have := hub _ hg2;have := hun (la ls li);have := hun (lb ls li);have := hwb _ hg1;have := hwb _ hg2;refine kO J (a_iaA (j := li) ahL rfl rfl (by first | rfl | omega) (by first | decide | omega) (kO J (a_ldar J (by decide) (by assumption) J (kO J (a_new J J (fun b16 => (kZ J (Q7 J J .here rfl rfl rfl rfl (Q0 (rS (kM J J (kO J (U2 J (kO J (U1 J .here rfl (kO J (Y4 (j := (lb ls li)) J J (by omega) (by omega) (kO J (V5 (x := (unet ls us k) ((lb ls li))) J (.next (.next .here)) (by rw [W4]; omega) (V4 (by omega)) (kO J (U2 J (kO J (U1 J (.next .here) J (kO J (Q4 J J (by omega) (kO J (Y4 (j := (lb ls li)) J J (by omega) (by omega) (kZ J (W8 J J (by rw [xs_set]; exact (.next (.next .here))) (by rw [W4]; omega) (Q0 (rS (kM J J (kO J (U2 J (kO J (U1 J .here rfl (kO J (Y4 (j := (la ls li)) J J (by omega) (by omega) ?_))))))))))))))))))))))))))))))))))))));have hud : Z2 (unet ls us k) (lb ls li) (unet ls us k (lb ls li) + z1) (la ls li) = unet ls us k (la ls li) := Q1 hg3;refine kO J (V5 J (.next (.next .here)) (by rw [W4]; omega) (V4 (by omega)) (kO J (U2 J (kO J (U1 J (.next .here) J (kO J (a_sub J J (by omega) (kO J (Y4 (j := (la ls li)) J J (by omega) (by omega) (kZ J (W8 J J (by rw [xs_set]; exact (.next (.next .here))) (by rw [W4]; omega) (Q0 (rI (kM J J (kO J (U2 J (kO J (U1 J (.next .here) J (kO J (U2 J (kO J (U1 J .here rfl ?_))))))))))))))))))))));have hpr := sum_pr (t := z1) (z := lw ls li) (by omega) (lw_bd' hlm (by omega));refine kO J (a_mul J J (by omega) (kO J (Q4 J J (by omega) (kM J J (Q0 (V1 (W0 (rI (kO J (Q4 J J (by omega) (kM J J (Q0 (W0 ?_)))))))))))));exact ⟨rfl, _, _, _, (show us.length - (k + 1) < us.length - k by omega), (lc 1 J (lc 3 J (lc 5 J (lc 8 J (lc 9 (by show some (Value.int .i64 (tot (pn us) k + z1)) = some (Value.int .i64 (tot (pn us) k + pn us k)); rw [(u_row hux).2]) (lc 10 (by show some (Value.int .i64 (_ + z1 * lw ls li)) = some (Value.int .i64 (tot (fun j => pn us j * uz ls us j) k + pn us k * lw ls (pf us k))); rw [(u_row hux).2, u_pf hux]) (lc 30 J (lc 31 J (lc 32 J Less.nil))))))))), (.cons _ (.cons _ (.q (.q (.q .slnil))))), ⟨k + 1, rfl, (by rw [show unet ls us (k + 1) = Z2 (Z2 (unet ls us k) (lb ls li) (unet ls us k (lb ls li) + z1)) (la ls li) (Z2 (unet ls us k) (lb ls li) (unet ls us k (lb ls li) + z1) (la ls li) - z1) from by rw [<- u_pf hux, <- (u_row hux).2]; rfl]), rfl, by omega⟩⟩
      ·exfalso; omega
    ·exfalso; omega
   ·refine Q0 (rQ (U0 J (W5 (W3 (W3 (U3 (W0 (rQ (rS (kM J J (Q0 (Z1 ?_))))))))))))
    have hku : k = us.length := by omega
    subst hku;refine Z5 (fun j e A => ∃ (v : Nat), e = [(1, .slice aw w.length cw), (3, .pointer (some ⟨b1, 0, none⟩)), (5, .pointer (some ⟨b2, 0, none⟩)), (8, .slice (some ⟨b5, 0, none⟩) (M + 1) (M + 1)), (10, .int .i64 (tot (fun j => pn us j * uz ls us j) us.length)), (14, .int .i64 (v : Int))] /\ A = (.row b5 3 false (ints (xs (unet ls us us.length) (M + 1))) :: (.row b2 35 false ([.int .i64 bd, .slice ap us.length cp]) :: (.row b1 24 false ([.int .i64 (M : Int), .slice al ls.length cl]) :: []))) /\ j = M + 1 - v /\ 1 <= v /\ v <= M + 1) 200 0 281474976710656 ?_ (j := _) (env2 := _) (A2 := _) ?_ ?_ ?_ ?_ ⟨1, rfl, rfl, rfl, ⟨Nat.le_refl _, by omega⟩⟩
    rotate_left
    ·omega
    ·omega
    ·exact (lc 1 J (lc 3 J (lc 5 J (lc 8 J (lc 10 J (lc 14 J Less.nil))))))
    ·exact (.q (.q (.q .slnil)))
    rintro n hn j _ _ ⟨v, rfl, rfl, rfl, hv1⟩;refine rQ (rS (kM J J (kO J (U2 J (kO J (U1 J (.next (.next .here)) J (kO J (a_leq J J (fun h17 => ?_) (fun h17 => ?_)))))))))
    ·refine Q0 (Y0 J (W1 (W0 (rQ (Z1 (rS (kM J J (kM J J (kO J (Y4 (j := v) J J (by omega) (by omega) (kO J (V5 (x := (unet ls us us.length) (v)) J .here (by rw [W4]; omega) (V4 (by omega)) (kM J J (kM J J (kO J (Q8 (j := v) hW rfl rfl (by omega) (by first | rfl | omega) (by omega) (fun _ _ a18 => (kO J (W7 J (hW.at a18 (by omega)) (kO J (Z4 J J (fun h19 => ?_) (fun h19 => ?_))))))))))))))))))))))
     ·exfalso; have := had.2.2 v (by omega) (by omega); have := un_mis (ls := ls) (us := us) (m := (fun v => w.getD v 0)) (v := v) (k := us.length); omega
     ·refine Q0 (U0 J (W1 (V1 (W0 (rI (kM J J (kO J (Q4 J J (by omega) (kM J J (Q0 (W0 ?_)))))))))))
      exact ⟨rfl, _, _, _, (show M + 1 - (v + 1) < M + 1 - v by omega), (lc 1 J (lc 3 J (lc 5 J (lc 8 J (lc 10 J (lc 14 J Less.nil)))))), (.q (.q (.q .slnil))), ⟨v + 1, rfl, rfl, rfl, ⟨by omega, by omega⟩⟩⟩
    ·refine Q0 (U0 J (W5 (W3 (W3 (U3 (W0 (rQ (rS (kM J J (kO J (U2 J (kO J (U1 J (.next .here) J (kO J (Z4 J J (fun h20 => ?_) (fun h20 => ?_))))))))))))))))
     ·exfalso; have := had.2.1; omega
     ·refine Q0 (U0 J (W1 (W0 (rS (kM J J (Q0 (Z3 ?_)))))))
      exact end1 J ⟨rfl, rfl⟩
end
end Ev
end Go.Proofs.YtoeklhdklcpllaaGreat
