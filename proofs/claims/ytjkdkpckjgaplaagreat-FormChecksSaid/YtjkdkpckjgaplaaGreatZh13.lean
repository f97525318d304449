import Derived.Test.YtjkdkpckjgaplaaGreatZh12
set_option linter.unusedVariables false
set_option linter.unusedSimpArgs false
namespace Go.Proofs.YtjkdkpckjgaplaaGreat
open Go Go.RowKit
namespace Ev
theorem AM (n i k : Nat) : 1 + (i : Int) * (n : Int) + (k : Int) = ((n * i + k : Nat) : Int) + 1 := by
 simp only [Int.natCast_add, Int.natCast_mul];rw [Int.mul_comm]; omega
theorem B0 {X : List (List Int)} {f : Nat -> List (List Int)} {t : Nat} : ∀ {n : Nat}, (∀ k, k < n -> f (t + k) = []) -> acc X f (t + n) = acc X f t
 | 0, _ => rfl
 | n + 1, h => by
  show acc X f (t + n) ++ f (t + n) = _;rw [h n oM, List.append_nil, B0 (fun k hk => h k oM)]
theorem mS {L : List (List Int)} {x : List Int} (h : x ∈ L) : vC L x = (uW x L : Int) := if_pos h
theorem rC {sp : Prop} [Decidable sp] {l1 l2 : List Int} {rs cs : List (List Int)} (h1 : sp) (h2 : ¬ (60 < (rs.length : Int) ∨ 20 < (cs.length : Int))) (h3 : nW (l1.length : Int) (l2.length : Int) rs = true) (h4 : mY cs = true) : fO sp l1 l2 rs cs = 0 := by
 unfold fO;rw [if_pos h1, if_neg h2, if_pos h3, if_pos h4]
namespace Sv
variable {y : Sv}
theorem b2_end {i : Nat} (h : i + 1 = y.l1.length) : acc y.b1 y.q2 (y.l2.length * i) = y.b2 := by
 show _ = acc y.b1 y.q2 (y.l2.length * y.l1.length);rw [<- h, Nat.mul_add, Nat.mul_one];exact (B0 (fun k hk => q2_no hk oM)).symm
theorem q3_end {i k : Nat} (h : k + 1 = y.l2.length) : acc y.b2 y.q3 (y.l2.length * (i + 1)) = acc y.b2 y.q3 (y.l2.length * i + k) := by
 rw [Nat.mul_add, Nat.mul_one];have e : y.l2.length * i + y.l2.length = y.l2.length * i + (k + 1) := oM
 rw [e];exact kP (q3_no oM oM)
end Sv
section
variable {X : FuncId -> List Value -> St -> (Value -> St -> Bool) -> Bool}
set_option maxHeartbeats 4000000 in
theorem sO (n : Nat) (d r al up : Int) (a1 a2 : Option Addr) (c1 c2 : Nat) (l1 l2 : List Int) (a3 a4 : Option Addr) (c3 c4 : Nat) (rs cs : List (List Int)) (s : St) (hs : Wf s) (hn : 2814749767106560 <= n) (hl1 : aI s a1 l1) (hl2 : aI s a2 l2) (hr : RowsE s 7 a3 rs) (hc : RowsE s 6 a4 cs) (hpt : fO ((1 <= d /\ d <= 99999) /\ (1 <= r /\ r <= 99999) /\ (0 <= al /\ al <= 100000) /\ (0 <= up /\ up <= 100000) /\ bA l1 l2 = true) l1 l2 rs cs = 0) : bW Tryz.prog (cA cH) X (n + 3000) 57 [.agg ⟨[.int .i64 d, .int .i64 r, .slice a1 l1.length c1, .slice a2 l2.length c2, .int .i64 al, .int .i64 up, .slice a3 rs.length c3, .slice a4 cs.length c4]⟩] s (fun v A => ∃ b, v = .slice (some ⟨b, 0, none⟩) (Sv.b6 (Sv.mk r al up l1 l2 rs cs)).length OPEN /\ A = [.row b 107 true (aL (Sv.b6 (Sv.mk r al up l1 l2 rs cs)))]) := by
 refine enter LQ rfl hs ?_;unfold KN;have hlen1 := hl1.len;have hlen2 := hl2.len;have hlen3 := hr.len;have hlen4 := hc.len;obtain ⟨⟨hsd, hsr, hsa, hsu, hpl⟩, h60, h20, hrdb, hcpb⟩ := mA hpt;have hp1 := fJ hpl;have hp2 := iX hpl;have hm1 := hp1.hm;have hm2 : (l2.length : Int) <= 7 := yM hpl;have h21 := hp1.h2;have h22 := hp2.h2;have hmm := eM (x := (l1.length : Int)) (y := (l2.length : Int)) oM oM;have hmn := gE (x := l2.length) (y := l1.length) oM oM;refine rS (kO J (bI J J J (fun b1 => (kM J J (Q0 (rS (kO J (Q2 J (kO J (V4 J dE .here rfl (kO J (bG J J (fun b2 => (kZ J (Q6 J J .here rfl rfl rfl rfl (Q0 (rS (kM J J (Q0 (rQ (rS (kM J J (Q0 (W1 (bJ (rQ (rS (kM J J (kO J (Q2 J (kO J (Y1 J .here rfl ?_))))))))))))))))))))))))))))))));refine kO J (aJ J hl1.spot (kO J (W5 J J (fun h3 => ?_) (fun h3 => ?_))))
 ·refine Q0 (Y0 J (Q1 (W0 (rQ (W1 (rS (kM J J (Q0 (W1 (bJ (rQ (rS (kM J J (kO J (Q2 J (kO J (Y1 J .here rfl (kO J (aJ J hl2.spot (kO J (W5 J J (fun h4 => ?_) (fun h4 => ?_))))))))))))))))))))))
  ·refine Q0 (Y0 J (Q1 (W0 (rQ (W1 (rS (kO J (V4 J dE .here rfl (kM J J (kM J J (kO J (aH J J (fun s1 h1 => dP _ _ _ _ _ _ _ _ _ _ _ _ _ s1 h1.wf oM (hl1.ext hs h1.2.1) (hl2.ext hs h1.2.1) oM oM oM) ?_))))))))))))
   rw [show (1 + 0 * (l2.length : Int) + 0 : Int) = 1 by omega];refine kM J J (Q0 (rI (kM J J (kM J J (kO J (Q2 J (kO J (Y1 J .here rfl (kO J (Z6 J J (kM J J (kO J (Q2 J (kO J (Y1 J .here rfl (kO J (Z6 J J (kO J (bO J J J (fun b5 => (kO J (jP J J (iG.own .here rfl (by first | (simp; done) | (simp [aL, lK]; done))) dE oM oM (fun b6 => (kM J J (Q0 (Z1 (W0 (rI (kM J J (kO J (Y3 J J dE (kM J J (Q0 (W0 ?_))))))))))))))))))))))))))))))))));refine U4 (fun j e A => ∃ (k b ln : Nat), e = [(1, .pointer (some ⟨b1, 0, none⟩)), (3, .pointer (some ⟨b2, 0, none⟩)), (4, .slice (some ⟨b, 0, none⟩) ln OPEN), (5, .int .i64 ((0 : Nat) : Int)), (6, .int .i64 (k : Int))] /\ A = (.row b 107 true (aL (acc [] (Sv.q1 (Sv.mk r al up l1 l2 rs cs)) (l2.length * 0 + k))) :: (.row b2 33 false ([.int .i64 d, .int .i64 r, .slice a1 l1.length c1, .slice a2 l2.length c2, .int .i64 al, .int .i64 up]) :: (.row b1 37 false ([.int .i64 d, .int .i64 r, .slice a1 l1.length c1, .slice a2 l2.length c2, .int .i64 al, .int .i64 up, .slice a3 rs.length c3, .slice a4 cs.length c4]) :: []))) /\ j = l2.length - k /\ k <= l2.length /\ ln = (acc [] (Sv.q1 (Sv.mk r al up l1 l2 rs cs)) (l2.length * 0 + k)).length /\ ln <= 0 + 2 * (l2.length * 0 + k)) 600 0 281474976710656 ?_ (j := _) (env2 := _) (A2 := _) ?_ ?_ ?_ ?_ ⟨1, b6, 2, rfl, rfl, rfl, oM, rfl, oM⟩
   rotate_left
   ·omega
   ·omega
   ·exact lL
   ·exact (.q (.cons _ (.q (.q .slnil))))
   rintro n hn j _ _ ⟨k, b, ln, rfl, rfl, rfl, hk, hln, hlb⟩;have y0 := hp2.lo k;have y1 := hp2.lo (k + 1);have r1 : k + 1 < l2.length -> l2.getD k 0 < l2.getD (k + 1) 0 := fun h => hp2.rise k h
   refine rQ (rS (kM J J (kO J (Q2 J (kO J (Y1 J .h1 J (kO J (aJ J hl2.spot (kO J (W5 J J (fun h7 => ?_) (fun h7 => ?_)))))))))))
   ·refine Q0 (Y0 J (Q1 (W0 (rQ (W1 (rS (kO J (V4 J dE .h1 J (kM J J (kM J J (kO J (aH J J (fun s1 h1 => dP _ _ _ _ _ _ _ _ _ _ _ _ _ s1 h1.wf oM (hl1.ext hs h1.2.1) (hl2.ext hs h1.2.1) oM oM oM) ?_))))))))))))
    rw [show (1 + ((0 : Nat) : Int) * (l2.length : Int) + (k : Int) : Int) = ((l2.length * 0 + k : Nat) : Int) + 1 from AM _ _ _];refine kM J J (Q0 (rI (kM J J (kM J J (kO J (Q2 J (kO J (Y1 J .h1 J (kO J (Z6 J J (kM J J (kO J (Q2 J (kO J (Y1 J .h1 J (kO J (Z6 J J (kO J (bO J J J (fun b8 => (kO J (dI J J (iG.own .here rfl (by first | (simp; done) | (simp [aL, lK]; done))) .h1 (by rw [hln]; first | exact aA (Sv.h1 _ _) | exact aA (Sv.h2 _ _) | exact aA (Sv.h3 _ _) | exact aA (Sv.h4 _ _) | exact aA (Sv.h5i _ _ _) | exact aA (Sv.h6 _ _)) (.inl ⟨rfl, rfl⟩) dE oM oM (fun b9 => (kM J J (Q0 (Z1 (W0 (rI (kM J J (kO J (Y3 J J oM (kM J J (Q0 (W0 ?_))))))))))))))))))))))))))))))))));exact ⟨rfl, _, _, _, (show l2.length - (k + 1) < l2.length - k from oM), lL, (.q (.cons _ (.q (.q .slnil)))), ⟨k + 1, b9, ln + 2, rfl, (by rw [fE (show Sv.q1 (Sv.mk r al up l1 l2 rs cs) (l2.length * 0 + k) = lK 0 (((l2.length * 0 + k : Nat) : Int) + 1) 20000 0 r from rfl)]; first | done | rfl), rfl, oM, (by rw [gQ (show Sv.q1 (Sv.mk r al up l1 l2 rs cs) (l2.length * 0 + k) = lK 0 (((l2.length * 0 + k : Nat) : Int) + 1) 20000 0 r from rfl), <- hln]; first | done | rfl), oM⟩⟩
   ·refine Q0 (U0 J (Y4 (Z2 (Z2 (Q3 (Z1 (W0 (rI (kM J J (kO J (Y3 J J dE (kM J J (Q0 (W0 ?_))))))))))))))
    have hkl : k = l2.length := oM
    subst hkl;refine U4 (fun j e A => ∃ (i b ln : Nat), e = [(1, .pointer (some ⟨b1, 0, none⟩)), (3, .pointer (some ⟨b2, 0, none⟩)), (4, .slice (some ⟨b, 0, none⟩) ln OPEN), (5, .int .i64 (i : Int))] /\ A = (.row b 107 true (aL (acc [] (Sv.q1 (Sv.mk r al up l1 l2 rs cs)) (l2.length * i))) :: (.row b2 33 false ([.int .i64 d, .int .i64 r, .slice a1 l1.length c1, .slice a2 l2.length c2, .int .i64 al, .int .i64 up]) :: (.row b1 37 false ([.int .i64 d, .int .i64 r, .slice a1 l1.length c1, .slice a2 l2.length c2, .int .i64 al, .int .i64 up, .slice a3 rs.length c3, .slice a4 cs.length c4]) :: []))) /\ j = l1.length - i /\ i <= l1.length /\ ln = (acc [] (Sv.q1 (Sv.mk r al up l1 l2 rs cs)) (l2.length * i)).length /\ ln <= 0 + 2 * (l2.length * i)) 900 281474976710656 281474976710656 ?_ (j := _) (env2 := _) (A2 := _) ?_ ?_ ?_ ?_ ⟨1, b, ln, rfl, rfl, rfl, oM, hln, oM⟩
    rotate_left
    ·omega
    ·omega
    ·exact lL
    ·exact (.q (.q (.q .slnil)))
    rintro n hn j _ _ ⟨i, b, ln, rfl, rfl, rfl, hi, hln, hlb⟩;have z0 := hp1.lo i;have z1 := hp1.lo (i + 1);have r0 : i + 1 < l1.length -> l1.getD i 0 < l1.getD (i + 1) 0 := fun h => hp1.rise i h
    have hq7 : l2.length * i <= 81 := gE oM oM;refine rQ (rS (kM J J (kO J (Q2 J (kO J (Y1 J .h1 J (kO J (aJ J hl1.spot (kO J (W5 J J (fun h10 => ?_) (fun h10 => ?_)))))))))))
    ·refine Q0 (Y0 J (Q1 (W0 (rQ (W1 (rS (kM J J (Q0 (W1 (U4 (fun j e A => ∃ (k b ln : Nat), e = [(1, .pointer (some ⟨b1, 0, none⟩)), (3, .pointer (some ⟨b2, 0, none⟩)), (4, .slice (some ⟨b, 0, none⟩) ln OPEN), (5, .int .i64 ((i : Nat) : Int)), (6, .int .i64 (k : Int))] /\ A = (.row b 107 true (aL (acc [] (Sv.q1 (Sv.mk r al up l1 l2 rs cs)) (l2.length * i + k))) :: (.row b2 33 false ([.int .i64 d, .int .i64 r, .slice a1 l1.length c1, .slice a2 l2.length c2, .int .i64 al, .int .i64 up]) :: (.row b1 37 false ([.int .i64 d, .int .i64 r, .slice a1 l1.length c1, .slice a2 l2.length c2, .int .i64 al, .int .i64 up, .slice a3 rs.length c3, .slice a4 cs.length c4]) :: []))) /\ j = l2.length - k /\ k <= l2.length /\ ln = (acc [] (Sv.q1 (Sv.mk r al up l1 l2 rs cs)) (l2.length * i + k)).length /\ ln <= 0 + 2 * (l2.length * i + k)) 600 0 281474976710656 ?_ (j := _) (env2 := _) (A2 := _) ?_ ?_ ?_ ?_ ⟨0, b, ln, rfl, rfl, rfl, oM, hln, oM⟩))))))))))
     rotate_left
     ·omega
     ·omega
     ·exact lL
     ·exact (.q (.q (.q .slnil)))
     rintro n hn j _ _ ⟨k, b, ln, rfl, rfl, rfl, hk, hln, hlb⟩;have y0 := hp2.lo k;have y1 := hp2.lo (k + 1);have r1 : k + 1 < l2.length -> l2.getD k 0 < l2.getD (k + 1) 0 := fun h => hp2.rise k h
     refine rQ (rS (kM J J (kO J (Q2 J (kO J (Y1 J .h1 J (kO J (aJ J hl2.spot (kO J (W5 J J (fun h11 => ?_) (fun h11 => ?_)))))))))))
     ·refine Q0 (Y0 J (Q1 (W0 (rQ (W1 (rS (kO J (V4 J dE .h1 J (kM J J (kM J J (kO J (aH J J (fun s1 h1 => dP _ _ _ _ _ _ _ _ _ _ _ _ _ s1 h1.wf oM (hl1.ext hs h1.2.1) (hl2.ext hs h1.2.1) oM oM oM) ?_))))))))))))
      rw [show (1 + (i : Int) * (l2.length : Int) + (k : Int) : Int) = ((l2.length * i + k : Nat) : Int) + 1 from AM _ _ _];refine kM J J (Q0 (rI (kM J J (kM J J (kO J (Q2 J (kO J (Y1 J .h1 J (kO J (Z6 J J (kM J J (kO J (Q2 J (kO J (Y1 J .h1 J (kO J (Z6 J J (kO J (bO J J J (fun b12 => (kO J (dI J J (iG.own .here rfl (by first | (simp; done) | (simp [aL, lK]; done))) .h1 (by rw [hln]; first | exact aA (Sv.h1 _ _) | exact aA (Sv.h2 _ _) | exact aA (Sv.h3 _ _) | exact aA (Sv.h4 _ _) | exact aA (Sv.h5i _ _ _) | exact aA (Sv.h6 _ _)) (.inl ⟨rfl, rfl⟩) dE oM oM (fun b13 => (kM J J (Q0 (Z1 (W0 (rI (kM J J (kO J (Y3 J J oM (kM J J (Q0 (W0 ?_))))))))))))))))))))))))))))))))));exact ⟨rfl, _, _, _, (show l2.length - (k + 1) < l2.length - k from oM), lL, (.q (.cons _ (.q (.q .slnil)))), ⟨k + 1, b13, ln + 2, rfl, (by rw [fE (show Sv.q1 (Sv.mk r al up l1 l2 rs cs) (l2.length * i + k) = lK 0 (((l2.length * i + k : Nat) : Int) + 1) 20000 0 r from rfl)]; first | done | rfl), rfl, oM, (by rw [gQ (show Sv.q1 (Sv.mk r al up l1 l2 rs cs) (l2.length * i + k) = lK 0 (((l2.length * i + k : Nat) : Int) + 1) 20000 0 r from rfl), <- hln]; first | done | rfl), oM⟩⟩
     ·refine Q0 (U0 J (Y4 (Z2 (Z2 (Q3 (Z1 (W0 (rI (kM J J (kO J (Y3 J J oM (kM J J (Q0 (W0 ?_))))))))))))))
      have hkl : k = l2.length := oM
      subst hkl;exact ⟨rfl, _, _, _, (show l1.length - (i + 1) < l1.length - i from oM), lL, (.q (.q (.q .slnil))), ⟨i + 1, b, ln, rfl, rfl, rfl, oM, hln, (by rw [Nat.mul_add, Nat.mul_one]; omega)⟩⟩
    ·refine Q0 (U0 J (Y4 (Z2 (Z2 (Q3 (W0 (rQ (rS (kM J J (Q0 (W1 ?_)))))))))))
     have hil : i = l1.length := oM
     subst hil;refine U4 (fun j e A => ∃ (i b ln : Nat), e = [(1, .pointer (some ⟨b1, 0, none⟩)), (3, .pointer (some ⟨b2, 0, none⟩)), (4, .slice (some ⟨b, 0, none⟩) ln OPEN), (8, .int .i64 (i : Int))] /\ A = (.row b 107 true (aL (acc (Sv.b1 (Sv.mk r al up l1 l2 rs cs)) (Sv.q2 (Sv.mk r al up l1 l2 rs cs)) (l2.length * i))) :: (.row b2 33 false ([.int .i64 d, .int .i64 r, .slice a1 l1.length c1, .slice a2 l2.length c2, .int .i64 al, .int .i64 up]) :: (.row b1 37 false ([.int .i64 d, .int .i64 r, .slice a1 l1.length c1, .slice a2 l2.length c2, .int .i64 al, .int .i64 up, .slice a3 rs.length c3, .slice a4 cs.length c4]) :: []))) /\ j = l1.length - i /\ i + 1 <= l1.length /\ ln = (acc (Sv.b1 (Sv.mk r al up l1 l2 rs cs)) (Sv.q2 (Sv.mk r al up l1 l2 rs cs)) (l2.length * i)).length /\ ln <= 162 + 2 * (l2.length * i)) 900 281474976710656 281474976710656 ?_ (j := _) (env2 := _) (A2 := _) ?_ ?_ ?_ ?_ ⟨0, b, ln, rfl, rfl, rfl, oM, hln, oM⟩
     rotate_left
     ·omega
     ·omega
     ·exact lL
     ·exact (.q (.q (.q .slnil)))
     rintro n hn j _ _ ⟨i, b, ln, rfl, rfl, rfl, hi, hln, hlb⟩;have z0 := hp1.lo i;have z1 := hp1.lo (i + 1);have r0 : i + 1 < l1.length -> l1.getD i 0 < l1.getD (i + 1) 0 := fun h => hp1.rise i h
     have hq7 : l2.length * i <= 81 := gE oM oM;refine rQ (rS (kM J J (kO J (Y3 J J oM (kO J (Q2 J (kO J (Y1 J .h1 J (kO J (aJ J hl1.spot (kO J (W5 J J (fun h14 => ?_) (fun h14 => ?_)))))))))))))
     ·refine Q0 (Y0 J (Q1 (W0 (rQ (W1 (rS (kM J J (Q0 (W1 (U4 (fun j e A => ∃ (k b ln : Nat), e = [(1, .pointer (some ⟨b1, 0, none⟩)), (3, .pointer (some ⟨b2, 0, none⟩)), (4, .slice (some ⟨b, 0, none⟩) ln OPEN), (8, .int .i64 ((i : Nat) : Int)), (9, .int .i64 (k : Int))] /\ A = (.row b 107 true (aL (acc (Sv.b1 (Sv.mk r al up l1 l2 rs cs)) (Sv.q2 (Sv.mk r al up l1 l2 rs cs)) (l2.length * i + k))) :: (.row b2 33 false ([.int .i64 d, .int .i64 r, .slice a1 l1.length c1, .slice a2 l2.length c2, .int .i64 al, .int .i64 up]) :: (.row b1 37 false ([.int .i64 d, .int .i64 r, .slice a1 l1.length c1, .slice a2 l2.length c2, .int .i64 al, .int .i64 up, .slice a3 rs.length c3, .slice a4 cs.length c4]) :: []))) /\ j = l2.length - k /\ k <= l2.length /\ ln = (acc (Sv.b1 (Sv.mk r al up l1 l2 rs cs)) (Sv.q2 (Sv.mk r al up l1 l2 rs cs)) (l2.length * i + k)).length /\ ln <= 162 + 2 * (l2.length * i + k)) 600 0 281474976710656 ?_ (j := _) (env2 := _) (A2 := _) ?_ ?_ ?_ ?_ ⟨0, b, ln, rfl, rfl, rfl, oM, hln, oM⟩))))))))))
      rotate_left
      ·omega
      ·omega
      ·exact lL
      ·exact (.q (.q (.q .slnil)))
      rintro n hn j _ _ ⟨k, b, ln, rfl, rfl, rfl, hk, hln, hlb⟩;have y0 := hp2.lo k;have y1 := hp2.lo (k + 1);have r1 : k + 1 < l2.length -> l2.getD k 0 < l2.getD (k + 1) 0 := fun h => hp2.rise k h
      refine rQ (rS (kM J J (kO J (Q2 J (kO J (Y1 J .h1 J (kO J (aJ J hl2.spot (kO J (W5 J J (fun h15 => ?_) (fun h15 => ?_)))))))))))
      ·refine Q0 (Y0 J (Q1 (W0 (rQ (W1 (rI (kM J J (kO J (V4 J dE .h1 J (kM J J (kM J J (kO J (V4 J dE .h1 J (kM J J (kO J (Y3 J J oM (kM J J (kO J (Q2 J (kO J (Q2 J (kO J (Y1 J .h1 J (kO J (Q2 J (kO J (Y1 J .h1 J (kM J J (kO J (Y3 J J oM (kO J (Q7 (j := i + 1) hl1 rfl rfl oM (by first | rfl | omega) oM (fun _ _ a16 => (kO J (W6 J (hl1.at a16 oM) ?_)))))))))))))))))))))))))))))))))))
       refine kO J (Q2 J (kO J (Y1 J .h1 J (kM J J (kO J (Q7 (j := i) hl1 rfl rfl oM (by first | rfl | omega) oM (fun _ _ a17 => (kO J (W6 J (hl1.at a17 oM) (kO J (bX J J oM (kO J (Q2 J (kO J (Y1 J .h1 J (kO J (aH J J (fun s1 h1 => dP _ _ _ _ _ _ _ _ _ _ _ _ _ s1 h1.wf oM (hl1.ext hs h1.2.1) (hl2.ext hs h1.2.1) oM oM oM) ?_)))))))))))))))));rw [show (1 + (i : Int) * (l2.length : Int) + (k : Int) : Int) = ((l2.length * i + k : Nat) : Int) + 1 from AM _ _ _];refine kZ J (aK J J .h1 J (by simp [eqV, eqA, eqL, kindEq, aB, V5 hl1.spot, V5 hl2.spot, V5 hr.spot, V5 hc.spot]) (kZ J (kD J J (hl1.at a17 oM) (by simp [eqV, kindEq, aB]) (kZ J (aK J J .h1 J (by simp [eqV, eqA, eqL, kindEq, aB, V5 hl1.spot, V5 hl2.spot, V5 hr.spot, V5 hc.spot]) (kZ J (kD J J (hl1.at a16 oM) (by simp [eqV, kindEq, aB]) (kZ J (aK J J .h1 J (by simp [eqV, eqA, eqL, kindEq, aB, V5 hl1.spot, V5 hl2.spot, V5 hr.spot, V5 hc.spot]) (kZ J (aK J J .h1 J (by simp [eqV, eqA, eqL, kindEq, aB, V5 hl1.spot, V5 hl2.spot, V5 hr.spot, V5 hc.spot]) (kZ J (eP J J dE .h1 J (by simp [eqL, eqV, eqA, kindEq, aB, V5 hl1.spot, V5 hl2.spot, V5 hr.spot, V5 hc.spot]) (kO J (aH J J (fun s1 h1 => dP _ _ _ _ _ _ _ _ _ _ _ _ _ s1 h1.wf oM (hl1.ext hs h1.2.1) (hl2.ext hs h1.2.1) oM oM oM) (kZ J (aK J J .h1 J (by simp [eqV, eqA, eqL, kindEq, aB, V5 hl1.spot, V5 hl2.spot, V5 hr.spot, V5 hc.spot]) (kZ J (kD J J (hl1.at a17 oM) (by simp [eqV, kindEq, aB]) (kZ J (aK J J .h1 J (by simp [eqV, eqA, eqL, kindEq, aB, V5 hl1.spot, V5 hl2.spot, V5 hr.spot, V5 hc.spot]) (kZ J (kD J J (hl1.at a16 oM) (by simp [eqV, kindEq, aB]) (kZ J (aK J J .h1 J (by simp [eqV, eqA, eqL, kindEq, aB, V5 hl1.spot, V5 hl2.spot, V5 hr.spot, V5 hc.spot]) (kZ J (aK J J .h1 J (by simp [eqV, eqA, eqL, kindEq, aB, V5 hl1.spot, V5 hl2.spot, V5 hr.spot, V5 hc.spot]) (kO J (aH J J (fun s1 h1 => zV _ _ _ s1 h1.wf oM oM) (kZ J (aK J J .h1 J (by simp [eqV, eqA, eqL, kindEq, aB, V5 hl1.spot, V5 hl2.spot, V5 hr.spot, V5 hc.spot]) (kO J (Z4 J J (fun s1 h1 => AL _ _ _ _ _ s1 h1.wf) (fun v1 A1 q1 => ?_))))))))))))))))))))))))))))))))));obtain ⟨b18, rfl, rfl⟩ := q1;refine kO J (dI J J (iG.own .here rfl (by first | (simp; done) | (simp [aL, lK]; done))) .h1 (by rw [hln]; first | exact aA (Sv.h1 _ _) | exact aA (Sv.h2 _ _) | exact aA (Sv.h3 _ _) | exact aA (Sv.h4 _ _) | exact aA (Sv.h5i _ _ _) | exact aA (Sv.h6 _ _)) (.inl ⟨rfl, rfl⟩) dE oM oM (fun b19 => (kM J J (Q0 (Z1 (W0 (rI (kM J J (kO J (Y3 J J oM (kM J J (Q0 (W0 ?_)))))))))))));exact ⟨rfl, _, _, _, (show l2.length - (k + 1) < l2.length - k from oM), lL, (.q (.cons _ (.q (.q .slnil)))), ⟨k + 1, b19, ln + 2, rfl, (by rw [fE (Sv.q2_yes (y := (Sv.mk r al up l1 l2 rs cs)) (show k < l2.length from oM) (show (i : Int) + 1 < (l1.length : Int) from oM))]; first | done | rfl), rfl, oM, (by rw [gQ (Sv.q2_yes (y := (Sv.mk r al up l1 l2 rs cs)) (show k < l2.length from oM) (show (i : Int) + 1 < (l1.length : Int) from oM)), <- hln]; first | done | rfl), oM⟩⟩
      ·refine Q0 (U0 J (Y4 (Z2 (Z2 (Q3 (Z1 (W0 (rI (kM J J (kO J (Y3 J J oM (kM J J (Q0 (W0 ?_))))))))))))))
       have hkl : k = l2.length := oM
       subst hkl;exact ⟨rfl, _, _, _, (show l1.length - (i + 1) < l1.length - i from oM), lL, (.q (.q (.q .slnil))), ⟨i + 1, b, ln, rfl, rfl, rfl, oM, hln, (by rw [Nat.mul_add, Nat.mul_one]; omega)⟩⟩
     ·refine Q0 (U0 J (Y4 (Z2 (Z2 (Q3 (W0 (rQ (rS (kM J J (Q0 (W1 ?_)))))))))))
      have hil : i + 1 = l1.length := oM
      have hbb := Sv.b2_end (y := (Sv.mk r al up l1 l2 rs cs)) (show i + 1 = l1.length from hil);have hbl : l2.length * i <= 81 := gE oM oM;change acc (Sv.b1 (Sv.mk r al up l1 l2 rs cs)) (Sv.q2 (Sv.mk r al up l1 l2 rs cs)) (l2.length * i) = _ at hbb;rw [hbb] at hln ⊢;refine U4 (fun j e A => ∃ (i b ln : Nat), e = [(1, .pointer (some ⟨b1, 0, none⟩)), (3, .pointer (some ⟨b2, 0, none⟩)), (4, .slice (some ⟨b, 0, none⟩) ln OPEN), (10, .int .i64 (i : Int))] /\ A = (.row b 107 true (aL (acc (Sv.b2 (Sv.mk r al up l1 l2 rs cs)) (Sv.q3 (Sv.mk r al up l1 l2 rs cs)) (l2.length * i))) :: (.row b2 33 false ([.int .i64 d, .int .i64 r, .slice a1 l1.length c1, .slice a2 l2.length c2, .int .i64 al, .int .i64 up]) :: (.row b1 37 false ([.int .i64 d, .int .i64 r, .slice a1 l1.length c1, .slice a2 l2.length c2, .int .i64 al, .int .i64 up, .slice a3 rs.length c3, .slice a4 cs.length c4]) :: []))) /\ j = l1.length - i /\ i <= l1.length /\ ln = (acc (Sv.b2 (Sv.mk r al up l1 l2 rs cs)) (Sv.q3 (Sv.mk r al up l1 l2 rs cs)) (l2.length * i)).length /\ ln <= 324 + 2 * (l2.length * i)) 900 281474976710656 281474976710656 ?_ (j := _) (env2 := _) (A2 := _) ?_ ?_ ?_ ?_ ⟨0, b, ln, rfl, rfl, rfl, oM, hln, oM⟩
      rotate_left
      ·omega
      ·omega
      ·exact lL
      ·exact (.q (.q (.q .slnil)))
      rintro n hn j _ _ ⟨i, b, ln, rfl, rfl, rfl, hi, hln, hlb⟩;have z0 := hp1.lo i;have z1 := hp1.lo (i + 1);have r0 : i + 1 < l1.length -> l1.getD i 0 < l1.getD (i + 1) 0 := fun h => hp1.rise i h
      have hq7 : l2.length * i <= 81 := gE oM oM;refine rQ (rS (kM J J (kO J (Q2 J (kO J (Y1 J .h1 J (kO J (aJ J hl1.spot (kO J (W5 J J (fun h20 => ?_) (fun h20 => ?_)))))))))))
      ·refine Q0 (Y0 J (Q1 (W0 (rQ (W1 (rS (kM J J (Q0 (W1 (U4 (fun j e A => ∃ (k b ln : Nat), e = [(1, .pointer (some ⟨b1, 0, none⟩)), (3, .pointer (some ⟨b2, 0, none⟩)), (4, .slice (some ⟨b, 0, none⟩) ln OPEN), (10, .int .i64 ((i : Nat) : Int)), (11, .int .i64 (k : Int))] /\ A = (.row b 107 true (aL (acc (Sv.b2 (Sv.mk r al up l1 l2 rs cs)) (Sv.q3 (Sv.mk r al up l1 l2 rs cs)) (l2.length * i + k))) :: (.row b2 33 false ([.int .i64 d, .int .i64 r, .slice a1 l1.length c1, .slice a2 l2.length c2, .int .i64 al, .int .i64 up]) :: (.row b1 37 false ([.int .i64 d, .int .i64 r, .slice a1 l1.length c1, .slice a2 l2.length c2, .int .i64 al, .int .i64 up, .slice a3 rs.length c3, .slice a4 cs.length c4]) :: []))) /\ j = l2.length - k /\ k + 1 <= l2.length /\ ln = (acc (Sv.b2 (Sv.mk r al up l1 l2 rs cs)) (Sv.q3 (Sv.mk r al up l1 l2 rs cs)) (l2.length * i + k)).length /\ ln <= 324 + 2 * (l2.length * i + k)) 600 0 281474976710656 ?_ (j := _) (env2 := _) (A2 := _) ?_ ?_ ?_ ?_ ⟨0, b, ln, rfl, rfl, rfl, oM, hln, oM⟩))))))))))
       rotate_left
       ·omega
       ·omega
       ·exact lL
       ·exact (.q (.q (.q .slnil)))
       rintro n hn j _ _ ⟨k, b, ln, rfl, rfl, rfl, hk, hln, hlb⟩;have y0 := hp2.lo k;have y1 := hp2.lo (k + 1);have r1 : k + 1 < l2.length -> l2.getD k 0 < l2.getD (k + 1) 0 := fun h => hp2.rise k h
       refine rQ (rS (kM J J (kO J (Y3 J J oM (kO J (Q2 J (kO J (Y1 J .h1 J (kO J (aJ J hl2.spot (kO J (W5 J J (fun h21 => ?_) (fun h21 => ?_)))))))))))))
       ·refine Q0 (Y0 J (Q1 (W0 (rQ (W1 (rI (kM J J (kO J (V4 J dE .h1 J (kM J J (kM J J (kO J (V4 J dE .h1 J (kM J J (kM J J (kO J (Y3 J J oM (kO J (Q2 J (kO J (Q2 J (kO J (Y1 J .h1 J (kO J (Q2 J (kO J (Y1 J .h1 J (kM J J (kO J (Y3 J J oM (kO J (Q7 (j := k + 1) hl2 rfl rfl oM (by first | rfl | omega) oM (fun _ _ a22 => (kO J (W6 J (hl2.at a22 oM) ?_)))))))))))))))))))))))))))))))))))
        refine kO J (Q2 J (kO J (Y1 J .h1 J (kM J J (kO J (Q7 (j := k) hl2 rfl rfl oM (by first | rfl | omega) oM (fun _ _ a23 => (kO J (W6 J (hl2.at a23 oM) (kO J (bX J J oM (kO J (Q2 J (kO J (Y1 J .h1 J (kO J (aH J J (fun s1 h1 => dP _ _ _ _ _ _ _ _ _ _ _ _ _ s1 h1.wf oM (hl1.ext hs h1.2.1) (hl2.ext hs h1.2.1) oM oM oM) ?_)))))))))))))))));rw [show (1 + (i : Int) * (l2.length : Int) + (k : Int) : Int) = ((l2.length * i + k : Nat) : Int) + 1 from AM _ _ _];refine kZ J (aK J J .h1 J (by simp [eqV, eqA, eqL, kindEq, aB, V5 hl1.spot, V5 hl2.spot, V5 hr.spot, V5 hc.spot]) (kZ J (kD J J (hl2.at a23 oM) (by simp [eqV, kindEq, aB]) (kZ J (aK J J .h1 J (by simp [eqV, eqA, eqL, kindEq, aB, V5 hl1.spot, V5 hl2.spot, V5 hr.spot, V5 hc.spot]) (kZ J (kD J J (hl2.at a22 oM) (by simp [eqV, kindEq, aB]) (kZ J (aK J J .h1 J (by simp [eqV, eqA, eqL, kindEq, aB, V5 hl1.spot, V5 hl2.spot, V5 hr.spot, V5 hc.spot]) (kZ J (aK J J .h1 J (by simp [eqV, eqA, eqL, kindEq, aB, V5 hl1.spot, V5 hl2.spot, V5 hr.spot, V5 hc.spot]) (kZ J (eP J J dE .h1 J (by simp [eqL, eqV, eqA, kindEq, aB, V5 hl1.spot, V5 hl2.spot, V5 hr.spot, V5 hc.spot]) (kO J (aH J J (fun s1 h1 => dP _ _ _ _ _ _ _ _ _ _ _ _ _ s1 h1.wf oM (hl1.ext hs h1.2.1) (hl2.ext hs h1.2.1) oM oM oM) (kZ J (aK J J .h1 J (by simp [eqV, eqA, eqL, kindEq, aB, V5 hl1.spot, V5 hl2.spot, V5 hr.spot, V5 hc.spot]) (kZ J (kD J J (hl2.at a23 oM) (by simp [eqV, kindEq, aB]) (kZ J (aK J J .h1 J (by simp [eqV, eqA, eqL, kindEq, aB, V5 hl1.spot, V5 hl2.spot, V5 hr.spot, V5 hc.spot]) (kZ J (kD J J (hl2.at a22 oM) (by simp [eqV, kindEq, aB]) (kZ J (aK J J .h1 J (by simp [eqV, eqA, eqL, kindEq, aB, V5 hl1.spot, V5 hl2.spot, V5 hr.spot, V5 hc.spot]) (kZ J (aK J J .h1 J (by simp [eqV, eqA, eqL, kindEq, aB, V5 hl1.spot, V5 hl2.spot, V5 hr.spot, V5 hc.spot]) (kO J (aH J J (fun s1 h1 => zV _ _ _ s1 h1.wf oM oM) (kZ J (aK J J .h1 J (by simp [eqV, eqA, eqL, kindEq, aB, V5 hl1.spot, V5 hl2.spot, V5 hr.spot, V5 hc.spot]) (kO J (Z4 J J (fun s1 h1 => AL _ _ _ _ _ s1 h1.wf) (fun v1 A1 q1 => ?_))))))))))))))))))))))))))))))))));obtain ⟨b24, rfl, rfl⟩ := q1;refine kO J (dI J J (iG.own .here rfl (by first | (simp; done) | (simp [aL, lK]; done))) .h1 (by rw [hln]; first | exact aA (Sv.h1 _ _) | exact aA (Sv.h2 _ _) | exact aA (Sv.h3 _ _) | exact aA (Sv.h4 _ _) | exact aA (Sv.h5i _ _ _) | exact aA (Sv.h6 _ _)) (.inl ⟨rfl, rfl⟩) dE oM oM (fun b25 => (kM J J (Q0 (Z1 (W0 (rI (kM J J (kO J (Y3 J J oM (kM J J (Q0 (W0 ?_)))))))))))));exact ⟨rfl, _, _, _, (show l2.length - (k + 1) < l2.length - k from oM), lL, (.q (.cons _ (.q (.q .slnil)))), ⟨k + 1, b25, ln + 2, rfl, (by rw [fE (Sv.q3_yes (y := (Sv.mk r al up l1 l2 rs cs)) (show k < l2.length from oM) (show (k : Int) + 1 < (l2.length : Int) from oM))]; first | done | rfl), rfl, oM, (by rw [gQ (Sv.q3_yes (y := (Sv.mk r al up l1 l2 rs cs)) (show k < l2.length from oM) (show (k : Int) + 1 < (l2.length : Int) from oM)), <- hln]; first | done | rfl), oM⟩⟩
       ·refine Q0 (U0 J (Y4 (Z2 (Z2 (Q3 (Z1 (W0 (rI (kM J J (kO J (Y3 J J oM (kM J J (Q0 (W0 ?_))))))))))))))
        have hkl : k + 1 = l2.length := oM
        have hbb := Sv.q3_end (y := (Sv.mk r al up l1 l2 rs cs)) (i := i) (show k + 1 = l2.length from hkl);exact ⟨rfl, _, _, _, (show l1.length - (i + 1) < l1.length - i from oM), lL, (.q (.q (.q .slnil))), ⟨i + 1, b, ln, rfl, (congrArg (fun z => _ :: z) J |>.trans (by first | rfl | (rw [show acc (Sv.b2 (Sv.mk r al up l1 l2 rs cs)) (Sv.q3 (Sv.mk r al up l1 l2 rs cs)) (l2.length * (i + 1)) = _ from hbb]))), rfl, oM, (hln.trans (congrArg List.length hbb.symm)), (by rw [Nat.mul_add, Nat.mul_one]; omega)⟩⟩
      ·refine Q0 (U0 J (Y4 (Z2 (Z2 (Q3 (W0 (rS (kO J (Q2 J (kO J (Y1 J .h2 J (kO J (Z4 J J (fun s1 h1 => vQ _ _ _ _ s1 h1.wf oM (hr.ext hs h1.2.1) oM) (fun v1 A1 q1 => ?_))))))))))))))
       rcases q1 with ⟨hrs, rfl, rfl⟩ | ⟨hne, bd, rfl, rfl, hWD, hDl⟩
       ·refine kM J J (Q0 (rS (kO J (V4 J dE .h1 J (kO J (aH J J (fun s1 h1 => eY _ _ _ _ _ _ _ _ _ _ _ s1 h1.wf oM (hl1.ext hs h1.2.1) (hl2.ext hs h1.2.1) oM) (kM J J (Q0 (rQ (rS (kM J J (Q0 (W1 (bJ (rQ (rS (kM J J (kM J J (kO J (qV J (kO J (W5 J J (fun h => absurd h dE) (fun _ => (Q0 (U0 J (Y4 (Z2 (Z2 ?_))))))))))))))))))))))))))))
        refine Q3 (W0 (rQ (rS (kM J J (Q0 (W1 ?_))))));have hil : i = l1.length := oM
        subst hil;have hbb : acc (Sv.b2 (Sv.mk r al up l1 l2 rs cs)) (Sv.q3 (Sv.mk r al up l1 l2 rs cs)) (l2.length * l1.length) = Sv.b5 (Sv.mk r al up l1 l2 rs cs) 0 := (Sv.b4_nil (y := (Sv.mk r al up l1 l2 rs cs)) hrs).symm;rw [hbb] at hln ⊢;refine U4 (fun j e A => ∃ (i b ln : Nat), e = [(1, .pointer (some ⟨b1, 0, none⟩)), (3, .pointer (some ⟨b2, 0, none⟩)), (4, .slice (some ⟨b, 0, none⟩) ln OPEN), (12, .slice none 0 0), (13, .int .i64 ((l1.length : Int) * (l2.length : Int))), (15, .int .i64 (i : Int))] /\ A = (.row b 107 true (aL (Sv.b5 (Sv.mk r al up l1 l2 rs cs) i)) :: (.row b2 33 false ([.int .i64 d, .int .i64 r, .slice a1 l1.length c1, .slice a2 l2.length c2, .int .i64 al, .int .i64 up]) :: (.row b1 37 false ([.int .i64 d, .int .i64 r, .slice a1 l1.length c1, .slice a2 l2.length c2, .int .i64 al, .int .i64 up, .slice a3 rs.length c3, .slice a4 cs.length c4]) :: []))) /\ j = cs.length - i /\ i <= cs.length /\ ln = (Sv.b5 (Sv.mk r al up l1 l2 rs cs) i).length /\ ln <= 606 + 120 * i) 700 844424930131968 281474976710656 ?_ (j := _) (env2 := _) (A2 := _) ?_ ?_ ?_ ?_ ⟨0, b, ln, rfl, rfl, rfl, oM, hln, oM⟩
        rotate_left
        ·omega
        ·omega
        ·exact lL
        ·exact (.q (.q (.q .slnil)))
        rintro n hn j _ _ ⟨i, b, ln, rfl, rfl, rfl, hi, hln, hlb⟩;refine rQ (rS (kM J J (kO J (Q2 J (kO J (Y1 J .h2 J (kO J (aJ J (by first | exact hl1.spot | exact hl2.spot | exact hr.spot | exact hc.spot) (kO J (W5 J J (fun h27 => ?_) (fun h27 => ?_)))))))))))
        ·obtain ⟨q6, o6, z0, z1, z2, z3, z4, z5, ahc, hz, hat, j0, j1, j2, j3, j4, j5⟩ := hc.row6 (k := i) oM
         have hat2 := hat;obtain ⟨e0, e1, e2, e3, e4, e5, _⟩ := hat2;have := j0.lo; have := j0.hi;have := j1.lo; have := j1.hi;have := j2.lo; have := j2.hi;have := j3.lo; have := j3.hi;have := j4.lo; have := j4.hi;have := j5.lo; have := j5.hi;have hcd := qX hcpb hz;refine Q0 (Y0 J (Q1 (W0 (rQ (W1 (rS (kM J J (Q0 (W1 (bJ (rQ (rS (kM J J (kM J J (kO J (qV J (kO J (W5 J J (fun h => absurd h dE) (fun _ => (Q0 (U0 J (Y4 (Z2 (Z2 (Q3 (Z1 ?_))))))))))))))))))))))))));refine W0 (rI (kM J J (kO J (Y3 J J oM (kM J J (Q0 (W0 ?_)))))));exact ⟨rfl, _, _, _, (show cs.length - (i + 1) < cs.length - i from oM), lL, (.q (.q (.q .slnil))), ⟨i + 1, b, ln, rfl, (by rw [Sv.b5_nil (y := (Sv.mk r al up l1 l2 rs cs)) hrs]; first | done | rfl), rfl, oM, (by rw [Sv.b5_nil (y := (Sv.mk r al up l1 l2 rs cs)) hrs]; exact hln), oM⟩⟩
        ·refine Q0 (U0 J (Y4 (Z2 (Z2 (Q3 (W0 (rQ (rS (kM J J (Q0 (W1 ?_)))))))))))
         have hic : i = cs.length := oM
         subst hic;refine U4 (fun j e A => ∃ (k b ln : Nat), e = [(1, .pointer (some ⟨b1, 0, none⟩)), (3, .pointer (some ⟨b2, 0, none⟩)), (4, .slice (some ⟨b, 0, none⟩) ln OPEN), (12, .slice none 0 0), (13, .int .i64 ((l1.length : Int) * (l2.length : Int))), (17, .int .i64 (k : Int))] /\ A = (.row b 107 true (aL (acc (Sv.b5 (Sv.mk r al up l1 l2 rs cs) cs.length) (Sv.q6 (Sv.mk r al up l1 l2 rs cs)) k)) :: (.row b2 33 false ([.int .i64 d, .int .i64 r, .slice a1 l1.length c1, .slice a2 l2.length c2, .int .i64 al, .int .i64 up]) :: (.row b1 37 false ([.int .i64 d, .int .i64 r, .slice a1 l1.length c1, .slice a2 l2.length c2, .int .i64 al, .int .i64 up, .slice a3 rs.length c3, .slice a4 cs.length c4]) :: []))) /\ j = rs.length - k /\ k <= rs.length /\ ln = (acc (Sv.b5 (Sv.mk r al up l1 l2 rs cs) cs.length) (Sv.q6 (Sv.mk r al up l1 l2 rs cs)) k).length /\ ln <= 3006 + 2 * k) 600 281474976710656 281474976710656 ?_ (j := _) (env2 := _) (A2 := _) ?_ ?_ ?_ ?_ ⟨0, b, ln, rfl, rfl, rfl, oM, hln, oM⟩
         rotate_left
         ·omega
         ·omega
         ·exact lL
         ·exact (.q (.q (.q .slnil)))
         rintro n hn j _ _ ⟨k, b, ln, rfl, rfl, rfl, hk, hln, hlb⟩;refine rQ (rS (kM J J (kO J (Q2 J (kO J (Y1 J .h2 J (kO J (aJ J (by first | exact hl1.spot | exact hl2.spot | exact hr.spot | exact hc.spot) (kO J (W5 J J (fun h29 => ?_) (fun h29 => ?_)))))))))))
         ·exfalso; rw [hrs] at h29; simp at h29; omega
         ·refine Q0 (U0 J (Y4 (Z2 (Z2 (Q3 (W0 (rS (kM J J (kM J J (Q0 (V2 ?_)))))))))))
          have hkr : k = rs.length := oM
          subst hkr;subst hln;exact fI J (.q (.cons _ (.cons _ .slnil))) ⟨b, rfl, rfl⟩
       ·refine kM J J (Q0 (rS (kO J (V4 J dE .h2 J (kO J (aH J J (fun s1 h1 => eY _ _ _ _ _ _ _ _ _ _ _ s1 h1.wf oM (hl1.ext hs h1.2.1) (hl2.ext hs h1.2.1) oM) (kM J J (Q0 (rQ (rS (kM J J (Q0 (W1 (nP .h1 ?_))))))))))))))
        have hil : i = l1.length := oM
        subst hil;refine U4 (fun j e A => ∃ (k b ln : Nat), e = [(1, .pointer (some ⟨b1, 0, none⟩)), (3, .pointer (some ⟨b2, 0, none⟩)), (4, .slice (some ⟨b, 0, none⟩) ln OPEN), (12, .slice (some ⟨bd, 0, none⟩) (dys rs).length OPEN), (13, .int .i64 ((l1.length : Int) * (l2.length : Int))), (14, .int .i64 (k : Int))] /\ A = (.row b 107 true (aL (acc (Sv.b3 (Sv.mk r al up l1 l2 rs cs)) (Sv.q4 (Sv.mk r al up l1 l2 rs cs)) k)) :: (.row bd 86 true (aL (dys rs)) :: (.row b2 33 false ([.int .i64 d, .int .i64 r, .slice a1 l1.length c1, .slice a2 l2.length c2, .int .i64 al, .int .i64 up]) :: (.row b1 37 false ([.int .i64 d, .int .i64 r, .slice a1 l1.length c1, .slice a2 l2.length c2, .int .i64 al, .int .i64 up, .slice a3 rs.length c3, .slice a4 cs.length c4]) :: [])))) /\ j = (dys rs).length - k /\ k <= (dys rs).length /\ ln = (acc (Sv.b3 (Sv.mk r al up l1 l2 rs cs)) (Sv.q4 (Sv.mk r al up l1 l2 rs cs)) k).length /\ ln <= 486 + 2 * k) 400 281474976710656 281474976710656 ?_ (j := _) (env2 := _) (A2 := _) ?_ ?_ ?_ ?_ ⟨0, b, ln, rfl, rfl, rfl, oM, hln, oM⟩
        rotate_left
        ·omega
        ·omega
        ·exact lL
        ·exact (.q (.q (.q (.q .slnil))))
        rintro n hn j _ _ ⟨k, b, ln, rfl, rfl, rfl, hk, hln, hlb⟩;refine rQ (rS (kM J J (kM J J (kO J (dO J (kO J (W5 J J (fun h30 => ?_) (fun h30 => ?_))))))))
        ·obtain ⟨p, q, hx, ip, iq⟩ := hWD.at2 (j := k) oM
         have hxm := List.mem_of_getElem? hx;refine Q0 (Y0 J (Q1 (W0 (rQ (W1 (rI (kM J J (kM J J (kO J (Y3 J J oM (kM J J (kO J (Y3 J J oM (kO J (Q2 J (kO J (Y1 J .h2 J (kO J (Z4 J J (fun s1 h1 => AL _ _ _ _ _ s1 h1.wf) (fun v1 A1 q1 => ?_))))))))))))))))))));obtain ⟨b31, rfl, rfl⟩ := q1;refine kO J (dI J J (iG.own .here rfl (by first | (simp; done) | (simp [aL, lK]; done))) .h1 (by rw [hln]; first | exact aA (Sv.h1 _ _) | exact aA (Sv.h2 _ _) | exact aA (Sv.h3 _ _) | exact aA (Sv.h4 _ _) | exact aA (Sv.h5i _ _ _) | exact aA (Sv.h6 _ _)) (.inl ⟨rfl, rfl⟩) dE oM oM (fun b32 => (kM J J (Q0 (Z1 (W0 (rI (kM J J (kO J (Y3 J J oM (kM J J (Q0 (W0 ?_)))))))))))));exact ⟨rfl, _, _, _, (show (dys rs).length - (k + 1) < (dys rs).length - k from oM), lL, (.q (.cons _ (.q (.q (.q .slnil))))), ⟨k + 1, b32, ln + 2, rfl, (by rw [nY (show Sv.q4 (Sv.mk r al up l1 l2 rs cs) k = lK 0 ((l1.length : Int) * (l2.length : Int) + 1 + (k : Int)) 1000 1000 r from rfl)]; first | done | rfl), rfl, oM, (by rw [rA (show Sv.q4 (Sv.mk r al up l1 l2 rs cs) k = lK 0 ((l1.length : Int) * (l2.length : Int) + 1 + (k : Int)) 1000 1000 r from rfl), <- hln]; first | done | rfl), oM⟩⟩
        ·refine Q0 (U0 J (Y4 (Z2 (Z2 (Q3 (W0 (rQ (rS (kM J J (Q0 (W1 ?_)))))))))))
         have hkl : k = (dys rs).length := oM
         subst hkl;refine U4 (fun j e A => ∃ (i b ln : Nat), e = [(1, .pointer (some ⟨b1, 0, none⟩)), (3, .pointer (some ⟨b2, 0, none⟩)), (4, .slice (some ⟨b, 0, none⟩) ln OPEN), (12, .slice (some ⟨bd, 0, none⟩) (dys rs).length OPEN), (13, .int .i64 ((l1.length : Int) * (l2.length : Int))), (15, .int .i64 (i : Int))] /\ A = (.row b 107 true (aL (Sv.b5 (Sv.mk r al up l1 l2 rs cs) i)) :: (.row bd 86 true (aL (dys rs)) :: (.row b2 33 false ([.int .i64 d, .int .i64 r, .slice a1 l1.length c1, .slice a2 l2.length c2, .int .i64 al, .int .i64 up]) :: (.row b1 37 false ([.int .i64 d, .int .i64 r, .slice a1 l1.length c1, .slice a2 l2.length c2, .int .i64 al, .int .i64 up, .slice a3 rs.length c3, .slice a4 cs.length c4]) :: [])))) /\ j = cs.length - i /\ i <= cs.length /\ ln = (Sv.b5 (Sv.mk r al up l1 l2 rs cs) i).length /\ ln <= 606 + 120 * i) 700 844424930131968 281474976710656 ?_ (j := _) (env2 := _) (A2 := _) ?_ ?_ ?_ ?_ ⟨0, b, ln, rfl, rfl, rfl, oM, hln, oM⟩
         rotate_left
         ·omega
         ·omega
         ·exact lL
         ·exact (.q (.q (.q (.q .slnil))))
         rintro n hn j _ _ ⟨i, b, ln, rfl, rfl, rfl, hi, hln, hlb⟩;refine rQ (rS (kM J J (kO J (Q2 J (kO J (Y1 J .h3 J (kO J (aJ J (by first | exact hl1.spot | exact hl2.spot | exact hr.spot | exact hc.spot) (kO J (W5 J J (fun h33 => ?_) (fun h33 => ?_)))))))))))
         ·obtain ⟨q6, o6, z0, z1, z2, z3, z4, z5, ahc, hz, hat, j0, j1, j2, j3, j4, j5⟩ := hc.row6 (k := i) oM
          have hat2 := hat;obtain ⟨e0, e1, e2, e3, e4, e5, _⟩ := hat2;have := j0.lo; have := j0.hi;have := j1.lo; have := j1.hi;have := j2.lo; have := j2.hi;have := j3.lo; have := j3.hi;have := j4.lo; have := j4.hi;have := j5.lo; have := j5.hi;have hcd := qX hcpb hz;refine Q0 (Y0 J (Q1 (W0 (rQ (W1 (rS (kM J J (Q0 (W1 (U4 (fun j e A => ∃ (k b ln : Nat), e = [(1, .pointer (some ⟨b1, 0, none⟩)), (3, .pointer (some ⟨b2, 0, none⟩)), (4, .slice (some ⟨b, 0, none⟩) ln OPEN), (12, .slice (some ⟨bd, 0, none⟩) (dys rs).length OPEN), (13, .int .i64 ((l1.length : Int) * (l2.length : Int))), (15, .int .i64 (i : Int)), (16, .int .i64 (k : Int))] /\ A = (.row b 107 true (aL (acc (Sv.b5 (Sv.mk r al up l1 l2 rs cs) i) (Sv.q5 (Sv.mk r al up l1 l2 rs cs) i) k)) :: (.row bd 86 true (aL (dys rs)) :: (.row b2 33 false ([.int .i64 d, .int .i64 r, .slice a1 l1.length c1, .slice a2 l2.length c2, .int .i64 al, .int .i64 up]) :: (.row b1 37 false ([.int .i64 d, .int .i64 r, .slice a1 l1.length c1, .slice a2 l2.length c2, .int .i64 al, .int .i64 up, .slice a3 rs.length c3, .slice a4 cs.length c4]) :: [])))) /\ j = (dys rs).length - k /\ k <= (dys rs).length /\ ln = (acc (Sv.b5 (Sv.mk r al up l1 l2 rs cs) i) (Sv.q5 (Sv.mk r al up l1 l2 rs cs) i) k).length /\ ln <= 606 + 120 * i + 2 * k) 400 0 281474976710656 ?_ (j := _) (env2 := _) (A2 := _) ?_ ?_ ?_ ?_ ⟨0, b, ln, rfl, rfl, rfl, oM, hln, oM⟩))))))))))
          rotate_left
          ·omega
          ·omega
          ·exact lL
          ·exact (.q (.q (.q (.q .slnil))))
          rintro n hn j _ _ ⟨k, b, ln, rfl, rfl, rfl, hk, hln, hlb⟩;refine rQ (rS (kM J J (kM J J (kO J (dO J (kO J (W5 J J (fun h34 => ?_) (fun h34 => ?_))))))))
          ·obtain ⟨p, q, hx, ip, iq⟩ := hWD.at2 (j := k) oM
           have hxm := List.mem_of_getElem? hx;refine Q0 (Y0 J (Q1 (W0 (rQ (W1 (rI (kM J J (kO J (Q2 J (kO J (Y1 J .h3 J (kM J J (kO J (bK (j := i) ahc rfl rfl (by first | rfl | omega) (by first | decide | omega) (kO J (cV J dE aM J (kM J J (kM J J (kO J (Z3 (j := k) J J oM oM (kO J (V4 J dE .h1 (tT hWD.len hx) (kM J J (kO J (Y3 J J oM (kM J J (kO J (Y3 J J oM (kO J (Z4 J J (fun s1 h1 => Mg _ _ _ _ _ _ _ _ _ _ s1 h1.wf oM) (fun v1 A1 q1 => ?_)))))))))))))))))))))))))))))));rcases q1 with ⟨hno, rfl, rfl⟩ | ⟨hyes, bt, rfl, rfl⟩
           ·refine kO J (HY J J .here (by rw [hln]; first | exact aA (Sv.h1 _ _) | exact aA (Sv.h2 _ _) | exact aA (Sv.h3 _ _) | exact aA (Sv.h4 _ _) | exact aA (Sv.h5i _ _ _) | exact aA (Sv.h6 _ _)) oM oM (kM J J (Q0 (Z1 (W0 (rI (kM J J (kO J (Y3 J J oM (kM J J (Q0 (W0 ?_))))))))))))
            exact ⟨rfl, _, _, _, (show (dys rs).length - (k + 1) < (dys rs).length - k from oM), lL, (.q (.q (.q (.q .slnil)))), ⟨k + 1, b, ln, rfl, (by rw [qZ (Sv.q5_no (y := (Sv.mk r al up l1 l2 rs cs)) hz hx hno)]; first | done | rfl), rfl, oM, (by rw [qZ (Sv.q5_no (y := (Sv.mk r al up l1 l2 rs cs)) hz hx hno)]; exact hln), oM⟩⟩
           ·refine kO J (dI J J (iG.own .here rfl (by first | (simp; done) | (simp [aL, lK]; done))) .h1 (by rw [hln]; first | exact aA (Sv.h1 _ _) | exact aA (Sv.h2 _ _) | exact aA (Sv.h3 _ _) | exact aA (Sv.h4 _ _) | exact aA (Sv.h5i _ _ _) | exact aA (Sv.h6 _ _)) (.inl ⟨rfl, rfl⟩) dE oM oM (fun b35 => (kM J J (Q0 (Z1 (W0 (rI (kM J J (kO J (Y3 J J oM (kM J J (Q0 (W0 ?_)))))))))))))
            exact ⟨rfl, _, _, _, (show (dys rs).length - (k + 1) < (dys rs).length - k from oM), lL, (.q (.cons _ (.q (.q (.q .slnil))))), ⟨k + 1, b35, ln + 2, rfl, (by rw [nY (Sv.q5_yes (y := (Sv.mk r al up l1 l2 rs cs)) hz hx hyes)]; first | done | rfl), rfl, oM, (by rw [rA (Sv.q5_yes (y := (Sv.mk r al up l1 l2 rs cs)) hz hx hyes), <- hln]; first | done | rfl), oM⟩⟩
          ·refine Q0 (U0 J (Y4 (Z2 (Z2 (Q3 (Z1 (W0 (rI (kM J J (kO J (Y3 J J oM (kM J J (Q0 (W0 ?_))))))))))))))
           have hkl : k = (dys rs).length := oM
           subst hkl;exact ⟨rfl, _, _, _, (show cs.length - (i + 1) < cs.length - i from oM), lL, (.q (.q (.q (.q .slnil)))), ⟨i + 1, b, ln, rfl, rfl, rfl, oM, hln, oM⟩⟩
         ·refine Q0 (U0 J (Y4 (Z2 (Z2 (Q3 (W0 (rQ (rS (kM J J (Q0 (W1 ?_)))))))))))
          have hic : i = cs.length := oM
          subst hic;refine U4 (fun j e A => ∃ (k b ln : Nat), e = [(1, .pointer (some ⟨b1, 0, none⟩)), (3, .pointer (some ⟨b2, 0, none⟩)), (4, .slice (some ⟨b, 0, none⟩) ln OPEN), (12, .slice (some ⟨bd, 0, none⟩) (dys rs).length OPEN), (13, .int .i64 ((l1.length : Int) * (l2.length : Int))), (17, .int .i64 (k : Int))] /\ A = (.row b 107 true (aL (acc (Sv.b5 (Sv.mk r al up l1 l2 rs cs) cs.length) (Sv.q6 (Sv.mk r al up l1 l2 rs cs)) k)) :: (.row bd 86 true (aL (dys rs)) :: (.row b2 33 false ([.int .i64 d, .int .i64 r, .slice a1 l1.length c1, .slice a2 l2.length c2, .int .i64 al, .int .i64 up]) :: (.row b1 37 false ([.int .i64 d, .int .i64 r, .slice a1 l1.length c1, .slice a2 l2.length c2, .int .i64 al, .int .i64 up, .slice a3 rs.length c3, .slice a4 cs.length c4]) :: [])))) /\ j = rs.length - k /\ k <= rs.length /\ ln = (acc (Sv.b5 (Sv.mk r al up l1 l2 rs cs) cs.length) (Sv.q6 (Sv.mk r al up l1 l2 rs cs)) k).length /\ ln <= 3006 + 2 * k) 600 281474976710656 281474976710656 ?_ (j := _) (env2 := _) (A2 := _) ?_ ?_ ?_ ?_ ⟨0, b, ln, rfl, rfl, rfl, oM, hln, oM⟩
          rotate_left
          ·omega
          ·omega
          ·exact lL
          ·exact (.q (.q (.q (.q .slnil))))
          rintro n hn j _ _ ⟨k, b, ln, rfl, rfl, rfl, hk, hln, hlb⟩;refine rQ (rS (kM J J (kO J (Q2 J (kO J (Y1 J .h3 J (kO J (aJ J (by first | exact hl1.spot | exact hl2.spot | exact hr.spot | exact hc.spot) (kO J (W5 J J (fun h36 => ?_) (fun h36 => ?_)))))))))))
          ·obtain ⟨q7, o7, x0, x1, x2, x3, x4, x5, x6, ahr, hx, hat, i0, i1, i2, i3, i4, i5, i6⟩ := hr.row7 (k := k) oM
           have hat2 := hat;obtain ⟨d0, d1, d2, d3, d4, d5, d6, _⟩ := hat2;have := i0.lo; have := i0.hi;have := i1.lo; have := i1.hi;have := i2.lo; have := i2.hi;have := i3.lo; have := i3.hi;have := i4.lo; have := i4.hi;have := i5.lo; have := i5.hi;have := i6.lo; have := i6.hi;have hxm := nZ hx;have hrd := lZ hrdb hx;refine Q0 (Y0 J (Q1 (W0 (rQ (W1 (rS (kO J (Q2 J (kO J (Y1 J .h3 J (kM J J (kO J (bK (j := k) ahr rfl rfl (by first | rfl | omega) (by first | decide | omega) (kO J (cV J dE aM J (kO J (bG J J (fun b37 => (kZ J (Q6 J J .here rfl rfl rfl rfl (Q0 (rS (kO J (V4 J dE .h3 J (kO J (Q2 J (kO J (Y1 J .here rfl (kO J (Q2 J (kO J (Y1 J .here rfl (kO J (aH J J (fun s1 h1 => dP _ _ _ _ _ _ _ _ _ _ _ _ _ s1 h1.wf oM (hl1.ext hs h1.2.1) (hl2.ext hs h1.2.1) oM oM oM) (kM J J (Q0 ?_))))))))))))))))))))))))))))))))))));refine rS (kM J J (kO J (Y3 J J oM (kM J J (kO J (Q2 J (kO J (Y1 J .here rfl (kO J (Q2 J (kO J (Y1 J .here rfl (kO J (Z6 J J (kO J (aH J J (fun s1 h1 => lW _ _ _ _ _ _ s1 h1.wf oM (RowsE.ownF (h1.own .h2) hWD oM)) ?_))))))))))))))));rw [mS hxm];have hixl := pK hxm;refine kO J (Y3 J J oM (kM J J (Q0 (rI (kM J J (kM J J (kM J J (kO J (Q2 J (kO J (Y1 J .here rfl (kO J (Q2 J (kO J (Y1 J .here rfl (kO J (Y3 J J oM (kO J (Q2 J (kO J (Y1 J .here rfl (kO J (Z6 J J (kM J J (kM J J (kO J (Q2 J (kO J (Y1 J .here rfl (kO J (Q2 J (kO J (Y1 J .here rfl (kO J (bX J J oM (kO J (Q2 J (kO J (Y1 J .here rfl ?_)))))))))))))))))))))))))))))))))))))));refine kO J (Z6 J J (kO J (bO J J J (fun b38 => (kO J (dI J J (iG.own .here rfl (by first | (simp; done) | (simp [aL, lK]; done))) .h2 (by rw [hln]; first | exact aA (Sv.h1 _ _) | exact aA (Sv.h2 _ _) | exact aA (Sv.h3 _ _) | exact aA (Sv.h4 _ _) | exact aA (Sv.h5i _ _ _) | exact aA (Sv.h6 _ _)) (.inl ⟨rfl, rfl⟩) dE oM oM (fun b39 => (kM J J (Q0 (Z1 (W0 (rI (kM J J (kO J (Y3 J J oM (kM J J (Q0 (W0 ?_))))))))))))))))));exact ⟨rfl, _, _, _, (show rs.length - (k + 1) < rs.length - k from oM), lL, (.q (.cons _ (.cons _ (.q (.q (.q .slnil)))))), ⟨k + 1, b39, ln + 2, rfl, (by rw [nY (Sv.q6_at (y := (Sv.mk r al up l1 l2 rs cs)) hx)]; first | done | rfl), rfl, oM, (by rw [rA (Sv.q6_at (y := (Sv.mk r al up l1 l2 rs cs)) hx), <- hln]; first | done | rfl), oM⟩⟩
          ·refine Q0 (U0 J (Y4 (Z2 (Z2 (Q3 (W0 (rS (kM J J (kM J J (Q0 (V2 ?_)))))))))))
           have hkr : k = rs.length := oM
           subst hkr;subst hln;exact fI J (.q (.cons _ (.cons _ (.cons _ .slnil)))) ⟨b, rfl, rfl⟩
  ·exfalso; omega
 ·exfalso; omega
end
theorem RowsE.row4 {s : St} {a : Option Addr} {rs : List (List Int)} (h : RowsE s 4 a rs) {k : Nat} (hk : k < rs.length) : ∃ b o u0 u1 u2 u3, a = some ⟨b, o, none⟩ /\ rs[k]? = some [u0, u1, u2, u3] /\ oR s b (o + k * 4) [.int .i64 u0, .int .i64 u1, .int .i64 u2, .int .i64 u3] /\ I64 u0 /\ I64 u1 /\ I64 u2 /\ I64 u3 := by
 obtain ⟨b, o, r, h1, h2, h3, h4, h5⟩ := h.row hk;obtain ⟨u0, r1, rfl, g1⟩ := aU h3;obtain ⟨u1, r2, rfl, g2⟩ := aU g1;obtain ⟨u2, r3, rfl, g3⟩ := aU g2;obtain ⟨u3, r4, rfl, g4⟩ := aU g3;have : r4 = [] := List.eq_nil_of_length_eq_zero g4;subst this;exact ⟨b, o, u0, u1, u2, u3, h1, h2, h4, h5 u0 sM, h5 u1 sM, h5 u2 sM, h5 u3 sM⟩
theorem PP (a0 a1 a2 a3 b0 b1 b2 b3 : Int) : pureVal Tryz.prog (Op.equal 107 (.agg #[.int .i64 a0, .int .i64 a1, .int .i64 a2, .int .i64 a3]) (.agg #[.int .i64 b0, .int .i64 b1, .int .i64 b2, .int .i64 b3])) = some (decide (([a0, a1, a2, a3] : List Int) = [b0, b1, b2, b3])) := by
 have p0 : pureVal Tryz.prog (part 3 #[.int .i64 a0, .int .i64 a1, .int .i64 a2, .int .i64 a3] 0) = some (.int .i64 a0) := kR
 have q0 : pureVal Tryz.prog (part 3 #[.int .i64 b0, .int .i64 b1, .int .i64 b2, .int .i64 b3] 0) = some (.int .i64 b0) := kR
 have p1 : pureVal Tryz.prog (part 3 #[.int .i64 a0, .int .i64 a1, .int .i64 a2, .int .i64 a3] 1) = some (.int .i64 a1) := kR
 have q1 : pureVal Tryz.prog (part 3 #[.int .i64 b0, .int .i64 b1, .int .i64 b2, .int .i64 b3] 1) = some (.int .i64 b1) := kR
 have p2 : pureVal Tryz.prog (part 3 #[.int .i64 a0, .int .i64 a1, .int .i64 a2, .int .i64 a3] 2) = some (.int .i64 a2) := kR
 have q2 : pureVal Tryz.prog (part 3 #[.int .i64 b0, .int .i64 b1, .int .i64 b2, .int .i64 b3] 2) = some (.int .i64 b2) := kR
 have p3 : pureVal Tryz.prog (part 3 #[.int .i64 a0, .int .i64 a1, .int .i64 a2, .int .i64 a3] 3) = some (.int .i64 a3) := kR
 have q3 : pureVal Tryz.prog (part 3 #[.int .i64 b0, .int .i64 b1, .int .i64 b2, .int .i64 b3] 3) = some (.int .i64 b3) := kR
 have e0 : ∀ x y, pureVal Tryz.prog (Op.equalIn 9999 3 (.int .i64 x) (.int .i64 y)) = some (x == y) := by intro x y; kernel_rfl
 unfold Op.equal;show pureVal _ (Op.equalIn (9999 + 1) 107 _ _) = _;rw [Op.equalIn];rw [fH, HT Tryz.underlying107];simp [fH, AA, p0, q0, p1, q1, p2, q2, p3, q3, e0];by_cases h0 : a0 = b0
 ·subst h0
  by_cases h1 : a1 = b1
  ·subst h1
   by_cases h2 : a2 = b2
   ·subst h2
    by_cases h3 : a3 = b3
    ·subst h3
     simp [fH, lT, p1, q1, p2, q2, p3, q3, e0]
    ·simp [h3, fH, lT, p1, q1, p2, q2, p3, q3, e0]
   ·simp [h2, fH, lT, p1, q1, p2, q2, p3, q3, e0]
  ·simp [h1, fH, lT, p1, q1, p2, q2, p3, q3, e0]
 ·simp [h0, fH, lT, p1, q1, p2, q2, p3, q3, e0]
def pL (p : Int) (fit : Prop) [Decidable fit] : Int := if p = 0 then (if fit then 0 else 2) else p
theorem iD {p : Int} {fit : Prop} [Decidable fit] (h : ¬ p = 0) : pL p fit = p := if_neg h
theorem gU {p : Int} {fit : Prop} [Decidable fit] (h : p = 0) (h2 : ¬ fit) : pL p fit = 2 := by unfold pL; rw [if_pos h, if_neg h2]
theorem oA {p : Int} {fit : Prop} [Decidable fit] (h : p = 0) (h2 : fit) : pL p fit = 0 := by unfold pL; rw [if_pos h, if_pos h2]
/-! The numbers of limits are numbers of the machine. -/
def F4 (L : List (List Int)) : Prop := ∀ r ∈ L, ∀ x ∈ r, -9223372036854775808 <= x /\ x < 9223372036854775808
theorem F4.nil : F4 [] := fun _ h => (by cases h)
theorem F4.app {L M : List (List Int)} (h : F4 L) (k : F4 M) : F4 (L ++ M) := fun r hr => (List.mem_append.1 hr).elim (h r) (k r)
theorem F4.acc {X : List (List Int)} {f : Nat -> List (List Int)} (hX : F4 X) : ∀ t, (∀ k, k < t -> F4 (f k)) -> F4 (acc X f t)
 | 0, _ => hX
 | t + 1, h => (F4.acc hX t (fun k hk => h k oM)).app (h t oM)
theorem F4.lm {a b m1 m2 y : Int} (ha : -9223372036854775808 <= a /\ a < 9223372036854775808) (hb : -9223372036854775808 <= b /\ b < 9223372036854775808) (h1 : -9223372036854775808 <= m1 /\ m1 < 9223372036854775808) (h2 : -9223372036854775808 <= m2 /\ m2 < 9223372036854775808) (hy : -9223372036854775808 <= y /\ y < 9223372036854775808) : F4 (lK a b m1 m2 y) := fun r hr x hx => by
 rcases List.mem_cons.1 hr with rfl | hr
 ·simp only [List.mem_cons, List.not_mem_nil, or_false] at hx
  rcases hx with rfl | rfl | rfl | rfl <;> assumption
 ·rw [List.mem_singleton.1 hr] at hx
  simp only [List.mem_cons, List.not_mem_nil, or_false] at hx;rcases hx with rfl | rfl | rfl | rfl <;> assumption
theorem AN {r d : Int} (hr : 0 <= r /\ r <= 100000) (hd : 0 <= d /\ d <= 100000) : 0 <= sL r d /\ sL r d <= 20000 := by
 have h := C3 hr hd;unfold sL;rw [Int.tdiv_eq_ediv_of_nonneg oM];omega
theorem EG {s : St} {a3 a4 : Option Addr} {r al up : Int} {l1 l2 : List Int} {rs cs : List (List Int)} (hsr : 1 <= r /\ r <= 99999) (hsa : 0 <= al /\ al <= 100000) (hsu : 0 <= up /\ up <= 100000) (hpl : bA l1 l2 = true) (h60 : rs.length <= 60) (h20 : cs.length <= 20) (hrdb : nW (l1.length : Int) (l2.length : Int) rs = true) (hcpb : mY cs = true)
 (hr : RowsE s 7 a3 rs) (hc : RowsE s 6 a4 cs) (hDl : (dys rs).length <= 60) : Wd 4 (Sv.b6 (Sv.mk r al up l1 l2 rs cs)) := by
 have hp1 := fJ hpl;have hp2 := iX hpl;have hm1 := hp1.hm;have hm2 : (l2.length : Int) <= 7 := yM hpl;have h22 := hp2.h2;have hN : l2.length * l1.length <= 81 := gE oM oM;have hM := eM (x := (l1.length : Int)) (y := (l2.length : Int)) oM oM;have hk9 : ∀ k, k < l2.length * l1.length -> k / l2.length < l1.length := fun k hk => Nat.div_lt_of_lt_mul hk
 have hkn : ∀ k, k % l2.length < l2.length := fun k => Nat.mod_lt _ oM
 have e1 : F4 (acc [] (Sv.q1 (Sv.mk r al up l1 l2 rs cs)) (l2.length * l1.length)) := F4.nil.acc _ (fun k hk => F4.lm oM oM oM oM (show _ <= r /\ r < _ from oM));have hsp : ∀ k, k < l2.length * l1.length -> ∃ i w, w < l2.length /\ i < l1.length /\ k = l2.length * i + w := fun k hk => ⟨k / l2.length, k % l2.length, hkn k, hk9 k hk, (Nat.div_add_mod k l2.length).symm⟩
 have e2 : F4 (acc (Sv.b1 (Sv.mk r al up l1 l2 rs cs)) (Sv.q2 (Sv.mk r al up l1 l2 rs cs)) (l2.length * l1.length)) := F4.acc e1 _ (fun k hk => by
  obtain ⟨i, w, hw, hi, rfl⟩ := hsp k hk;by_cases hq : (i : Int) + 1 < (l1.length : Int)
  ·rw [Sv.q2_yes (y := (Sv.mk r al up l1 l2 rs cs)) hw hq]
   have z0 := hp1.lo i;have z1 := hp1.lo (i + 1);have z2 := hp1.rise i oM;have hb := AN (r := al) (d := l1.getD (i + 1) 0 - l1.getD i 0) hsa oM;have hs := eM (x := (i : Int) + 1) (y := (l2.length : Int)) oM oM;exact F4.lm (by show _ <= ((l2.length * i + w : Nat) : Int) + 1 /\ ((l2.length * i + w : Nat) : Int) + 1 < _; omega) (by show _ <= 1 + ((i : Int) + 1) * (l2.length : Int) + (w : Int) /\ 1 + ((i : Int) + 1) * (l2.length : Int) + (w : Int) < _; omega) (by show _ <= sL al (l1.getD (i + 1) 0 - l1.getD i 0) /\ sL al (l1.getD (i + 1) 0 - l1.getD i 0) < _; omega) (by show _ <= sL al (l1.getD (i + 1) 0 - l1.getD i 0) /\ sL al (l1.getD (i + 1) 0 - l1.getD i 0) < _; omega) (by show _ <= r /\ r < _; omega)
  ·rw [Sv.q2_no (y := (Sv.mk r al up l1 l2 rs cs)) hw hq]; exact F4.nil)
 have e3 : F4 (acc (Sv.b2 (Sv.mk r al up l1 l2 rs cs)) (Sv.q3 (Sv.mk r al up l1 l2 rs cs)) (l2.length * l1.length)) := F4.acc e2 _ (fun k hk => by
  obtain ⟨i, w, hw, hi, rfl⟩ := hsp k hk;by_cases hq : (w : Int) + 1 < (l2.length : Int)
  ·rw [Sv.q3_yes (y := (Sv.mk r al up l1 l2 rs cs)) hw hq]
   have z0 := hp2.lo w;have z1 := hp2.lo (w + 1);have z2 := hp2.rise w oM;have hb := AN (r := up) (d := l2.getD (w + 1) 0 - l2.getD w 0) hsu oM;have hs := eM (x := (i : Int)) (y := (l2.length : Int)) oM oM;exact F4.lm (by show _ <= ((l2.length * i + w : Nat) : Int) + 1 /\ ((l2.length * i + w : Nat) : Int) + 1 < _; omega) (by show _ <= 1 + (i : Int) * (l2.length : Int) + ((w : Int) + 1) /\ 1 + (i : Int) * (l2.length : Int) + ((w : Int) + 1) < _; omega) (by show _ <= sL up (l2.getD (w + 1) 0 - l2.getD w 0) /\ sL up (l2.getD (w + 1) 0 - l2.getD w 0) < _; omega) (by show _ <= sL up (l2.getD (w + 1) 0 - l2.getD w 0) /\ sL up (l2.getD (w + 1) 0 - l2.getD w 0) < _; omega) (by show _ <= r /\ r < _; omega)
  ·rw [Sv.q3_no (y := (Sv.mk r al up l1 l2 rs cs)) hw hq]; exact F4.nil)
 have e4 : F4 (acc (Sv.b3 (Sv.mk r al up l1 l2 rs cs)) (Sv.q4 (Sv.mk r al up l1 l2 rs cs)) (dys rs).length) := F4.acc e3 _ (fun k hk => F4.lm oM (show _ <= (l1.length : Int) * (l2.length : Int) + 1 + (k : Int) /\ (l1.length : Int) * (l2.length : Int) + 1 + (k : Int) < _ from oM) oM oM (show _ <= r /\ r < _ from oM));have e5 : ∀ i, i <= cs.length -> F4 (Sv.b5 (Sv.mk r al up l1 l2 rs cs) i) := by
  intro i
  induction i with
  | zero => intro _; exact e4
  | succ i ih =>
   intro hi;refine F4.acc (ih oM) (dys rs).length (fun k hk => ?_);obtain ⟨_, _, z0, z1, z2, z3, z4, z5, _, hz, _, j0, j1, j2, j3, j4, j5⟩ := hc.row6 (k := i) oM;have hcd := qX hcpb hz;have hz' : cs.getD i [] = [z0, z1, z2, z3, z4, z5] := Sv.getD_of hz;unfold Sv.q5;split
   ·show F4 (lK 0 ((l1.length : Int) * (l2.length : Int) + 1 + (k : Int)) (-(cs.getD i []).getD 4 0) ((cs.getD i []).getD 5 0) ((cs.getD i []).getD 0 0))
    rw [hz'];exact F4.lm oM oM (show _ <= -z4 /\ -z4 < _ from oM) (show _ <= z5 /\ z5 < _ from oM) (show _ <= z0 /\ z0 < _ from oM)
   ·exact F4.nil
 refine ⟨fun x hx => Sv.h6 _ _ x hx, F4.acc (e5 _ (Nat.le_refl _)) rs.length (fun k hk => ?_)⟩;obtain ⟨_, _, x0, x1, x2, x3, x4, x5, x6, _, hx, _, i0, i1, i2, i3, i4, i5, i6⟩ := hr.row7 (k := k) oM;have hrd := lZ hrdb hx;have hix := pK (nZ hx);have hs := eM (x := x1) (y := (l2.length : Int)) oM oM;rw [Sv.q6_at (y := (Sv.mk r al up l1 l2 rs cs)) hx];exact F4.lm (show _ <= (l1.length : Int) * (l2.length : Int) + 1 + (uW [x5, x6] (dys rs) : Int) /\ (l1.length : Int) * (l2.length : Int) + 1 + (uW [x5, x6] (dys rs) : Int) < _ from oM) (show _ <= 1 + x1 * (l2.length : Int) + x2 /\ 1 + x1 * (l2.length : Int) + x2 < _ from oM) oM oM oM
theorem AO {s : St} {a : Option Addr} {rs : List (List Int)} (hr : RowsE s 7 a rs) : (dys rs).length <= rs.length := by
 have key : ∀ k, k <= rs.length -> (dys (rs.take k)).length <= k := by
  intro k
  induction k with
  | zero => intro _; exact Nat.le_refl _
  | succ k ih =>
   intro hk;obtain ⟨_, _, x0, x1, x2, x3, x4, x5, x6, _, hx, _⟩ := hr.row7 (k := k) oM;rw [xV hx];have := ih oM;split
   ·omega
   ·rw [List.length_append]; simp; omega
 have := key rs.length (Nat.le_refl _)
 rwa [List.take_of_length_le (Nat.le_refl _)] at this
theorem Ie {r al up : Int} {l1 l2 : List Int} {rs cs : List (List Int)} (h60 : rs.length <= 60) (h20 : cs.length <= 20) (hN : l2.length * l1.length <= 81) (hD : (dys rs).length <= 60) : (Sv.b6 (Sv.mk r al up l1 l2 rs cs)).length <= 4000 := by
 have key : ∀ (X : List (List Int)) (f : Nat -> List (List Int)) (t : Nat), (∀ k, (f k).length <= 2) -> (acc X f t).length <= X.length + 2 * t := by
  intro X f t h
  induction t with
  | zero => exact Nat.le_refl _
  | succ t ih => show (acc X f t ++ f t).length <= _; rw [List.length_append]; have := h t; omega
 have g1 := key [] (Sv.q1 (Sv.mk r al up l1 l2 rs cs)) (l2.length * l1.length) (fun k => Nat.le_refl _);have g2 := key (Sv.b1 (Sv.mk r al up l1 l2 rs cs)) (Sv.q2 (Sv.mk r al up l1 l2 rs cs)) (l2.length * l1.length) (fun k => by unfold Sv.q2; split; exact Nat.le_refl _; exact Nat.zero_le _);have g3 := key (Sv.b2 (Sv.mk r al up l1 l2 rs cs)) (Sv.q3 (Sv.mk r al up l1 l2 rs cs)) (l2.length * l1.length) (fun k => by unfold Sv.q3; split; exact Nat.le_refl _; exact Nat.zero_le _);have g4 := key (Sv.b3 (Sv.mk r al up l1 l2 rs cs)) (Sv.q4 (Sv.mk r al up l1 l2 rs cs)) (dys rs).length (fun k => Nat.le_refl _);have g5 : ∀ i, (Sv.b5 (Sv.mk r al up l1 l2 rs cs) i).length <= (Sv.b5 (Sv.mk r al up l1 l2 rs cs) 0).length + 120 * i := by
  intro i
  induction i with
  | zero => exact Nat.le_refl _
  | succ i ih =>
   have := key (Sv.b5 (Sv.mk r al up l1 l2 rs cs) i) (Sv.q5 (Sv.mk r al up l1 l2 rs cs) i) (dys rs).length (fun k => by unfold Sv.q5; split; exact Nat.le_refl _; exact Nat.zero_le _);have e : Sv.b5 (Sv.mk r al up l1 l2 rs cs) (i + 1) = acc (Sv.b5 (Sv.mk r al up l1 l2 rs cs) i) (Sv.q5 (Sv.mk r al up l1 l2 rs cs) i) (dys rs).length := rfl;rw [e]; omega
 have g6 := key (Sv.b5 (Sv.mk r al up l1 l2 rs cs) cs.length) (Sv.q6 (Sv.mk r al up l1 l2 rs cs)) rs.length (fun k => Nat.le_refl _);have g7 := g5 cs.length;have c1 : Sv.b1 (Sv.mk r al up l1 l2 rs cs) = acc [] (Sv.q1 (Sv.mk r al up l1 l2 rs cs)) (l2.length * l1.length) := rfl;have c2 : Sv.b2 (Sv.mk r al up l1 l2 rs cs) = acc (Sv.b1 (Sv.mk r al up l1 l2 rs cs)) (Sv.q2 (Sv.mk r al up l1 l2 rs cs)) (l2.length * l1.length) := rfl;have c3 : Sv.b3 (Sv.mk r al up l1 l2 rs cs) = acc (Sv.b2 (Sv.mk r al up l1 l2 rs cs)) (Sv.q3 (Sv.mk r al up l1 l2 rs cs)) (l2.length * l1.length) := rfl;have c4 : Sv.b5 (Sv.mk r al up l1 l2 rs cs) 0 = acc (Sv.b3 (Sv.mk r al up l1 l2 rs cs)) (Sv.q4 (Sv.mk r al up l1 l2 rs cs)) (dys rs).length := rfl;have c6 : (Sv.b6 (Sv.mk r al up l1 l2 rs cs)) = acc (Sv.b5 (Sv.mk r al up l1 l2 rs cs) cs.length) (Sv.q6 (Sv.mk r al up l1 l2 rs cs)) rs.length := rfl;rw [c1] at g2; rw [c2, c1] at g3; rw [c3, c2, c1] at g4; rw [c4, c3, c2, c1] at g7; rw [c6];simp only [List.length_nil] at g1;omega
section
variable {X : FuncId -> List Value -> St -> (Value -> St -> Bool) -> Bool}
theorem xX (n : Nat) (d r al up : Int) (a1 a2 : Option Addr) (c1 c2 : Nat) (l1 l2 : List Int) (a3 a4 : Option Addr) (c3 c4 : Nat) (rs cs : List (List Int)) (s : St) (hs : Wf s) (hn : 3940649673949184 <= n) (hl1 : aI s a1 l1) (hl2 : aI s a2 l2) (hr : RowsE s 7 a3 rs) (hc : RowsE s 6 a4 cs) : bW Tryz.prog (cA cH) X (n + 6200) 10 [.agg ⟨[.int .i64 d, .int .i64 r, .slice a1 l1.length c1, .slice a2 l2.length c2, .int .i64 al, .int .i64 up, .slice a3 rs.length c3, .slice a4 cs.length c4]⟩] s (fun v A => (fO ((1 <= d /\ d <= 99999) /\ (1 <= r /\ r <= 99999) /\ (0 <= al /\ al <= 100000) /\ (0 <= up /\ up <= 100000) /\ bA l1 l2 = true) l1 l2 rs cs ≠ 0 /\ v = .tuple #[.agg ⟨[.int .i64 0, .slice none 0 0]⟩, .int .i64 (fO ((1 <= d /\ d <= 99999) /\ (1 <= r /\ r <= 99999) /\ (0 <= al /\ al <= 100000) /\ (0 <= up /\ up <= 100000) /\ bA l1 l2 = true) l1 l2 rs cs)] /\ A = []) ∨ (fO ((1 <= d /\ d <= 99999) /\ (1 <= r /\ r <= 99999) /\ (0 <= al /\ al <= 100000) /\ (0 <= up /\ up <= 100000) /\ bA l1 l2 = true) l1 l2 rs cs = 0 /\ ¬ iF (l1.length : Int) (l2.length : Int) rs (Sv.b6 (Sv.mk r al up l1 l2 rs cs)) /\ v = .tuple #[.agg ⟨[.int .i64 0, .slice none 0 0]⟩, .int .i64 2] /\ A = []) ∨ (fO ((1 <= d /\ d <= 99999) /\ (1 <= r /\ r <= 99999) /\ (0 <= al /\ al <= 100000) /\ (0 <= up /\ up <= 100000) /\ bA l1 l2 = true) l1 l2 rs cs = 0 /\ iF (l1.length : Int) (l2.length : Int) rs (Sv.b6 (Sv.mk r al up l1 l2 rs cs)) /\ ∃ b, v = .tuple #[.agg ⟨[.int .i64 ((l1.length : Int) * (l2.length : Int) + ((dys rs).length : Int)), .slice (some ⟨b, 0, none⟩) (Sv.b6 (Sv.mk r al up l1 l2 rs cs)).length OPEN]⟩, .int .i64 0] /\ A = [.row b 107 true (aL (Sv.b6 (Sv.mk r al up l1 l2 rs cs)))])) := by
 refine enter Lj rfl hs ?_;unfold JJ;have hlen1 := hl1.len;have hlen2 := hl2.len;have hlen3 := hr.len;have hlen4 := hc.len;refine rS (kO J (bI J J J (fun b1 => (kO J (bG J J (fun b2 => (kM J J (Q0 (rS (kO J (V4 J dE .h1 J (kO J (Z4 J J (fun s1 h1 => tU _ _ _ _ _ _ _ _ _ _ _ _ _ _ _ _ _ s1 h1.wf oM (hl1.ext hs h1.2.1) (hl2.ext hs h1.2.1) (hr.ext hs h1.2.1) (hc.ext hs h1.2.1)) (fun v1 A1 q1 => ?_))))))))))))));rcases q1 with ⟨hpn, rfl, rfl⟩ | ⟨hpt, hnf, rfl, rfl⟩ | ⟨hpt, hfit, bL, bs, DS, DR, rfl, rfl, hDR⟩
 ·refine kM J J (kO J (V1 J J (kO J (V1 J J (kM J J (kM J J (Q0 (rQ (rS (kM J J (kO J (V3 J J (fun h3 => ?_) (fun h3 => ?_)))))))))))))
  ·refine Q0 (Y0 J (rS (kO J (Z6 J J (kM J J (kZ J (Q6 J J .here rfl rfl rfl rfl (kM J J (Q0 (V2 (W3 (⟨rfl, [_, _], [], ⟨_, _, _, [_], rfl, rfl, dE, ⟨_, _, _, .here, rfl⟩, _, [], rfl, rfl, rfl⟩, (.cons _ (.cons _ .slnil)), .inl ⟨aM, rfl, rfl⟩⟩))))))))))))
  ·exact absurd oM hpn
 ·refine kM J J (kO J (V1 J J (kO J (V1 J J (kM J J (kM J J (Q0 (rQ (rS (kM J J (kO J (V3 J J (fun _ => (Q0 (Y0 J (rS (kO J (Z6 J J (kM J J (kZ J (Q6 J J .here rfl rfl rfl rfl (kM J J (Q0 (V2 (W3 (⟨rfl, [_, _], [], ⟨_, _, _, [_], rfl, rfl, dE, ⟨_, _, _, .here, rfl⟩, _, [], rfl, rfl, rfl⟩, (.cons _ (.cons _ .slnil)), .inr (.inl ⟨hpt, hnf, rfl, rfl⟩)⟩)))))))))))))) (fun h => absurd h dE)))))))))))))
 ·refine kM J J (kO J (V1 J J (kO J (V1 J J (kM J J (kM J J (Q0 (rQ (rS (kM J J (kO J (V3 J J (fun h => absurd h dE) (fun _ => (Q0 (U0 J (Q1 (W0 (rS (kM J J (kO J (W4 J (kO J (Q2 J (kO J (V4 J dE .h1 J (kZ J (Q6 J J (.next (.next (.app .here))) J J J J (kM J J (Q0 (V2 (⟨rfl, [_, _], _, ⟨_, _, _, [_], rfl, rfl, dE, ⟨_, _, _, (.next (.next (.app .here))), rfl⟩, _, [], rfl, rfl, rfl⟩, (.q (.cons _ (sR (.cons _ (.cons _ .slnil))))), .inr (.inr ⟨hpt, hfit, bL, rfl, rfl⟩)⟩)))))))))))))))))))))))))))))))
theorem vR (n : Nat) (d r al up : Int) (a1 a2 : Option Addr) (c1 c2 : Nat) (l1 l2 : List Int) (a3 a4 : Option Addr) (c3 c4 : Nat) (rs cs : List (List Int)) (s : St) (hs : Wf s) (hn : 3940649673949184 <= n) (hl1 : aI s a1 l1) (hl2 : aI s a2 l2) (hr : RowsE s 7 a3 rs) (hc : RowsE s 6 a4 cs) : bW Tryz.prog (cA cH) X (n + 6200) 21 [.agg ⟨[.int .i64 d, .int .i64 r, .slice a1 l1.length c1, .slice a2 l2.length c2, .int .i64 al, .int .i64 up, .slice a3 rs.length c3, .slice a4 cs.length c4]⟩] s (fun v A => v = .int .i64 (pL (fO ((1 <= d /\ d <= 99999) /\ (1 <= r /\ r <= 99999) /\ (0 <= al /\ al <= 100000) /\ (0 <= up /\ up <= 100000) /\ bA l1 l2 = true) l1 l2 rs cs) (iF (l1.length : Int) (l2.length : Int) rs (Sv.b6 (Sv.mk r al up l1 l2 rs cs)))) /\ A = []) := by
 refine enter Lu rfl hs ?_;unfold J5;have hlen1 := hl1.len;have hlen2 := hl2.len;have hlen3 := hr.len;have hlen4 := hc.len;refine rS (kO J (bI J J J (fun b1 => (kM J J (Q0 (rS (kO J (V4 J dE .here rfl (kO J (Z4 J J (fun s1 h1 => tU _ _ _ _ _ _ _ _ _ _ _ _ _ _ _ _ _ s1 h1.wf oM (hl1.ext hs h1.2.1) (hl2.ext hs h1.2.1) (hr.ext hs h1.2.1) (hc.ext hs h1.2.1)) (fun v1 A1 q1 => ?_)))))))))));rcases q1 with ⟨hpn, rfl, rfl⟩ | ⟨hpt, hnf, rfl, rfl⟩ | ⟨hpt, hfit, bL, bs, DS, DR, rfl, rfl, hDR⟩
 ·refine kM J J (kO J (V1 J J (kO J (V1 J J (kM J J (kM J J (Q0 (rS (kM J J (kM J J (Q0 (V2 (aV J ⟨congrArg (Value.int .i64) ?_, rfl⟩)))))))))))))
  first
   | exact (iD aM).symm
   | exact (gU aM aM).symm
   | exact (oA aM aM).symm
 ·refine kM J J (kO J (V1 J J (kO J (V1 J J (kM J J (kM J J (Q0 (rS (kM J J (kM J J (Q0 (V2 (aV J ⟨congrArg (Value.int .i64) ?_, rfl⟩)))))))))))))
  first
   | exact (iD aM).symm
   | exact (gU aM aM).symm
   | exact (oA aM aM).symm
 ·refine kM J J (kO J (V1 J J (kO J (V1 J J (kM J J (kM J J (Q0 (rS (kM J J (kM J J (Q0 (V2 (aV J ⟨congrArg (Value.int .i64) ?_, rfl⟩)))))))))))))
  first
   | exact (iD aM).symm
   | exact (gU aM aM).symm
   | exact (oA aM aM).symm
theorem mU (n : Nat) (d r al up : Int) (a1 a2 : Option Addr) (c1 c2 : Nat) (l1 l2 : List Int) (a3 a4 : Option Addr) (c3 c4 : Nat) (rs cs : List (List Int)) (s : St) (hs : Wf s) (hn : 3940649673949184 <= n) (hl1 : aI s a1 l1) (hl2 : aI s a2 l2) (hr : RowsE s 7 a3 rs) (hc : RowsE s 6 a4 cs) : bW Tryz.prog (cA cH) X (n + 3400) 22 [.agg ⟨[.int .i64 d, .int .i64 r, .slice a1 l1.length c1, .slice a2 l2.length c2, .int .i64 al, .int .i64 up, .slice a3 rs.length c3, .slice a4 cs.length c4]⟩] s (fun v A => v = .int .i64 (pL (fO ((1 <= d /\ d <= 99999) /\ (1 <= r /\ r <= 99999) /\ (0 <= al /\ al <= 100000) /\ (0 <= up /\ up <= 100000) /\ bA l1 l2 = true) l1 l2 rs cs) (iF (l1.length : Int) (l2.length : Int) rs (Sv.b6 (Sv.mk r al up l1 l2 rs cs)))) /\ A = []) := by
 refine enter Lv rfl hs ?_;unfold J7;have hlen1 := hl1.len;have hlen2 := hl2.len;have hlen3 := hr.len;have hlen4 := hc.len;refine rS (kO J (bI J J J (fun b1 => (kM J J (Q0 (rQ (rS (kO J (Q2 J (kO J (V4 J dE .here rfl (kO J (gL J J (fun s1 h1 => gJ _ _ _ _ _ _ _ _ _ _ _ s1 h1.wf oM (hl1.ext hs h1.2.1) (hl2.ext hs h1.2.1)) (fun h2 => ?_) (fun h2 => ?_))))))))))))))
 ·have hsp := h2
  refine kO J (V3 J J (fun h => absurd h dE) (fun _ => (Q0 (U0 J (Q1 (W0 (rQ (rS (kO J (Q2 J (kO J (Y1 J .here rfl (kO J (aJ J (by first | exact hr.spot | exact hc.spot) (kO J (fP J J (fun h4 => ?_) (fun h4 => ?_)))))))))))))))))
  ·refine kM J J (V0 J J (V0 J J (V0 J J (V0 J J (kO J (W2 J J J (Q0 (Y0 J (rS (kM J J (Q0 (V2 (W3 (aV J ⟨congrArg (Value.int .i64) ?_, rfl⟩))))))))))))))
   first
    | (rw [iD (by unfold fO; rw [if_pos hsp, if_pos oM]; decide)]; unfold fO; rw [if_pos hsp, if_pos oM]; done)
    | (refine (gU hpt ?_).symm; intro hf; have hf1 := hf.1; have hf2 := hf.2; first | omega | (have hd0 : (dys rs).length = 0 := (by rw [hrs]; rfl); omega))
  ·refine kM J J (kG J J (Q2 J (kG J J (Y1 J .here rfl (kG J J (aJ J (by first | exact hr.spot | exact hc.spot) (kG J J (fP J J (fun h5 => ?_) (fun h5 => ?_)))))))))
   ·refine kO J (U1 J J J (Q0 (Y0 J (rS (kM J J (Q0 (V2 (W3 (aV J ⟨congrArg (Value.int .i64) ?_, rfl⟩)))))))))
    first
     | (rw [iD (by unfold fO; rw [if_pos hsp, if_pos oM]; decide)]; unfold fO; rw [if_pos hsp, if_pos oM]; done)
     | (refine (gU hpt ?_).symm; intro hf; have hf1 := hf.1; have hf2 := hf.2; first | omega | (have hd0 : (dys rs).length = 0 := (by rw [hrs]; rfl); omega))
   ·refine kO J (U1 J J J (Q0 (U0 J (Q1 (W0 (rQ (rS (kM J J (Q0 (W1 (U4 (fun j e A => ∃ (k : Nat), e = [(1, .pointer (some ⟨b1, 0, none⟩)), (3, .int .i64 (k : Int))] /\ A = (.row b1 37 false ([.int .i64 d, .int .i64 r, .slice a1 l1.length c1, .slice a2 l2.length c2, .int .i64 al, .int .i64 up, .slice a3 rs.length c3, .slice a4 cs.length c4]) :: []) /\ j = rs.length - k /\ k <= rs.length /\ nW (l1.length : Int) (l2.length : Int) rs = nW (l1.length : Int) (l2.length : Int) (rs.drop k)) 400 844424930131968 281474976710656 ?_ (j := _) (env2 := _) (A2 := _) ?_ ?_ ?_ ?_ ⟨0, rfl, rfl, rfl, Nat.zero_le _, rfl⟩)))))))))))
    rotate_left
    ·omega
    ·omega
    ·exact lL
    ·exact (.q .slnil)
    rintro n hn j _ _ ⟨k, rfl, rfl, rfl, hk, hi⟩;refine rQ (rS (kM J J (kO J (Q2 J (kO J (Y1 J .here rfl (kO J (aJ J (by first | exact hr.spot | exact hc.spot) (kO J (W5 J J (fun h6 => ?_) (fun h6 => ?_)))))))))))
    ·obtain ⟨q7, o7, x0, x1, x2, x3, x4, x5, x6, ahr, hx, hat, i0, i1, i2, i3, i4, i5, i6⟩ := hr.row7 (k := k) oM
     have hat2 := hat;obtain ⟨d0, d1, d2, d3, d4, d5, d6, _⟩ := hat2;have := i0.lo; have := i0.hi;have := i1.lo; have := i1.hi;have := i2.lo; have := i2.hi;have := i3.lo; have := i3.hi;have := i4.lo; have := i4.hi;have := i5.lo; have := i5.hi;have := i6.lo; have := i6.hi;refine Q0 (Y0 J (Q1 (W0 (rQ (W1 (rS (kO J (Q2 J (kO J (V4 J dE .here rfl (kO J (Q2 J (kO J (Y1 J .here rfl (kM J J (kO J (bK (j := k) ahr rfl rfl (by first | rfl | omega) (by first | decide | omega) (kO J (cV J dE aM J (kO J (bH J J (fun s1 h1 => pJ _ _ _ _ _ _ _ _ _ _ _ _ _ _ _ _ _ _ s1 h1.wf oM (hl1.ext hs h1.2.1) (hl2.ext hs h1.2.1)) (fun h7 => ?_) (fun h7 => ?_))))))))))))))))))))))
     ·refine kO J (U6 J (Q0 (U0 J (Q1 (Z1 (W0 (rI (kM J J (kO J (Y3 J J oM (kM J J (Q0 (W0 ?_)))))))))))))
      exact ⟨rfl, _, _, _, (show rs.length - (k + 1) < rs.length - k from oM), lL, (.q .slnil), ⟨k + 1, rfl, rfl, rfl, oM, BW hx hi aM⟩⟩
     ·refine kO J (U6 J (Q0 (Y0 J (rS (kM J J (Q0 (V2 (Y6 (W3 (W3 (Y6 (W3 (aV J ⟨congrArg (Value.int .i64) ?_, rfl⟩)))))))))))))
      have hpe : fO ((1 <= d /\ d <= 99999) /\ (1 <= r /\ r <= 99999) /\ (0 <= al /\ al <= 100000) /\ (0 <= up /\ up <= 100000) /\ bA l1 l2 = true) l1 l2 rs cs = 31 := by unfold fO; rw [if_pos hsp, if_neg oM, gB hx hi aM]; rfl
      rw [iD (by rw [hpe]; decide), hpe]
    ·have hrd2 := EA hi oM
     clear hi hk hn;refine Q0 (U0 J (Y4 (Z2 (Z2 (Q3 (W0 (rQ (rS (kM J J (Q0 (W1 (U4 (fun j e A => ∃ (k : Nat), e = [(1, .pointer (some ⟨b1, 0, none⟩)), (4, .int .i64 (k : Int))] /\ A = (.row b1 37 false ([.int .i64 d, .int .i64 r, .slice a1 l1.length c1, .slice a2 l2.length c2, .int .i64 al, .int .i64 up, .slice a3 rs.length c3, .slice a4 cs.length c4]) :: []) /\ j = cs.length - k /\ k <= cs.length /\ mY cs = mY (cs.drop k)) 300 844424930131968 281474976710656 ?_ (j := _) (env2 := _) (A2 := _) ?_ ?_ ?_ ?_ ⟨0, rfl, rfl, rfl, Nat.zero_le _, rfl⟩))))))))))))
     rotate_left
     ·omega
     ·omega
     ·exact lL
     ·exact (.q .slnil)
     rintro n hn j _ _ ⟨k, rfl, rfl, rfl, hk, hj⟩;refine rQ (rS (kM J J (kO J (Q2 J (kO J (Y1 J .here rfl (kO J (aJ J (by first | exact hr.spot | exact hc.spot) (kO J (W5 J J (fun h8 => ?_) (fun h8 => ?_)))))))))))
     ·obtain ⟨q6, o6, z0, z1, z2, z3, z4, z5, ahc, hz, hat, j0, j1, j2, j3, j4, j5⟩ := hc.row6 (k := k) oM
      have hat2 := hat;obtain ⟨e0, e1, e2, e3, e4, e5, _⟩ := hat2;have := j0.lo; have := j0.hi;have := j1.lo; have := j1.hi;have := j2.lo; have := j2.hi;have := j3.lo; have := j3.hi;have := j4.lo; have := j4.hi;have := j5.lo; have := j5.hi;refine Q0 (Y0 J (Q1 (W0 (rQ (W1 (rS (kO J (Q2 J (kO J (Y1 J .here rfl (kM J J (kO J (bK (j := k) ahc rfl rfl (by first | rfl | omega) (by first | decide | omega) (kO J (cV J dE aM J (kO J (bH J J (fun s1 h1 => xU _ _ _ _ _ _ _ s1 h1.wf) (fun h9 => ?_) (fun h9 => ?_))))))))))))))))))
      ·refine kO J (U6 J (Q0 (U0 J (Q1 (Z1 (W0 (rI (kM J J (kO J (Y3 J J oM (kM J J (Q0 (W0 ?_)))))))))))))
       exact ⟨rfl, _, _, _, (show cs.length - (k + 1) < cs.length - k from oM), lL, (.q .slnil), ⟨k + 1, rfl, rfl, rfl, oM, BY hz hj aM⟩⟩
      ·refine kO J (U6 J (Q0 (Y0 J (rS (kM J J (Q0 (V2 (Y6 (W3 (W3 (Y6 (W3 (aV J ⟨congrArg (Value.int .i64) ?_, rfl⟩)))))))))))))
       have hpe : fO ((1 <= d /\ d <= 99999) /\ (1 <= r /\ r <= 99999) /\ (0 <= al /\ al <= 100000) /\ (0 <= up /\ up <= 100000) /\ bA l1 l2 = true) l1 l2 rs cs = 32 := by unfold fO; rw [if_pos hsp, if_neg oM, hrd2, gC hz hj aM]; rfl
       rw [iD (by rw [hpe]; decide), hpe]
     ·have hcb := nX hj oM
      have hpt := rC hsp oM hrd2 hcb;obtain ⟨⟨hsd, hsr, hsa, hsu, hpl⟩, h60, h20, hrdb, hcpb⟩ := mA hpt;have hp1 := fJ hpl;have hm1 := hp1.hm;have hm2 : (l2.length : Int) <= 7 := yM hpl;have hmm := eM (x := (l1.length : Int)) (y := (l2.length : Int)) oM oM;have hdl := AO hr;clear hj hk hn;refine Q0 (U0 J (Y4 (Z2 (Z2 (Q3 (W0 (rQ (rS (kO J (Q2 J (kO J (V4 J dE .here rfl (kO J (Q2 J (kO J (Y1 J .here rfl (kO J (aH J J (fun s1 h1 => eY _ _ _ _ _ _ _ _ _ _ _ s1 h1.wf oM (hl1.ext hs h1.2.1) (hl2.ext hs h1.2.1) oM) (kZ J (aK J J .here rfl (by simp [eqV, eqA, eqL, kindEq, aB, V5 hl1.spot, V5 hl2.spot, V5 hr.spot, V5 hc.spot]) (kO J (Z4 J J (fun s1 h1 => vQ _ _ _ _ s1 h1.wf oM (hr.ext hs h1.2.1) oM) (fun v1 A1 q1 => ?_)))))))))))))))))))))));rcases q1 with ⟨hrs, rfl, rfl⟩ | ⟨hne, bd, rfl, rfl, hWD, hDl⟩
      ·refine kO J (qV J (kO J (Y3 J J oM (kO J (fP J J (fun h10 => ?_) (fun h10 => ?_))))))
       ·refine kM J J (V0 J J (V0 J J (V0 J J (V0 J J (kO J (W2 J J J (Q0 (Y0 J (rS (kM J J (Q0 (V2 (W3 (aV J ⟨congrArg (Value.int .i64) ?_, rfl⟩))))))))))))))
        first
         | (rw [iD (by unfold fO; rw [if_pos hsp, if_pos oM]; decide)]; unfold fO; rw [if_pos hsp, if_pos oM]; done)
         | (refine (gU hpt ?_).symm; intro hf; have hf1 := hf.1; have hf2 := hf.2; first | omega | (have hd0 : (dys rs).length = 0 := (by rw [hrs]; rfl); omega))
       ·refine kM J J (kG J J (V4 J dE .here rfl (kG J J (Z4 J J (fun s1 h1 => sO _ _ _ _ _ _ _ _ _ _ _ _ _ _ _ _ _ s1 h1.wf oM (hl1.ext hs h1.2.1) (hl2.ext hs h1.2.1) (hr.ext hs h1.2.1) (hc.ext hs h1.2.1) hpt) (fun v1 A1 q1 => ?_)))))
        obtain ⟨bm11, rfl, rfl⟩ := q1;refine kG J J (dO J (kG J J (fP J J (fun h12 => ?_) (fun h12 => ?_))))
        ·refine kO J (U1 J J J (Q0 (Y0 J (rS (kM J J (Q0 (V2 (W3 (aV J ⟨congrArg (Value.int .i64) ?_, rfl⟩)))))))))
         first
          | (rw [iD (by unfold fO; rw [if_pos hsp, if_pos oM]; decide)]; unfold fO; rw [if_pos hsp, if_pos oM]; done)
          | (refine (gU hpt ?_).symm; intro hf; have hf1 := hf.1; have hf2 := hf.2; first | omega | (have hd0 : (dys rs).length = 0 := (by rw [hrs]; rfl); omega))
        ·refine kO J (U1 J J J (Q0 (U0 J (Q1 (W0 (rS (kM J J (Q0 (V2 (aV J ⟨congrArg (Value.int .i64) ?_, rfl⟩))))))))))
         have hf1 : iF (l1.length : Int) (l2.length : Int) rs (Sv.b6 (Sv.mk r al up l1 l2 rs cs)) := ⟨by first | omega | (have hd0 : (dys rs).length = 0 := (by rw [hrs]; rfl); omega), oM⟩;exact (oA hpt hf1).symm
      ·refine kO J (dO J (kO J (Y3 J J oM (kO J (fP J J (fun h13 => ?_) (fun h13 => ?_))))))
       ·refine kM J J (V0 J J (V0 J J (V0 J J (V0 J J (kO J (W2 J J J (Q0 (Y0 J (rS (kM J J (Q0 (V2 (W3 (aV J ⟨congrArg (Value.int .i64) ?_, rfl⟩))))))))))))))
        first
         | (rw [iD (by unfold fO; rw [if_pos hsp, if_pos oM]; decide)]; unfold fO; rw [if_pos hsp, if_pos oM]; done)
         | (refine (gU hpt ?_).symm; intro hf; have hf1 := hf.1; have hf2 := hf.2; first | omega | (have hd0 : (dys rs).length = 0 := (by rw [hrs]; rfl); omega))
       ·refine kM J J (kG J J (V4 J dE .h1 J (kG J J (Z4 J J (fun s1 h1 => sO _ _ _ _ _ _ _ _ _ _ _ _ _ _ _ _ _ s1 h1.wf oM (hl1.ext hs h1.2.1) (hl2.ext hs h1.2.1) (hr.ext hs h1.2.1) (hc.ext hs h1.2.1) hpt) (fun v1 A1 q1 => ?_)))))
        obtain ⟨bm14, rfl, rfl⟩ := q1;refine kG J J (dO J (kG J J (fP J J (fun h15 => ?_) (fun h15 => ?_))))
        ·refine kO J (U1 J J J (Q0 (Y0 J (rS (kM J J (Q0 (V2 (W3 (aV J ⟨congrArg (Value.int .i64) ?_, rfl⟩)))))))))
         first
          | (rw [iD (by unfold fO; rw [if_pos hsp, if_pos oM]; decide)]; unfold fO; rw [if_pos hsp, if_pos oM]; done)
          | (refine (gU hpt ?_).symm; intro hf; have hf1 := hf.1; have hf2 := hf.2; first | omega | (have hd0 : (dys rs).length = 0 := (by rw [hrs]; rfl); omega))
        ·refine kO J (U1 J J J (Q0 (U0 J (Q1 (W0 (rS (kM J J (Q0 (V2 (aV J ⟨congrArg (Value.int .i64) ?_, rfl⟩))))))))))
         have hf1 : iF (l1.length : Int) (l2.length : Int) rs (Sv.b6 (Sv.mk r al up l1 l2 rs cs)) := ⟨by first | omega | (have hd0 : (dys rs).length = 0 := (by rw [hrs]; rfl); omega), oM⟩;exact (oA hpt hf1).symm
 ·refine kO J (V3 J J (fun _ => (Q0 (Y0 J (rS (kM J J (Q0 (V2 (W3 (aV J ⟨congrArg (Value.int .i64) ?_, rfl⟩))))))))) (fun h => absurd h dE))
  have hpe : fO ((1 <= d /\ d <= 99999) /\ (1 <= r /\ r <= 99999) /\ (0 <= al /\ al <= 100000) /\ (0 <= up /\ up <= 100000) /\ bA l1 l2 = true) l1 l2 rs cs = 30 := by unfold fO; rw [if_neg aM]
  rw [iD (by rw [hpe]; decide), hpe]
theorem tV (n : Nat) (d r al up : Int) (a1 a2 : Option Addr) (c1 c2 : Nat) (l1 l2 : List Int) (a3 a4 : Option Addr) (c3 c4 : Nat) (rs cs : List (List Int)) (s : St) (hs : Wf s) (hn : 3659174697238528 <= n) (hl1 : aI s a1 l1) (hl2 : aI s a2 l2) (hr : RowsE s 7 a3 rs) (hc : RowsE s 6 a4 cs) (hpt : fO ((1 <= d /\ d <= 99999) /\ (1 <= r /\ r <= 99999) /\ (0 <= al /\ al <= 100000) /\ (0 <= up /\ up <= 100000) /\ bA l1 l2 = true) l1 l2 rs cs = 0) : bW Tryz.prog (cA cH) X (n + 3300) 40 [.agg ⟨[.int .i64 d, .int .i64 r, .slice a1 l1.length c1, .slice a2 l2.length c2, .int .i64 al, .int .i64 up, .slice a3 rs.length c3, .slice a4 cs.length c4]⟩] s (fun v A => ∃ b, v = .agg ⟨[.int .i64 ((l1.length : Int) * (l2.length : Int) + ((dys rs).length : Int)), .slice (some ⟨b, 0, none⟩) (Sv.b6 (Sv.mk r al up l1 l2 rs cs)).length OPEN]⟩ /\ A = [.row b 107 true (aL (Sv.b6 (Sv.mk r al up l1 l2 rs cs)))]) := by
 refine enter LA rfl hs ?_;unfold Kh;have hlen1 := hl1.len;have hlen2 := hl2.len;have hlen3 := hr.len;have hlen4 := hc.len;obtain ⟨⟨hsd, hsr, hsa, hsu, hpl⟩, h60, h20, hrdb, hcpb⟩ := mA hpt;have hp1 := fJ hpl;have hp2 := iX hpl;have hm1 := hp1.hm;have hm2 : (l2.length : Int) <= 7 := yM hpl;have h21 := hp1.h2;have h22 := hp2.h2;have hmm := eM (x := (l1.length : Int)) (y := (l2.length : Int)) oM oM;have hmn := gE (x := l2.length) (y := l1.length) oM oM;refine rS (kO J (bI J J J (fun b1 => (kO J (bG J J (fun b2 => (Q0 (rS (kO J (Q2 J (kO J (V4 J dE .h1 J (kO J (Q2 J (kO J (Y1 J .h1 J (kO J (V4 J dE .h1 J (kO J (aH J J (fun s1 h1 => eY _ _ _ _ _ _ _ _ _ _ _ s1 h1.wf oM (hl1.ext hs h1.2.1) (hl2.ext hs h1.2.1) oM) (kZ J (eP J J dE .h1 J (by simp [eqL, eqV, eqA, kindEq, aB, V5 hl1.spot, V5 hl2.spot, V5 hr.spot, V5 hc.spot]) (kZ J (aK J J .h1 J (by simp [eqV, eqA, eqL, kindEq, aB, V5 hl1.spot, V5 hl2.spot, V5 hr.spot, V5 hc.spot]) (kO J (Z4 J J (fun s1 h1 => vQ _ _ _ _ s1 h1.wf oM (hr.ext hs h1.2.1) oM) (fun v1 A1 q1 => ?_)))))))))))))))))))))))))));rcases q1 with ⟨hrs, rfl, rfl⟩ | ⟨hne, bd, rfl, rfl, hWD, hDl⟩
 ·refine kZ J (eP J J dE .h1 J (by simp [eqL, eqV, eqA, kindEq, aB, V5 hl1.spot, V5 hl2.spot, V5 hr.spot, V5 hc.spot]) (kO J (qV J (kO J (Y3 J J oM (kO J (Z4 J J (fun s1 h1 => sO _ _ _ _ _ _ _ _ _ _ _ _ _ _ _ _ _ s1 h1.wf oM (hl1.ext hs h1.2.1) (hl2.ext hs h1.2.1) (hr.ext hs h1.2.1) (hc.ext hs h1.2.1) hpt) (fun v1 A1 q1 => ?_))))))))
  obtain ⟨bm3, rfl, rfl⟩ := q1;refine kO J (Z6 J J (kZ J (Q6 J J .h1 J J J J (Q0 (V2 (⟨rfl, [_], _, ⟨_, _, _, [], rfl, rfl, dE, ⟨_, _, _, .h1, rfl⟩, rfl⟩, (.q (.cons _ (.cons _ .slnil))), bm3, by rw [show (dys rs).length = 0 from by rw [hrs]; rfl]; rfl, rfl⟩))))))
 ·refine kZ J (eP J J dE .h2 J (by simp [eqL, eqV, eqA, kindEq, aB, V5 hl1.spot, V5 hl2.spot, V5 hr.spot, V5 hc.spot]) (kO J (dO J (kO J (Y3 J J oM (kO J (Z4 J J (fun s1 h1 => sO _ _ _ _ _ _ _ _ _ _ _ _ _ _ _ _ _ s1 h1.wf oM (hl1.ext hs h1.2.1) (hl2.ext hs h1.2.1) (hr.ext hs h1.2.1) (hc.ext hs h1.2.1) hpt) (fun v1 A1 q1 => ?_))))))))
  obtain ⟨bm4, rfl, rfl⟩ := q1;refine kO J (Z6 J J (kZ J (Q6 J J .h2 J J J J (Q0 (V2 (⟨rfl, [_], _, ⟨_, _, _, [], rfl, rfl, dE, ⟨_, _, _, .h2, rfl⟩, rfl⟩, (.q (.cons _ (.cons _ (.cons _ .slnil)))), bm4, rfl, rfl⟩))))))
theorem tX (n : Nat) (d r al up : Int) (a1 a2 : Option Addr) (c1 c2 : Nat) (l1 l2 : List Int) (a3 a4 : Option Addr) (c3 c4 : Nat) (rs cs : List (List Int)) (s : St) (hs : Wf s) (hn : 4222124650659840 <= n) (hl1 : aI s a1 l1) (hl2 : aI s a2 l2) (hr : RowsE s 7 a3 rs) (hc : RowsE s 6 a4 cs) : bW Tryz.prog (cA cH) X (n + 3600) 11 [.agg ⟨[.int .i64 d, .int .i64 r, .slice a1 l1.length c1, .slice a2 l2.length c2, .int .i64 al, .int .i64 up, .slice a3 rs.length c3, .slice a4 cs.length c4]⟩] s (fun v A => (fO ((1 <= d /\ d <= 99999) /\ (1 <= r /\ r <= 99999) /\ (0 <= al /\ al <= 100000) /\ (0 <= up /\ up <= 100000) /\ bA l1 l2 = true) l1 l2 rs cs ≠ 0 /\ v = .tuple #[.agg ⟨[.int .i64 0, .slice none 0 0]⟩, .int .i64 (fO ((1 <= d /\ d <= 99999) /\ (1 <= r /\ r <= 99999) /\ (0 <= al /\ al <= 100000) /\ (0 <= up /\ up <= 100000) /\ bA l1 l2 = true) l1 l2 rs cs)] /\ A = []) ∨ (fO ((1 <= d /\ d <= 99999) /\ (1 <= r /\ r <= 99999) /\ (0 <= al /\ al <= 100000) /\ (0 <= up /\ up <= 100000) /\ bA l1 l2 = true) l1 l2 rs cs = 0 /\ ¬ iF (l1.length : Int) (l2.length : Int) rs (Sv.b6 (Sv.mk r al up l1 l2 rs cs)) /\ v = .tuple #[.agg ⟨[.int .i64 0, .slice none 0 0]⟩, .int .i64 2] /\ A = []) ∨ (fO ((1 <= d /\ d <= 99999) /\ (1 <= r /\ r <= 99999) /\ (0 <= al /\ al <= 100000) /\ (0 <= up /\ up <= 100000) /\ bA l1 l2 = true) l1 l2 rs cs = 0 /\ iF (l1.length : Int) (l2.length : Int) rs (Sv.b6 (Sv.mk r al up l1 l2 rs cs)) /\ ∃ b, v = .tuple #[.agg ⟨[.int .i64 ((l1.length : Int) * (l2.length : Int) + ((dys rs).length : Int)), .slice (some ⟨b, 0, none⟩) (Sv.b6 (Sv.mk r al up l1 l2 rs cs)).length OPEN]⟩, .int .i64 0] /\ A = [.row b 107 true (aL (Sv.b6 (Sv.mk r al up l1 l2 rs cs)))])) := by
 refine enter Lk rfl hs ?_;unfold JL;have hlen1 := hl1.len;have hlen2 := hl2.len;have hlen3 := hr.len;have hlen4 := hc.len;refine rS (kO J (bI J J J (fun b1 => (kO J (bG J J (fun b2 => (kM J J (Q0 (rS (kO J (V4 J dE .h1 J (kO J (aH J J (fun s1 h1 => mU _ _ _ _ _ _ _ _ _ _ _ _ _ _ _ _ _ s1 h1.wf oM (hl1.ext hs h1.2.1) (hl2.ext hs h1.2.1) (hr.ext hs h1.2.1) (hc.ext hs h1.2.1)) (kM J J (Q0 (rQ (rS (kM J J (kO J (V3 J J (fun h3 => ?_) (fun h3 => ?_)))))))))))))))))))))
 ·have h2x := h3
  refine Q0 (Y0 J (rS (kO J (Z6 J J (kM J J (kZ J (Q6 J J .here rfl rfl rfl rfl (kM J J (Q0 (V2 (W3 (⟨rfl, [_, _], [], ⟨_, _, _, [_], rfl, rfl, dE, ⟨_, _, _, .here, rfl⟩, _, [], rfl, rfl, rfl⟩, (.cons _ (.cons _ .slnil)), ?_⟩))))))))))));by_cases hpt : fO ((1 <= d /\ d <= 99999) /\ (1 <= r /\ r <= 99999) /\ (0 <= al /\ al <= 100000) /\ (0 <= up /\ up <= 100000) /\ bA l1 l2 = true) l1 l2 rs cs = 0
  ·have hnf : ¬ iF (l1.length : Int) (l2.length : Int) rs (Sv.b6 (Sv.mk r al up l1 l2 rs cs)) := fun hf => h2x (oA hpt hf)
   exact .inr (.inl ⟨hpt, hnf, by rw [gU hpt hnf]; rfl, rfl⟩)
  ·exact .inl ⟨hpt, by rw [iD hpt]; rfl, rfl⟩
 ·have hck : pL (fO ((1 <= d /\ d <= 99999) /\ (1 <= r /\ r <= 99999) /\ (0 <= al /\ al <= 100000) /\ (0 <= up /\ up <= 100000) /\ bA l1 l2 = true) l1 l2 rs cs) (iF (l1.length : Int) (l2.length : Int) rs (Sv.b6 (Sv.mk r al up l1 l2 rs cs))) = 0 := oM
  have hpt : fO ((1 <= d /\ d <= 99999) /\ (1 <= r /\ r <= 99999) /\ (0 <= al /\ al <= 100000) /\ (0 <= up /\ up <= 100000) /\ bA l1 l2 = true) l1 l2 rs cs = 0 := by
   refine Decidable.byContradiction (fun hp => ?_);rw [iD hp] at hck; exact hp hck
  have hfit : iF (l1.length : Int) (l2.length : Int) rs (Sv.b6 (Sv.mk r al up l1 l2 rs cs)) := by
   refine Decidable.byContradiction (fun hf => ?_);rw [gU hpt hf] at hck; exact absurd hck dE
  refine Q0 (U0 J (Q1 (W0 (rS (kO J (V4 J dE .h1 J (kO J (Z4 J J (fun s1 h1 => tV _ _ _ _ _ _ _ _ _ _ _ _ _ _ _ _ _ s1 h1.wf oM (hl1.ext hs h1.2.1) (hl2.ext hs h1.2.1) (hr.ext hs h1.2.1) (hc.ext hs h1.2.1) hpt) (fun v1 A1 q1 => ?_)))))))));obtain ⟨bS4, rfl, rfl⟩ := q1;refine kZ J (Q6 J J .h1 J J J J (kM J J (Q0 (V2 (⟨rfl, [_, _], _, ⟨_, _, _, [_], rfl, rfl, dE, ⟨_, _, _, .h1, rfl⟩, _, [], rfl, rfl, rfl⟩, (.q (.cons _ (.cons _ .slnil))), .inr (.inr ⟨hpt, hfit, bS4, rfl, rfl⟩)⟩)))))
theorem oB (n : Nat) (m : Int) (a1 a2 : Option Addr) (c1 c2 : Nat) (M : List (List Int)) (s : St) (hs : Wf s) (hn : 281474976710656 <= n) (hA : RowsE s 4 a1 M) (hB : RowsE s 4 a2 M) : bW Tryz.prog (cA cH) X (n + 400) 17 [.agg ⟨[.int .i64 m, .slice a1 M.length c1]⟩, .agg ⟨[.int .i64 m, .slice a2 M.length c2]⟩] s (fun v A => v = .bool true /\ A = []) := by
 refine enter Lq rfl hs ?_;unfold JX;have hlen := hA.len;refine rS (kO J (bI J J J (fun b1 => (kO J (bI J J J (fun b2 => (kM J J (Q0 (rS (kO J (Q2 J (kO J (Y1 J .h1 J (kO J (Q2 J (kO J (Y1 J .here rfl (kO J (bS J J (fun h3 => ?_) (fun h3 => ?_))))))))))))))))))))
 ·refine kM J J (kG J J (Q2 J (kG J J (Y1 J .h1 J (kG J J (aJ J (by first | exact hA.spot | exact hB.spot) (kG J J (Q2 J (kG J J (Y1 J .here rfl (kG J J (aJ J (by first | exact hA.spot | exact hB.spot) (kG J J (bS J J (fun h4 => ?_) (fun h4 => ?_)))))))))))))))
  ·refine kO J (W2 J J J (kM J J (Q0 (rQ (rS (kM J J (Q0 (W1 (U4 (fun j e A => ∃ (k : Nat), e = [(2, .pointer (some ⟨b1, 0, none⟩)), (3, .pointer (some ⟨b2, 0, none⟩)), (5, .bool true), (6, .int .i64 (k : Int))] /\ A = (.row b2 45 false ([.int .i64 m, .slice a2 M.length c2]) :: (.row b1 45 false ([.int .i64 m, .slice a1 M.length c1]) :: [])) /\ j = M.length - k /\ k <= M.length) 200 0 281474976710656 ?_ (j := _) (env2 := _) (A2 := _) ?_ ?_ ?_ ?_ ⟨0, rfl, rfl, rfl, Nat.zero_le _⟩)))))))))
   rotate_left
   ·omega
   ·omega
   ·exact lL
   ·exact (.q (.q .slnil))
   rintro n hn j _ _ ⟨k, rfl, rfl, rfl, hk⟩;refine rQ (rS (kM J J (kO J (Q2 J (kO J (Y1 J .h1 J (kO J (aJ J (by first | exact hA.spot | exact hB.spot) (kO J (W5 J J (fun h5 => ?_) (fun h5 => ?_)))))))))))
   ·obtain ⟨q1, o1, u0, u1, u2, u3, ahA, hx1, hat1, i10, i11, i12, i13⟩ := hA.row4 (k := k) oM
    obtain ⟨q2, o2, w0, w1, w2, w3, ahB, hx2, hat2, i20, i21, i22, i23⟩ := hB.row4 (k := k) oM;have huw := hx1.symm.trans hx2;simp only [Option.some.injEq, List.cons.injEq, and_true] at huw;obtain ⟨rfl, rfl, rfl, rfl⟩ := huw;refine kM J J (kG J J (U2 J (kO J (W2 J J J (Q0 (Y0 J (Q1 (W0 (rQ (W1 (rI (kO J (Q2 J (kO J (Y1 J .h1 J (kM J J (kO J (bK (j := k) ahA rfl rfl (by first | rfl | omega) (by first | decide | omega) (kO J (cV J dE aM J (kO J (Q2 J (kO J (Y1 J .here rfl (kM J J (kO J (bK (j := k) ahB rfl rfl (by first | rfl | omega) (by first | decide | omega) (kO J (cV J dE aM J (kO J (BL J J ⟨PP _ _ _ _ _ _ _ _, rfl⟩ (fun h6 => ?_) (fun h6 => ?_))))))))))))))))))))))))))))))))
    ·refine kM J J (Q0 (Z1 (W0 (rI (kM J J (kO J (Y3 J J oM (kM J J (Q0 (W0 ?_))))))))))
     exact ⟨rfl, _, _, _, (show M.length - (k + 1) < M.length - k from oM), lL, (.q (.q .slnil)), ⟨k + 1, rfl, rfl, rfl, oM⟩⟩
    ·exact absurd rfl (of_decide_eq_false h6)
   ·refine kM J J (V0 J J (kO J (U1 J J J (Q0 (U0 J (Y4 (Z2 (Z2 (Q3 (W0 (rS (kM J J (kM J J (Q0 (V2 ?_)))))))))))))))
    exact aV J ⟨rfl, rfl⟩
  ·exact absurd rfl h4
 ·exact absurd rfl h3
end
end Ev
end Go.Proofs.YtjkdkpckjgaplaaGreat
