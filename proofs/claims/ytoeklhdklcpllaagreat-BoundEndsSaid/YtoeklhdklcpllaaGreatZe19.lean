import Derived.Test.YtoeklhdklcpllaaGreatZe18
import Derived.Test.YtoeklhdklcpllaaGreatZe09
import Derived.Test.YtoeklhdklcpllaaGreatProg
import Derived.KernelRfl
import Derived.Test.YtoeklhdklcpllaaGreatZe08
import Derived.Test.YtoeklhdklcpllaaGreatZe06
set_option linter.unusedVariables false
set_option linter.unusedSimpArgs false
namespace Go.Proofs.YtoeklhdklcpllaaGreat
open Go Go.RowKit
namespace Ev
section
variable {X : FuncId -> List Value -> St -> (Value -> St -> Bool) -> Bool}
theorem rValue_k (n M : Nat) (aw : Option Addr) (cw : Nat) (w : List Int) (ax : Option Addr) (cx : Nat) (x : List Int) (s : St) (hs : Wf s) (hn : 2814749767106560 <= n) (hM : M <= 64) (hW : IntsE s aw w) (hX : IntsE s ax x) (hwl : w.length = M + 1) (hwo : WOk w w.length) (hxl : x.length = M + 1) (hxb : inB (-1280000) 1280000 x = true) : Spec Tryz.prog (tabK tabw) X (n + 800) 47 [.slice aw w.length cw, .slice ax x.length cx] s (fun v A => v = .tuple #[.int .i64 (dt w x (M + 1)), .int .i64 0] /\ A = []) := by
 have h := rValue_s n aw cw w ax cx x s hs (by omega) hW hX (X := X);have e := v_0 (w := w) (x := x) ⟨by omega, hwo⟩ ⟨by omega, hxb⟩;rw [<- e, show dt w x w.length = dt w x (M + 1) by rw [hwl]] at h;exact h
theorem keeps_k (n : Nat) (m : Int) (al : Option Addr) (cl : Nat) (ls : List (List Int)) (ax : Option Addr) (cx : Nat) (x : List Int) (s : St) (hs : Wf s) (hn : 844424930131968 <= n) (hL : RowsE s 4 al ls) (hX : IntsE s ax x) (hsys : sysE m ls = 0) (hp : ptB m ls x = true) : Spec Tryz.prog (tabK tabw) X (n + 900) 48 [.agg ⟨[.int .i64 m, .slice al ls.length cl]⟩, .slice ax x.length cx] s (fun v A => v = .bool true /\ A = []) := by
 have h := keeps_s n m al cl ls ax cx x s hs hn hL hX hsys (X := X);rw [hp] at h;exact h
set_option maxRecDepth 100000 in
theorem rBest_k (n : Nat) (M : Nat) (al : Option Addr) (cl : Nat) (ls : List (List Int)) (aw : Option Addr) (cw : Nat) (w : List Int) (ax : Option Addr) (cx nx : Nat) (x : List Int) (t2 : Nat -> Int) (s : St) (hs : Wf s) (hn : 5629499534213120 <= n) (hL : RowsE s 4 al ls) (hW : IntsE s aw w) (hCap : CapOk s aw w.length cw) (hX : IntsE s ax x) (hnx : nx = x.length) (hsys : sysE (M : Int) ls = 0) (hwl : w.length = M + 1) (hwo : WOk w w.length) (hnu0 : ¬ Uns ls (M + 1)) (hOp2 : Opt ls (M + 1) (du0 w M) t2 (fun v => x.getD v 0)) (hts2 : tot t2 ls.length <= 230400000000000) (hxl : x.length = M + 1) (hx02 : x.getD 0 0 = 0) (hxb2 : ∀ v, v < M + 1 -> -1280000 <= x.getD v 0 /\ x.getD v 0 <= 1280000) : Spec Tryz.prog (tabK tabw) X (n + 10500) 14 [.agg ⟨[.int .i64 (M : Int), .slice al ls.length cl]⟩, .slice aw w.length cw, .slice ax nx cx] s (fun v A => v = .bool true /\ A = []) := by
 refine enter bw14_at rfl hs ?_;unfold bw14;subst hnx;have hlen := hL.len;have hlenW := hW.len;have hlenX := hX.len;obtain ⟨hm0, hM64, h4, hlm⟩ := sysE_ok hsys;have hM : M <= 64 := by omega
 obtain ⟨hpt2, hin2⟩ := opt_pt hlm hOp2 hxl hx02 hxb2;have hub := dt_best hlm hOp2 hOp2 hx02;refine rS (kO J (a_box J J J (fun b1 => (kM J J (Q0 (rS (kO J (U5 J (by decide) .here rfl (kM J J (kO J (Y5 J J (fun s1 h1 => rMost_s _ (M : Int) al cl ls aw cw w s1 h1.wf (by omega) (hL.ext hs h1.2.1) (hW.ext hs h1.2.1) (hCap.ext hs h1.2.1)) (fun v1 A1 q1 => ?_))))))))))));rcases q1 with ⟨hsx, rfl, rfl⟩ | ⟨hsy, hww, rfl, rfl⟩ | ⟨hsy, hww, hun, rfl, rfl⟩ | ⟨hsy, hww, hnu, hop, rfl, rfl⟩ | ⟨hsy, hww, hnu, q1⟩
 ·exact absurd hsys hsx
 ·exact absurd ⟨by omega, hwo⟩ hww
 ·exact absurd hun hnu0
 ·exact (hop.not (hN_of hlm) hOp2.nn hOp2.nt).elim
 ·obtain ⟨z, hz, rfl, rfl⟩ := q1
  have hze := hz.uniq (hOp2.isM hlm);have hsa := sum_all hlm hOp2 hts2;rw [hze, wq_in (by omega)];refine kM J J (kO J (W2 J J (kO J (W2 J J (kM J J (kM J J (Q0 (rS (kM J J (kM J J (kO J (a_callV J J (fun s1 h1 => rValue_k _ M aw cw w ax cx x s1 h1.wf (by omega) hM (hW.ext hs h1.2.1) (hX.ext hs h1.2.1) hwl hwo hxl hin2) (kM J J (kO J (W2 J J (kO J (W2 J J (kM J J (kM J J (Q0 (rS (kM J J (kO J (a_eql J J (fun _ => (kM J J (kG J J (Y3 J (kG J J (a_eql J J (fun _ => (kO J (Q3 J J J (kM J J ?_)))) (fun h => absurd h (by decide)))))))) (fun h => absurd h (by decide))))))))))))))))))))))))));refine kG J J (U5 J (by decide) .here rfl (kG J J (Y3 J (kG J J (a_callV J J (fun s1 h1 => keeps_k _ (M : Int) al cl ls ax cx x s1 h1.wf (by omega) (hL.ext hs h1.2.1) (hX.ext hs h1.2.1) hsys hpt2) (kO J (Q3 J J J (kM J J (kG J J (Y3 J (kG J J (Y3 J (kG J J (a_eql J J (fun h4 => ?_) (fun h4 => ?_)))))))))))))))
  ·refine kO J (Q3 J J J (kM J J (Q0 (Z3 ?_))))
   exact end1 J ⟨rfl, rfl⟩
  ·exfalso; omega
theorem rCheckProof_n (n : Nat) (M : Nat) (al : Option Addr) (cl : Nat) (ls : List (List Int)) (aw : Option Addr) (cw : Nat) (w : List Int) (ap : Option Addr) (cp nu : Nat) (us : List (List Int)) (bd : Int) (s : St) (hs : Wf s) (hn : 1688849860263936 <= n) (hL : RowsE s 4 al ls) (hW : IntsE s aw w) (hU : RowsE s 2 ap us) (hnu : nu = us.length) (hu : us.length <= 400) (hsys : sysE (M : Int) ls = 0) (hwl : w.length = M + 1) (hwo : WOk w w.length) (had : AdP ls us w M bd) : Spec Tryz.prog (tabK tabw) X (n + 1800) 15 [.agg ⟨[.int .i64 (M : Int), .slice al ls.length cl]⟩, .slice aw w.length cw, .agg ⟨[.int .i64 bd, .slice ap nu cp]⟩] s (fun v A => v = .int .i64 0 /\ A = []) := by
 subst hnu;exact rCheckProof_k n M al cl ls aw cw w ap cp us bd s hs hn hL hW hU hu hsys hwl hwo had
set_option maxRecDepth 100000 in
set_option maxHeartbeats 2000000 in
theorem BoundEnds_s (n : Nat) (m : Int) (al : Option Addr) (cl : Nat) (ls : List (List Int)) (aw : Option Addr) (cw : Nat) (w : List Int) (s : St) (hs : Wf s) (hn : 11258999068426240 <= n) (hL : RowsE s 4 al ls) (hcl : al = none -> cl = 0) (hW : IntsE s aw w) (hCap : CapOk s aw w.length cw) : Spec Tryz.prog (tabK tabw) (knownX 13) (n + 14000) 3 [.agg ⟨[.int .i64 m, .slice al ls.length cl]⟩, .slice aw w.length cw] s (fun v A => v = .bool true /\ A = []) := by
 refine enter bw3_at rfl hs ?_;unfold bw3;have hlen := hL.len;have hlenW := hW.len;refine rS (kO J (a_box J J J (fun b1 => (kM J J (Q0 (rS (kO J (U5 J (by decide) .here rfl (kM J J (kO J (Y5 J J (fun s1 h1 => Most_s _ m al cl ls aw cw w s1 h1.wf (by omega) (hL.ext hs h1.2.1) hcl (hW.ext hs h1.2.1) (hCap.ext hs h1.2.1)) (fun v1 A1 q1 => ?_))))))))))));rcases q1 with ⟨gsx, rfl, rfl⟩ | ⟨gsy, gnw, rfl, rfl⟩ | ⟨gsy, gww, gun, rfl, rfl⟩ | ⟨gsy, gww, gnu, gop, rfl, rfl⟩ | ⟨gsy, gww, gnu, t, p, hOp, hts, hpb, rfl, rfl⟩
 ·refine kM J J (kO J (W2 J J (kO J (W2 J J (kM J J (kM J J (Q0 (rS (kO J (U5 J (by decide) .here rfl (kM J J (kO J (Y5 J J (fun s1 h1 => rMost_s _ m al cl ls aw cw w s1 h1.wf (by omega) (hL.ext hs h1.2.1) (hW.ext hs h1.2.1) (hCap.ext hs h1.2.1)) (fun v1 A1 q1 => ?_))))))))))))))
  rcases q1 with ⟨hsx, rfl, rfl⟩ | ⟨hsy, hww, rfl, rfl⟩ | ⟨hsy, hww, hun, rfl, rfl⟩ | ⟨hsy, hww, hnu, hop, rfl, rfl⟩ | ⟨hsy, hww, hnu, q1⟩
  ·refine kM J J (kO J (W2 J J (kO J (W2 J J (kM J J (kM J J (Q0 (rS (kO J (U5 J (by decide) .here rfl (kM J J (kO J (Y5 J J (fun s1 h1 => Range_s _ m al cl ls aw cw w s1 h1.wf (by omega) (hL.ext hs h1.2.1) hcl (hW.ext hs h1.2.1) (hCap.ext hs h1.2.1)) (fun v1 A1 q1 => ?_))))))))))))))
   rcases q1 with ⟨e, k0, kne, k1, k2, k3, rfl, rfl⟩ | ⟨hsy, hww, hnu, hop, rfl, rfl⟩ | ⟨hsy, hww, hnu, q1⟩
   ·obtain rfl := k2 gsx
    refine kM J J (kO J (W2 J J (kO J (W2 J J (kO J (W2 J J (kM J J (kM J J (kM J J (Q0 (rS (kO J (U5 J (by decide) .here rfl (kM J J (kO J (Y5 J J (fun s1 h1 => rRange_s _ m al cl ls aw cw w s1 h1.wf (by omega) (hL.ext hs h1.2.1) (hW.ext hs h1.2.1) (hCap.ext hs h1.2.1)) (fun v1 A1 q1 => ?_)))))))))))))))));rcases q1 with ⟨e, k0, kne, k1, k2, k3, rfl, rfl⟩ | ⟨hsy, hww, hnu, hop, rfl, rfl⟩ | ⟨hsy, hww, hnu, q1⟩
    ·obtain rfl := k2 gsx
     refine kM J J (kO J (W2 J J (kO J (W2 J J (kO J (W2 J J (kM J J (kM J J (kM J J (Q0 (rS (kO J (U5 J (by decide) .here rfl (kM J J (kO J (Y5 J J (fun s1 h1 => Best_s _ m al cl ls aw cw w s1 h1.wf (by omega) (hL.ext hs h1.2.1) hcl (hW.ext hs h1.2.1) (hCap.ext hs h1.2.1)) (fun v1 A1 q1 => ?_)))))))))))))))));rcases q1 with ⟨hsx, rfl, rfl⟩ | ⟨hsy, hww, rfl, rfl⟩ | ⟨hsy, hww, hun, rfl, rfl⟩ | ⟨hsy, hww, hnu, hop, rfl, rfl⟩ | ⟨hsy, hww, hnu, q1⟩
     ·refine kM J J (kO J (W2 J J (kO J (W2 J J (kM J J (kM J J (Q0 (rS (kO J (U5 J (by decide) .here rfl (kM J J (kO J (Y5 J J (fun s1 h1 => Prove_s _ m al cl ls aw cw w s1 h1.wf (by omega) (hL.ext hs h1.2.1) hcl (hW.ext hs h1.2.1) (hCap.ext hs h1.2.1)) (fun v1 A1 q1 => ?_))))))))))))))
      rcases q1 with ⟨hsx, rfl, rfl⟩ | ⟨hsy, hww, rfl, rfl⟩ | ⟨hsy, hww, hun, rfl, rfl⟩ | ⟨hsy, hww, hnu, hop, rfl, rfl⟩ | ⟨hsy, hww, hnu, q1⟩
      ·refine kM J J (kO J (W2 J J (kO J (W2 J J (kO J (a_new J J (fun b2 => (kZ J (Q7 J J .here rfl rfl rfl rfl (kM J J (Q0 (rQ (rS (kM J J (kM J J (kO J (Z4 J J (fun h => absurd h (by decide)) (fun _ => (kM J J (kG J J (Y3 J (kG J J (Y3 J (kG J J (Z4 J J (fun h4 => ?_) (fun h4 => ?_))))))))))))))))))))))))))
       ·exfalso; omega
       ·refine kO J (Q2 J J J (kM J J (kG J J (Y3 J (kG J J (Y3 J (kG J J (Z4 J J (fun h => absurd h (by decide)) (fun _ => (kO J (Q2 J J J (kM J J (kG J J (Y3 J (kG J J (Y3 J (kG J J (Z4 J J (fun h => absurd h (by decide)) (fun _ => (kO J (Q2 J J J (kM J J (kG J J (Y3 J (kG J J (Y3 J (kG J J (Z4 J J (fun h7 => ?_) (fun h7 => ?_)))))))))))))))))))))))))))))
        ·exfalso; omega
        ·refine kO J (Q2 J J J (kM J J (kG J J (Y3 J (kG J J (Y3 J (kG J J (Z4 J J (fun h8 => ?_) (fun h8 => ?_)))))))))
         ·exfalso; omega
         ·refine kO J (Q2 J J J (kM J J (kG J J (Y3 J (kG J J (Y3 J (kG J J (Z4 J J (fun h9 => ?_) (fun h9 => ?_)))))))))
          ·exfalso; omega
          ·refine kO J (Q2 J J J (Q0 (U0 J (W1 (W0 (rQ (rS (kM J J (kO J (Z4 J J (fun h10 => ?_) (fun h10 => ?_)))))))))))
           ·refine Q0 (Y0 J (rS (kM J J (kO J (a_len0 J (kO J (a_eql J J (fun _ => (kM J J (kG J J (U2 J (kG J J (U1 J .here rfl (kG J J (a_len0 J (kG J J (a_eql J J (fun _ => (kO J (Q3 J J J (kM J J (kG J J (a_callV J J (fun s1 h1 => known_s _ s1 h1.wf) (kO J (Q3 J J J (kM J J (Q0 (Z3 (V3 ?_)))))))))))) (fun h => absurd h (by decide)))))))))))) (fun h => absurd h (by decide)))))))))
            exact end1 J ⟨rfl, rfl⟩
           ·exfalso; omega
      ·exact absurd hsy gsx
      ·exact absurd hsy gsx
      ·exact absurd hsy gsx
      ·exact absurd hsy gsx
     ·exact absurd hsy gsx
     ·exact absurd hsy gsx
     ·exact absurd hsy gsx
     ·exact absurd hsy gsx
    ·exact absurd hsy gsx
    ·exact absurd hsy gsx
   ·exact absurd hsy gsx
   ·exact absurd hsy gsx
  ·exact absurd hsy gsx
  ·exact absurd hsy gsx
  ·exact absurd hsy gsx
  ·exact absurd hsy gsx
 ·refine kM J J (kO J (W2 J J (kO J (W2 J J (kM J J (kM J J (Q0 (rS (kO J (U5 J (by decide) .here rfl (kM J J (kO J (Y5 J J (fun s1 h1 => rMost_s _ m al cl ls aw cw w s1 h1.wf (by omega) (hL.ext hs h1.2.1) (hW.ext hs h1.2.1) (hCap.ext hs h1.2.1)) (fun v1 A1 q1 => ?_))))))))))))))
  rcases q1 with ⟨hsx, rfl, rfl⟩ | ⟨hsy, hww, rfl, rfl⟩ | ⟨hsy, hww, hun, rfl, rfl⟩ | ⟨hsy, hww, hnu, hop, rfl, rfl⟩ | ⟨hsy, hww, hnu, q1⟩
  ·exact absurd gsy hsx
  ·refine kM J J (kO J (W2 J J (kO J (W2 J J (kM J J (kM J J (Q0 (rS (kO J (U5 J (by decide) .here rfl (kM J J (kO J (Y5 J J (fun s1 h1 => Range_s _ m al cl ls aw cw w s1 h1.wf (by omega) (hL.ext hs h1.2.1) hcl (hW.ext hs h1.2.1) (hCap.ext hs h1.2.1)) (fun v1 A1 q1 => ?_))))))))))))))
   rcases q1 with ⟨e, k0, kne, k1, k2, k3, rfl, rfl⟩ | ⟨hsy, hww, hnu, hop, rfl, rfl⟩ | ⟨hsy, hww, hnu, q1⟩
   ·obtain rfl := k3 gsy gnw
    refine kM J J (kO J (W2 J J (kO J (W2 J J (kO J (W2 J J (kM J J (kM J J (kM J J (Q0 (rS (kO J (U5 J (by decide) .here rfl (kM J J (kO J (Y5 J J (fun s1 h1 => rRange_s _ m al cl ls aw cw w s1 h1.wf (by omega) (hL.ext hs h1.2.1) (hW.ext hs h1.2.1) (hCap.ext hs h1.2.1)) (fun v1 A1 q1 => ?_)))))))))))))))));rcases q1 with ⟨e, k0, kne, k1, k2, k3, rfl, rfl⟩ | ⟨hsy, hww, hnu, hop, rfl, rfl⟩ | ⟨hsy, hww, hnu, q1⟩
    ·obtain rfl := k3 gsy gnw
     refine kM J J (kO J (W2 J J (kO J (W2 J J (kO J (W2 J J (kM J J (kM J J (kM J J (Q0 (rS (kO J (U5 J (by decide) .here rfl (kM J J (kO J (Y5 J J (fun s1 h1 => Best_s _ m al cl ls aw cw w s1 h1.wf (by omega) (hL.ext hs h1.2.1) hcl (hW.ext hs h1.2.1) (hCap.ext hs h1.2.1)) (fun v1 A1 q1 => ?_)))))))))))))))));rcases q1 with ⟨hsx, rfl, rfl⟩ | ⟨hsy, hww, rfl, rfl⟩ | ⟨hsy, hww, hun, rfl, rfl⟩ | ⟨hsy, hww, hnu, hop, rfl, rfl⟩ | ⟨hsy, hww, hnu, q1⟩
     ·exact absurd gsy hsx
     ·refine kM J J (kO J (W2 J J (kO J (W2 J J (kM J J (kM J J (Q0 (rS (kO J (U5 J (by decide) .here rfl (kM J J (kO J (Y5 J J (fun s1 h1 => Prove_s _ m al cl ls aw cw w s1 h1.wf (by omega) (hL.ext hs h1.2.1) hcl (hW.ext hs h1.2.1) (hCap.ext hs h1.2.1)) (fun v1 A1 q1 => ?_))))))))))))))
      rcases q1 with ⟨hsx, rfl, rfl⟩ | ⟨hsy, hww, rfl, rfl⟩ | ⟨hsy, hww, hun, rfl, rfl⟩ | ⟨hsy, hww, hnu, hop, rfl, rfl⟩ | ⟨hsy, hww, hnu, q1⟩
      ·exact absurd gsy hsx
      ·refine kM J J (kO J (W2 J J (kO J (W2 J J (kO J (a_new J J (fun b13 => (kZ J (Q7 J J .here rfl rfl rfl rfl (kM J J (Q0 (rQ (rS (kM J J (kM J J (kO J (Z4 J J (fun h => absurd h (by decide)) (fun _ => (kM J J (kG J J (Y3 J (kG J J (Y3 J (kG J J (Z4 J J (fun h => absurd h (by decide)) (fun _ => (kO J (Q2 J J J (kM J J (kG J J (Y3 J (kG J J (Y3 J (kG J J (Z4 J J (fun h => absurd h (by decide)) (fun _ => (kO J (Q2 J J J (kM J J (kG J J (Y3 J ?_)))))))))))))))))))))))))))))))))))))))))
       refine kG J J (Y3 J (kG J J (Z4 J J (fun h => absurd h (by decide)) (fun _ => (kO J (Q2 J J J (kM J J (kG J J (Y3 J (kG J J (Y3 J (kG J J (Z4 J J (fun h => absurd h (by decide)) (fun _ => (kO J (Q2 J J J (kM J J (kG J J (Y3 J (kG J J (Y3 J (kG J J (Z4 J J (fun h => absurd h (by decide)) (fun _ => (kO J (Q2 J J J (kM J J (kG J J (Y3 J (kG J J (Y3 J (kG J J (Z4 J J (fun h => absurd h (by decide)) (fun _ => (kO J (Q2 J J J (Q0 (U0 J (W1 (W0 (rQ (rS ?_))))))))))))))))))))))))))))))))))))))))));refine kM J J (kO J (Z4 J J (fun _ => (Q0 (Y0 J (rS (kM J J (kO J (a_len0 J (kO J (a_eql J J (fun _ => (kM J J (kG J J (U2 J (kG J J (U1 J .here rfl (kG J J (a_len0 J (kG J J (a_eql J J (fun _ => (kO J (Q3 J J J (kM J J (kG J J (a_callV J J (fun s1 h1 => known_s _ s1 h1.wf) (kO J (Q3 J J J (kM J J (Q0 (Z3 (V3 ?_)))))))))))) (fun h => absurd h (by decide)))))))))))) (fun h => absurd h (by decide))))))))))) (fun h => absurd h (by decide))));exact end1 J ⟨rfl, rfl⟩
      ·exact absurd hww gnw
      ·exact absurd hww gnw
      ·exact absurd hww gnw
     ·exact absurd hww gnw
     ·exact absurd hww gnw
     ·exact absurd hww gnw
    ·exact absurd hww gnw
    ·exact absurd hww gnw
   ·exact absurd hww gnw
   ·exact absurd hww gnw
  ·exact absurd hww gnw
  ·exact absurd hww gnw
  ·exact absurd hww gnw
 ·refine kM J J (kO J (W2 J J (kO J (W2 J J (kM J J (kM J J (Q0 (rS (kO J (U5 J (by decide) .here rfl (kM J J (kO J (Y5 J J (fun s1 h1 => rMost_s _ m al cl ls aw cw w s1 h1.wf (by omega) (hL.ext hs h1.2.1) (hW.ext hs h1.2.1) (hCap.ext hs h1.2.1)) (fun v1 A1 q1 => ?_))))))))))))))
  rcases q1 with ⟨hsx, rfl, rfl⟩ | ⟨hsy, hww, rfl, rfl⟩ | ⟨hsy, hww, hun, rfl, rfl⟩ | ⟨hsy, hww, hnu, hop, rfl, rfl⟩ | ⟨hsy, hww, hnu, q1⟩
  ·exact absurd gsy hsx
  ·exact absurd gww hww
  ·refine kM J J (kO J (W2 J J (kO J (W2 J J (kM J J (kM J J (Q0 (rS (kO J (U5 J (by decide) .here rfl (kM J J (kO J (Y5 J J (fun s1 h1 => Range_s _ m al cl ls aw cw w s1 h1.wf (by omega) (hL.ext hs h1.2.1) hcl (hW.ext hs h1.2.1) (hCap.ext hs h1.2.1)) (fun v1 A1 q1 => ?_))))))))))))))
   rcases q1 with ⟨e, k0, kne, k1, k2, k3, rfl, rfl⟩ | ⟨hsy, hww, hnu, hop, rfl, rfl⟩ | ⟨hsy, hww, hnu, q1⟩
   ·obtain ⟨rfl, _⟩ := k1 gsy gww
    refine kM J J (kO J (W2 J J (kO J (W2 J J (kO J (W2 J J (kM J J (kM J J (kM J J (Q0 (rS (kO J (U5 J (by decide) .here rfl (kM J J (kO J (Y5 J J (fun s1 h1 => rRange_s _ m al cl ls aw cw w s1 h1.wf (by omega) (hL.ext hs h1.2.1) (hW.ext hs h1.2.1) (hCap.ext hs h1.2.1)) (fun v1 A1 q1 => ?_)))))))))))))))));rcases q1 with ⟨e, k0, kne, k1, k2, k3, rfl, rfl⟩ | ⟨hsy, hww, hnu, hop, rfl, rfl⟩ | ⟨hsy, hww, hnu, q1⟩
    ·obtain ⟨rfl, _⟩ := k1 gsy gww
     refine kM J J (kO J (W2 J J (kO J (W2 J J (kO J (W2 J J (kM J J (kM J J (kM J J (Q0 (rS (kO J (U5 J (by decide) .here rfl (kM J J (kO J (Y5 J J (fun s1 h1 => Best_s _ m al cl ls aw cw w s1 h1.wf (by omega) (hL.ext hs h1.2.1) hcl (hW.ext hs h1.2.1) (hCap.ext hs h1.2.1)) (fun v1 A1 q1 => ?_)))))))))))))))));rcases q1 with ⟨hsx, rfl, rfl⟩ | ⟨hsy, hww, rfl, rfl⟩ | ⟨hsy, hww, hun, rfl, rfl⟩ | ⟨hsy, hww, hnu, hop, rfl, rfl⟩ | ⟨hsy, hww, hnu, q1⟩
     ·exact absurd gsy hsx
     ·exact absurd gww hww
     ·refine kM J J (kO J (W2 J J (kO J (W2 J J (kM J J (kM J J (Q0 (rS (kO J (U5 J (by decide) .here rfl (kM J J (kO J (Y5 J J (fun s1 h1 => Prove_s _ m al cl ls aw cw w s1 h1.wf (by omega) (hL.ext hs h1.2.1) hcl (hW.ext hs h1.2.1) (hCap.ext hs h1.2.1)) (fun v1 A1 q1 => ?_))))))))))))))
      rcases q1 with ⟨hsx, rfl, rfl⟩ | ⟨hsy, hww, rfl, rfl⟩ | ⟨hsy, hww, hun, rfl, rfl⟩ | ⟨hsy, hww, hnu, hop, rfl, rfl⟩ | ⟨hsy, hww, hnu, q1⟩
      ·exact absurd gsy hsx
      ·exact absurd gww hww
      ·refine kM J J (kO J (W2 J J (kO J (W2 J J (kO J (a_new J J (fun b24 => (kZ J (Q7 J J .here rfl rfl rfl rfl (kM J J (Q0 (rQ (rS (kM J J (kM J J (kO J (Z4 J J (fun h => absurd h (by decide)) (fun _ => (kM J J (kG J J (Y3 J (kG J J (Y3 J (kG J J (Z4 J J (fun h => absurd h (by decide)) (fun _ => (kO J (Q2 J J J (kM J J (kG J J (Y3 J (kG J J (Y3 J (kG J J (Z4 J J (fun h => absurd h (by decide)) (fun _ => (kO J (Q2 J J J (kM J J (kG J J (Y3 J ?_)))))))))))))))))))))))))))))))))))))))))
       refine kG J J (Y3 J (kG J J (Z4 J J (fun h => absurd h (by decide)) (fun _ => (kO J (Q2 J J J (kM J J (kG J J (Y3 J (kG J J (Y3 J (kG J J (Z4 J J (fun h => absurd h (by decide)) (fun _ => (kO J (Q2 J J J (kM J J (kG J J (Y3 J (kG J J (Y3 J (kG J J (Z4 J J (fun h => absurd h (by decide)) (fun _ => (kO J (Q2 J J J (kM J J (kG J J (Y3 J (kG J J (Y3 J (kG J J (Z4 J J (fun h => absurd h (by decide)) (fun _ => (kO J (Q2 J J J (Q0 (U0 J (W1 (W0 (rQ (rS ?_))))))))))))))))))))))))))))))))))))))))));refine kM J J (kO J (Z4 J J (fun _ => (Q0 (Y0 J (rS (kM J J (kO J (a_len0 J (kO J (a_eql J J (fun _ => (kM J J (kG J J (U2 J (kG J J (U1 J .here rfl (kG J J (a_len0 J (kG J J (a_eql J J (fun _ => (kO J (Q3 J J J (kM J J (kG J J (a_callV J J (fun s1 h1 => known_s _ s1 h1.wf) (kO J (Q3 J J J (kM J J (Q0 (Z3 (V3 ?_)))))))))))) (fun h => absurd h (by decide)))))))))))) (fun h => absurd h (by decide))))))))))) (fun h => absurd h (by decide))));exact end1 J ⟨rfl, rfl⟩
      ·exact absurd gun hnu
      ·exact absurd gun hnu
     ·exact absurd gun hnu
     ·exact absurd gun hnu
    ·exact absurd gun hnu
    ·exact absurd gun hnu
   ·exact absurd gun hnu
   ·exact absurd gun hnu
  ·exact absurd gun hnu
  ·exact absurd gun hnu
 ·obtain ⟨hm0, hM64, h4, hlm⟩ := sysE_ok gsy
  obtain ⟨M, rfl⟩ : ∃ q : Nat, m = (q : Int) := ⟨m.toNat, by omega⟩;have hM : M <= 64 := by omega
  have h400 : ls.length <= 400 := by omega
  have hwl : w.length = M + 1 := by have := gww.1; omega
  have hwo := gww.2;rw [show ((M : Int).toNat) = M from rfl] at *;have hLg := lg_of hlm;refine kM J J (kO J (W2 J J (kO J (W2 J J (kM J J (kM J J (Q0 (rS (kO J (U5 J (by decide) .here rfl (kM J J (kO J (Y5 J J (fun s1 h1 => rMost_s _ (M : Int) al cl ls aw cw w s1 h1.wf (by omega) (hL.ext hs h1.2.1) (hW.ext hs h1.2.1) (hCap.ext hs h1.2.1)) (fun v1 A1 q1 => ?_))))))))))))));rcases q1 with ⟨hsx, rfl, rfl⟩ | ⟨hsy, hww, rfl, rfl⟩ | ⟨hsy, hww, hun, rfl, rfl⟩ | ⟨hsy, hww, hnu, hop, rfl, rfl⟩ | ⟨hsy, hww, hnu, q1⟩
  ·exact absurd gsy hsx
  ·exact absurd gww hww
  ·exact absurd hun gnu
  ·refine kM J J (kO J (W2 J J (kO J (W2 J J (kM J J (kM J J (Q0 (rS (kO J (U5 J (by decide) .here rfl (kM J J (kO J (Y5 J J (fun s1 h1 => Range_s _ (M : Int) al cl ls aw cw w s1 h1.wf (by omega) (hL.ext hs h1.2.1) hcl (hW.ext hs h1.2.1) (hCap.ext hs h1.2.1)) (fun v1 A1 q1 => ?_))))))))))))))
   rcases q1 with ⟨e, k0, kne, k1, k2, k3, rfl, rfl⟩ | ⟨hsy, hww, hnu, hop, rfl, rfl⟩ | ⟨hsy, hww, hnu, q1⟩
   ·exact absurd (k1 gsy gww).2 gnu
   ·have gop2 := hop
    refine kM J J (kO J (W2 J J (kO J (W2 J J (kO J (W2 J J (kM J J (kM J J (kM J J (Q0 (rS (kO J (U5 J (by decide) .here rfl (kM J J (kO J (Y5 J J (fun s1 h1 => rRange_s _ (M : Int) al cl ls aw cw w s1 h1.wf (by omega) (hL.ext hs h1.2.1) (hW.ext hs h1.2.1) (hCap.ext hs h1.2.1)) (fun v1 A1 q1 => ?_)))))))))))))))));rcases q1 with ⟨e, k0, kne, k1, k2, k3, rfl, rfl⟩ | ⟨hsy, hww, hnu, hop, rfl, rfl⟩ | ⟨hsy, hww, hnu, q1⟩
    ·exact absurd (k1 gsy gww).2 gnu
    ·refine kM J J (kO J (W2 J J (kO J (W2 J J (kO J (W2 J J (kM J J (kM J J (kM J J (Q0 (rS (kO J (U5 J (by decide) .here rfl (kM J J (kO J (Y5 J J (fun s1 h1 => Best_s _ (M : Int) al cl ls aw cw w s1 h1.wf (by omega) (hL.ext hs h1.2.1) hcl (hW.ext hs h1.2.1) (hCap.ext hs h1.2.1)) (fun v1 A1 q1 => ?_)))))))))))))))))
     rcases q1 with ⟨hsx, rfl, rfl⟩ | ⟨hsy, hww, rfl, rfl⟩ | ⟨hsy, hww, hun, rfl, rfl⟩ | ⟨hsy, hww, hnu, hop, rfl, rfl⟩ | ⟨hsy, hww, hnu, q1⟩
     ·exact absurd gsy hsx
     ·exact absurd gww hww
     ·exact absurd hun gnu
     ·refine kM J J (kO J (W2 J J (kO J (W2 J J (kM J J (kM J J (Q0 (rS (kO J (U5 J (by decide) .here rfl (kM J J (kO J (Y5 J J (fun s1 h1 => Prove_s _ (M : Int) al cl ls aw cw w s1 h1.wf (by omega) (hL.ext hs h1.2.1) hcl (hW.ext hs h1.2.1) (hCap.ext hs h1.2.1)) (fun v1 A1 q1 => ?_))))))))))))))
      rcases q1 with ⟨hsx, rfl, rfl⟩ | ⟨hsy, hww, rfl, rfl⟩ | ⟨hsy, hww, hun, rfl, rfl⟩ | ⟨hsy, hww, hnu, hop, rfl, rfl⟩ | ⟨hsy, hww, hnu, q1⟩
      ·exact absurd gsy hsx
      ·exact absurd gww hww
      ·exact absurd hun gnu
      ·refine kM J J (kO J (W2 J J (kO J (W2 J J (kO J (a_new J J (fun b35 => (kZ J (Q7 J J .here rfl rfl rfl rfl (kM J J (Q0 (rQ (rS (kM J J (kM J J (kO J (Z4 J J (fun h => absurd h (by decide)) (fun _ => (kM J J (kG J J (Y3 J (kG J J (Y3 J (kG J J (Z4 J J (fun h => absurd h (by decide)) (fun _ => (kO J (Q2 J J J (kM J J (kG J J (Y3 J (kG J J (Y3 J (kG J J (Z4 J J (fun h => absurd h (by decide)) (fun _ => (kO J (Q2 J J J (kM J J (kG J J (Y3 J ?_)))))))))))))))))))))))))))))))))))))))))
       refine kG J J (Y3 J (kG J J (Z4 J J (fun h => absurd h (by decide)) (fun _ => (kO J (Q2 J J J (kM J J (kG J J (Y3 J (kG J J (Y3 J (kG J J (Z4 J J (fun h => absurd h (by decide)) (fun _ => (kO J (Q2 J J J (kM J J (kG J J (Y3 J (kG J J (Y3 J (kG J J (Z4 J J (fun h => absurd h (by decide)) (fun _ => (kO J (Q2 J J J (kM J J (kG J J (Y3 J (kG J J (Y3 J (kG J J (Z4 J J (fun h => absurd h (by decide)) (fun _ => (kO J (Q2 J J J (Q0 (U0 J (W1 (W0 (rQ (rS ?_))))))))))))))))))))))))))))))))))))))))));refine kM J J (kO J (Z4 J J (fun _ => (Q0 (Y0 J (rS (kM J J (kO J (a_len0 J (kO J (a_eql J J (fun _ => (kM J J (kG J J (U2 J (kG J J (U1 J .here rfl (kG J J (a_len0 J (kG J J (a_eql J J (fun _ => (kO J (Q3 J J J (kM J J (kG J J (a_callV J J (fun s1 h1 => known_s _ s1 h1.wf) (kO J (Q3 J J J (kM J J (Q0 (Z3 (V3 ?_)))))))))))) (fun h => absurd h (by decide)))))))))))) (fun h => absurd h (by decide))))))))))) (fun h => absurd h (by decide))));exact end1 J ⟨rfl, rfl⟩
      ·obtain ⟨t9, _, _, _, _, _, hO9, _⟩ := q1; exact (gop.not (hN_of hlm) hO9.nn hO9.nt).elim
     ·obtain ⟨t9, _, _, hO9, _⟩ := q1; exact (gop.not (hN_of hlm) hO9.nn hO9.nt).elim
    ·obtain ⟨z9, z8, hz9, hz8, _⟩ := q1; rcases gop2 with q | q; exact (q.noM hz9).elim; exact (q.noM hz8).elim
   ·obtain ⟨t9, p9, t8, p8, hO9, _⟩ := q1; exact (gop.not (hN_of hlm) hO9.nn hO9.nt).elim
  ·obtain ⟨z9, hz9, _⟩ := q1; exact (gop.noM hz9).elim
 ·obtain ⟨hm0, hM64, h4, hlm⟩ := sysE_ok gsy
  obtain ⟨M, rfl⟩ : ∃ q : Nat, m = (q : Int) := ⟨m.toNat, by omega⟩;have hM : M <= 64 := by omega
  have h400 : ls.length <= 400 := by omega
  have hwl : w.length = M + 1 := by have := gww.1; omega
  have hwo := gww.2;rw [show ((M : Int).toNat) = M from rfl] at *;have hLg := lg_of hlm;refine kM J J (kO J (W2 J J (kO J (W2 J J (kM J J (kM J J (Q0 (rS (kO J (U5 J (by decide) .here rfl (kM J J (kO J (Y5 J J (fun s1 h1 => rMost_s _ (M : Int) al cl ls aw cw w s1 h1.wf (by omega) (hL.ext hs h1.2.1) (hW.ext hs h1.2.1) (hCap.ext hs h1.2.1)) (fun v1 A1 q1 => ?_))))))))))))));rcases q1 with ⟨hsx, rfl, rfl⟩ | ⟨hsy, hww, rfl, rfl⟩ | ⟨hsy, hww, hun, rfl, rfl⟩ | ⟨hsy, hww, hnu, hop, rfl, rfl⟩ | ⟨hsy, hww, hnu, q1⟩
  ·exact absurd gsy hsx
  ·exact absurd gww hww
  ·exact absurd hun gnu
  ·exact (hop.not (hN_of hlm) hOp.nn hOp.nt).elim
  ·obtain ⟨z, hz, rfl, rfl⟩ := q1
   have hze := hz.uniq (hOp.isM hlm);have hsa := sum_all hlm hOp hts;rw [hze, wq_in (by omega)];refine kM J J (kO J (W2 J J (kO J (W2 J J (kM J J (kM J J (Q0 (rS (kO J (U5 J (by decide) .here rfl (kM J J (kO J (Y5 J J (fun s1 h1 => Range_s _ (M : Int) al cl ls aw cw w s1 h1.wf (by omega) (hL.ext hs h1.2.1) hcl (hW.ext hs h1.2.1) (hCap.ext hs h1.2.1)) (fun v1 A1 q1 => ?_))))))))))))));rcases q1 with ⟨e, k0, kne, k1, k2, k3, rfl, rfl⟩ | ⟨hsy, hww, hnu, hop, rfl, rfl⟩ | ⟨hsy, hww, hnu, q1⟩
   ·exact absurd (k1 gsy gww).2 gnu
   ·have gop2 := hop
    refine kM J J (kO J (W2 J J (kO J (W2 J J (kO J (W2 J J (kM J J (kM J J (kM J J (Q0 (rS (kO J (U5 J (by decide) .here rfl (kM J J (kO J (Y5 J J (fun s1 h1 => rRange_s _ (M : Int) al cl ls aw cw w s1 h1.wf (by omega) (hL.ext hs h1.2.1) (hW.ext hs h1.2.1) (hCap.ext hs h1.2.1)) (fun v1 A1 q1 => ?_)))))))))))))))));rcases q1 with ⟨e, k0, kne, k1, k2, k3, rfl, rfl⟩ | ⟨hsy, hww, hnu, hop, rfl, rfl⟩ | ⟨hsy, hww, hnu, q1⟩
    ·exact absurd (k1 gsy gww).2 gnu
    ·refine kM J J (kO J (W2 J J (kO J (W2 J J (kO J (W2 J J (kM J J (kM J J (kM J J (Q0 (rS (kO J (U5 J (by decide) .here rfl (kM J J (kO J (Y5 J J (fun s1 h1 => Best_s _ (M : Int) al cl ls aw cw w s1 h1.wf (by omega) (hL.ext hs h1.2.1) hcl (hW.ext hs h1.2.1) (hCap.ext hs h1.2.1)) (fun v1 A1 q1 => ?_)))))))))))))))))
     rcases q1 with ⟨hsx, rfl, rfl⟩ | ⟨hsy, hww, rfl, rfl⟩ | ⟨hsy, hww, hun, rfl, rfl⟩ | ⟨hsy, hww, hnu, hop, rfl, rfl⟩ | ⟨hsy, hww, hnu, q1⟩
     ·exact absurd gsy hsx
     ·exact absurd gww hww
     ·exact absurd hun gnu
     ·exact (hop.not (hN_of hlm) hOp.nn hOp.nt).elim
     ·obtain ⟨t2, bb46, x2, hOp2, hts2, hxl2, hx02, hxb2, rfl, rfl⟩ := q1
      rw [List.singleton_append];obtain ⟨hpt2, hin2⟩ := opt_pt hlm hOp2 hxl2 hx02 hxb2;have hfit2 := fit_in hin2;refine kM J J (kO J (W2 J J (kO J (W2 J J (kM J J (kM J J (Q0 (rS (kO J (U5 J (by decide) (.next .here) J (kM J J (kO J (Y5 J J (fun s1 h1 => Prove_s _ (M : Int) al cl ls aw cw w s1 h1.wf (by omega) (hL.ext hs h1.2.1) hcl (hW.ext hs h1.2.1) (hCap.ext hs h1.2.1)) (fun v1 A1 q1 => ?_))))))))))))));rcases q1 with ⟨hsx, rfl, rfl⟩ | ⟨hsy, hww, rfl, rfl⟩ | ⟨hsy, hww, hun, rfl, rfl⟩ | ⟨hsy, hww, hnu, hop, rfl, rfl⟩ | ⟨hsy, hww, hnu, q1⟩
      ·exact absurd gsy hsx
      ·exact absurd gww hww
      ·exact absurd hun gnu
      ·exact (hop.not (hN_of hlm) hOp.nn hOp.nt).elim
      ·obtain ⟨t3, p3, aV, nV, cV, VL, hOp3, ht3, hts3, rfl, rfl, hnV, hUV⟩ := q1
       have hst := opt_same hOp hOp3 (hN_of hlm);obtain ⟨had3, hul3⟩ := ul_ad hLg hOp3 ht3 hts3;refine kM J J (kO J (W2 J J (kO J (W2 J J (kO J (a_new J J (fun b47 => (kZ J (Q7 J J .here rfl rfl rfl rfl (kM J J (Q0 (rQ (rS (kM J J (kM J J (kO J (Z4 J J (fun h48 => ?_) (fun h48 => ?_))))))))))))))))))
       ·exfalso; omega
       ·refine kM J J (kG J J (Y3 J (kG J J (Y3 J (kG J J (Z4 J J (fun h => absurd h (by decide)) (fun _ => (kO J (Q2 J J J (kM J J (kG J J (Y3 J (kG J J (Y3 J (kG J J (Z4 J J (fun h => absurd h (by decide)) (fun _ => (kO J (Q2 J J J (kM J J (kG J J (Y3 J (kG J J (Y3 J (kG J J (Z4 J J (fun h => absurd h (by decide)) (fun _ => (kO J (Q2 J J J (kM J J (kG J J (Y3 J (kG J J (Y3 J (kG J J (Z4 J J (fun h => absurd h (by decide)) (fun _ => (kO J (Q2 J J J (kM J J (kG J J (Y3 J (kG J J (Y3 J (kG J J (Z4 J J (fun h => absurd h (by decide)) (fun _ => ?_)))))))))))))))))))))))))))))))))))))))))))))))
        refine kO J (Q2 J J J (kM J J (kG J J (Y3 J (kG J J (Y3 J (kG J J (Z4 J J (fun h => absurd h (by decide)) (fun _ => (kO J (Q2 J J J (Q0 (U0 J (W1 (W0 (rQ (rS (kM J J (kO J (Z4 J J (fun h => absurd h (by decide)) (fun _ => (Q0 (U0 J (W1 (W0 (rS (kO J (U5 J (by decide) (.next (.app (.next .here))) J (kM J J (kM J J (kO J (a_callV J J (fun s1 h1 => rBest_k _ M al cl ls aw cw w _ _ _ x2 t2 s1 h1.wf (by omega) (hL.ext hs h1.2.1) (hW.ext hs h1.2.1) (hCap.ext hs h1.2.1) (IntsE.own (h1.own (.next (.app .here))) hfit2 (by omega)) hxl2.symm gsy hwl hwo gnu hOp2 hts2 hxl2 hx02 hxb2) (kM J J ?_)))))))))))))))))))))))))))))))));refine kG J J (U5 J (by decide) (.next (.app (.next .here))) J (kG J J (Y3 J (kG J J (U5 J (by decide) .here rfl (kG J J (a_callV J J (fun s1 h1 => rCheckProof_n _ M al cl ls aw cw w _ _ _ (ulL t3 ls.length) _ s1 h1.wf (by omega) (hL.ext hs h1.2.1) (hW.ext hs h1.2.1) (hUV.rows (.cons _ (List.sublist_append_left _ _)) h1 (by omega) (fun i hi => ⟨hOp3.nn i hi, ht3 i hi⟩)).1 (hUV.rows (.cons _ (List.sublist_append_left _ _)) h1 (by omega) (fun i hi => ⟨hOp3.nn i hi, ht3 i hi⟩)).2 (by omega) gsy hwl hwo had3) (kG J J (a_eql J J (fun _ => (kO J (Q3 J J J (kM J J (kG J J (U2 J (kG J J (U1 J .here rfl (kG J J (Y3 J (kG J J (a_eql J J (fun h57 => ?_) (fun h57 => ?_))))))))))))) (fun h => absurd h (by decide)))))))))))
        ·refine kO J (Q3 J J J (kM J J (kG J J (a_callV J J (fun s1 h1 => known_s _ s1 h1.wf) (kO J (Q3 J J J (kM J J (Q0 (Z3 ?_)))))))))
         exact end1 J ⟨rfl, rfl⟩
        ·exfalso; omega
    ·obtain ⟨z9, z8, hz9, hz8, _⟩ := q1; rcases gop2 with q | q; exact (q.noM hz9).elim; exact (q.noM hz8).elim
   ·obtain ⟨t9, p9, t8, p8, hO9, hO8, hts9, hts8, rfl, rfl⟩ := q1
    refine kM J J (kO J (W2 J J (kO J (W2 J J (kO J (W2 J J (kM J J (kM J J (kM J J (Q0 (rS (kO J (U5 J (by decide) .here rfl (kM J J (kO J (Y5 J J (fun s1 h1 => rRange_s _ (M : Int) al cl ls aw cw w s1 h1.wf (by omega) (hL.ext hs h1.2.1) (hW.ext hs h1.2.1) (hCap.ext hs h1.2.1)) (fun v1 A1 q1 => ?_)))))))))))))))));rcases q1 with ⟨e, k0, kne, k1, k2, k3, rfl, rfl⟩ | ⟨hsy, hww, hnu, hop, rfl, rfl⟩ | ⟨hsy, hww, hnu, q1⟩
    ·exact absurd (k1 gsy gww).2 gnu
    ·rcases hop with q | q; exact (q.not (hN_of hlm) hO9.nn hO9.nt).elim; exact (q.not (hN_of hlm) hO8.nn hO8.nt).elim
    ·obtain ⟨z9, z8, hz9, hz8, rfl, rfl⟩ := q1
     have e9 := hz9.uniq (hO9.isM hlm);have e8 := hz8.uniq (hO8.isM hlm);have s9 := sum_all hlm hO9 hts9;have s8 := sum_all hlm hO8 hts8;rw [e9, e8, wq_in (show -9223372036854775808 <= (tot (fun i => t8 i * lw ls i) ls.length) /\ _ < (9223372036854775808 : Int) from ⟨by omega, by omega⟩), wq_in (show -9223372036854775808 <= (tot (fun i => t9 i * lw ls i) ls.length) /\ _ < (9223372036854775808 : Int) from ⟨by omega, by omega⟩), wq_in (show -9223372036854775808 <= -(tot (fun i => t8 i * lw ls i) ls.length) /\ _ < (9223372036854775808 : Int) from ⟨by omega, by omega⟩)];refine kM J J (kO J (W2 J J (kO J (W2 J J (kO J (W2 J J (kM J J (kM J J (kM J J (Q0 (rS (kO J (U5 J (by decide) .here rfl (kM J J (kO J (Y5 J J (fun s1 h1 => Best_s _ (M : Int) al cl ls aw cw w s1 h1.wf (by omega) (hL.ext hs h1.2.1) hcl (hW.ext hs h1.2.1) (hCap.ext hs h1.2.1)) (fun v1 A1 q1 => ?_)))))))))))))))));rcases q1 with ⟨hsx, rfl, rfl⟩ | ⟨hsy, hww, rfl, rfl⟩ | ⟨hsy, hww, hun, rfl, rfl⟩ | ⟨hsy, hww, hnu, hop, rfl, rfl⟩ | ⟨hsy, hww, hnu, q1⟩
     ·exact absurd gsy hsx
     ·exact absurd gww hww
     ·exact absurd hun gnu
     ·exact (hop.not (hN_of hlm) hOp.nn hOp.nt).elim
     ·obtain ⟨t2, bb58, x2, hOp2, hts2, hxl2, hx02, hxb2, rfl, rfl⟩ := q1
      rw [List.singleton_append];obtain ⟨hpt2, hin2⟩ := opt_pt hlm hOp2 hxl2 hx02 hxb2;have hfit2 := fit_in hin2;refine kM J J (kO J (W2 J J (kO J (W2 J J (kM J J (kM J J (Q0 (rS (kO J (U5 J (by decide) (.next .here) J (kM J J (kO J (Y5 J J (fun s1 h1 => Prove_s _ (M : Int) al cl ls aw cw w s1 h1.wf (by omega) (hL.ext hs h1.2.1) hcl (hW.ext hs h1.2.1) (hCap.ext hs h1.2.1)) (fun v1 A1 q1 => ?_))))))))))))));rcases q1 with ⟨hsx, rfl, rfl⟩ | ⟨hsy, hww, rfl, rfl⟩ | ⟨hsy, hww, hun, rfl, rfl⟩ | ⟨hsy, hww, hnu, hop, rfl, rfl⟩ | ⟨hsy, hww, hnu, q1⟩
      ·exact absurd gsy hsx
      ·exact absurd gww hww
      ·exact absurd hun gnu
      ·exact (hop.not (hN_of hlm) hOp.nn hOp.nt).elim
      ·obtain ⟨t3, p3, aV, nV, cV, VL, hOp3, ht3, hts3, rfl, rfl, hnV, hUV⟩ := q1
       have hst := opt_same hOp hOp3 (hN_of hlm);obtain ⟨had3, hul3⟩ := ul_ad hLg hOp3 ht3 hts3;refine kM J J (kO J (W2 J J (kO J (W2 J J (kO J (a_new J J (fun b59 => (kZ J (Q7 J J .here rfl rfl rfl rfl (kM J J (Q0 (rQ (rS (kM J J (kM J J (kO J (Z4 J J (fun h60 => ?_) (fun h60 => ?_))))))))))))))))))
       ·exfalso; omega
       ·refine kM J J (kG J J (Y3 J (kG J J (Y3 J (kG J J (Z4 J J (fun h => absurd h (by decide)) (fun _ => (kO J (Q2 J J J (kM J J (kG J J (Y3 J (kG J J (Y3 J (kG J J (Z4 J J (fun h62 => ?_) (fun h62 => ?_)))))))))))))))))
        ·exfalso; omega
        ·refine kO J (Q2 J J J (kM J J (kG J J (Y3 J (kG J J (Y3 J (kG J J (Z4 J J (fun h63 => ?_) (fun h63 => ?_)))))))))
         ·exfalso; omega
         ·refine kO J (Q2 J J J (kM J J (kG J J (Y3 J (kG J J (Y3 J (kG J J (Z4 J J (fun h => absurd h (by decide)) (fun _ => (kO J (Q2 J J J (kM J J (kG J J (Y3 J (kG J J (Y3 J (kG J J (Z4 J J (fun h => absurd h (by decide)) (fun _ => (kO J (Q2 J J J (kM J J (kG J J (Y3 J (kG J J (Y3 J (kG J J (Z4 J J (fun h => absurd h (by decide)) (fun _ => (kO J (Q2 J J J (Q0 (U0 J (W1 (W0 (rQ (rS (kM J J (kO J (Z4 J J (fun h => absurd h (by decide)) (fun _ => ?_)))))))))))))))))))))))))))))))))))))))))
          refine Q0 (U0 J (W1 (W0 (rS (kO J (U5 J (by decide) (.next (.app (.next .here))) J (kM J J (kM J J (kO J (a_callV J J (fun s1 h1 => rBest_k _ M al cl ls aw cw w _ _ _ x2 t2 s1 h1.wf (by omega) (hL.ext hs h1.2.1) (hW.ext hs h1.2.1) (hCap.ext hs h1.2.1) (IntsE.own (h1.own (.next (.app .here))) hfit2 (by omega)) hxl2.symm gsy hwl hwo gnu hOp2 hts2 hxl2 hx02 hxb2) (kM J J (kG J J (U5 J (by decide) (.next (.app (.next .here))) J (kG J J (Y3 J (kG J J (U5 J (by decide) .here rfl (kG J J (a_callV J J (fun s1 h1 => rCheckProof_n _ M al cl ls aw cw w _ _ _ (ulL t3 ls.length) _ s1 h1.wf (by omega) (hL.ext hs h1.2.1) (hW.ext hs h1.2.1) (hUV.rows (.cons _ (List.sublist_append_left _ _)) h1 (by omega) (fun i hi => ⟨hOp3.nn i hi, ht3 i hi⟩)).1 (hUV.rows (.cons _ (List.sublist_append_left _ _)) h1 (by omega) (fun i hi => ⟨hOp3.nn i hi, ht3 i hi⟩)).2 (by omega) gsy hwl hwo had3) (kG J J (a_eql J J (fun _ => (kO J (Q3 J J J (kM J J (kG J J (U2 J (kG J J (U1 J .here rfl (kG J J (Y3 J (kG J J (a_eql J J (fun h69 => ?_) (fun h69 => ?_))))))))))))) (fun h => absurd h (by decide)))))))))))))))))))))))
          ·refine kO J (Q3 J J J (kM J J (kG J J (a_callV J J (fun s1 h1 => known_s _ s1 h1.wf) (kO J (Q3 J J J (kM J J (Q0 (Z3 ?_)))))))))
           exact end1 J ⟨rfl, rfl⟩
          ·exfalso; omega
end
end Ev
end Go.Proofs.YtoeklhdklcpllaaGreat
namespace Go.Proofs.YtoeklhdklcpllaaGreat.Ev
open Go Go.RowKit Go.ChangeShapes Go.WideShapes Go.ChangeAt Go.Joins
set_option linter.unusedVariables false
noncomputable section
theorem ints_of {s : St} {a : Option Addr} {rs : List (List Int)} (h : RowsE s 1 a rs) : IntsE s a (rs.map fun r => r.getD 0 0) := by
 have hr : ∀ r ∈ rs, r = [r.getD 0 0] := fun r hr => by
  have := h.width r hr
  match r, this with
  | [z], _ => rfl
 refine ⟨h.spot, fun hn => h.addr (by rintro rfl; exact hn rfl), fun b o ha => ?_, fun x hx => ?_, by rw [List.length_map]; exact h.len⟩
 ·have key : ∀ (l : List (List Int)) (k : Nat), (∀ i r, l[i]? = some r -> Ats s b (o + (k + i) * 1) (r.map (.int .i64))) -> (∀ r ∈ l, r = [r.getD 0 0]) -> Ats s b (o + k) (ints (l.map fun r => r.getD 0 0)) := by
   intro l
   induction l with
   | nil => intro k _ _; exact trivial
   | cons r l ih =>
    intro k h1 h2;have q := h1 0 r rfl;rw [h2 r (by simp)] at q;refine ⟨?_, ?_⟩
    ·have := q.1; simpa using this
    ·have := ih (k + 1) (fun i r' hr' => by have := h1 (i + 1) r' (by simpa using hr'); rwa [show k + (i + 1) = k + 1 + i by omega] at this) (fun r' hr' => h2 r' (by simp [hr']))
     rwa [show o + (k + 1) = o + k + 1 by omega] at this
  have := key rs 0 (fun i r hr' => by rw [Nat.zero_add]; exact h.cells b o ha i r hr') hr;simpa using this
 ·obtain ⟨r, h1, rfl⟩ := List.mem_map.1 hx
  have h2 := h.fit r h1;rw [hr r h1] at h2 ⊢;exact h2 _ (by simp)
set_option maxRecDepth 100000 in
theorem open_int {H : Type} {enc : TypeId × Value -> H} {W : World} {r : Reach} {b0 : Nat} {v : Value} {d : DataW H} {p : List MemPlace} (h : DataW.Trod enc Tryz.prog W 0 (fun _ => true) true 3 v d p) (hv : Value.okWide Tryz.prog W r b0 3 v) : ∃ z, v = .int .i64 z := by
 obtain ⟨fuel, hf⟩ := h;have hk : v.cells.toList = [v] := by
  simp only [Value.okWide, Tryz.underlying3] at hv;unfold Cell.okWide at hv;rw [Tryz.underlying3] at hv;unfold Cell.ok at hv;rw [Tryz.underlying3] at hv;cases v <;> first | rfl | exact absurd hv id
 rw [hk] at hf;obtain ⟨l, q, ql, _⟩ := intCells_int (P := Tryz.prog) Tryz.underlying3 hf
 match l, ql with
 | [z], _ => exact ⟨z, by simpa using q⟩
set_option maxRecDepth 100000 in
theorem open_islice {H : Type} {enc : TypeId × Value -> H} {W : World} {r : Reach} {b0 : Nat} {v : Value} {d : DataW H} {p : List MemPlace} (hv : Value.okWide Tryz.prog W r b0 25 v) (h : DataW.Trod enc Tryz.prog W 0 (fun _ => true) true 25 v d p) (hz : ∀ x ∈ DataW.weights Tryz.prog 25 d, x <= reachBytes) :
 ∃ a n c r, v = .slice a n c /\ r.length = n /\ NiceS W a n c /\ RowsE (wst W) 1 a r := by
 obtain ⟨fuel, hf⟩ := h;simp only [Value.okWide, Tryz.underlying25] at hv;obtain ⟨a, n, c, rfl, hN⟩ := cell_niceS Tryz.underlying25 hv;obtain ⟨rs, f, k, _⟩ := rowsW (w := 1) (bytes := 8) Tryz.underlying25 (by kernel_rfl) (by decide) (by kernel_rfl) (by decide) (intCells_int Tryz.underlying3) hN (by simpa [Value.cells] using hf) hz;exact ⟨a, n, c, rs, rfl, f, hN, k⟩
theorem int_limit {H : Type} {enc : TypeId × Value -> H} {W : World} : IntCells H Tryz.prog enc W 74 4 :=
 intCells_struct (ws := [1, 1, 1, 1]) Tryz.underlying74 (by kernel_rfl) (fun i f hf => by
  match i, hf with
  | 0, hf => cases hf; exact ⟨1, rfl, by kernel_rfl, rfl, intCells_int Tryz.underlying3⟩
  | 1, hf => cases hf; exact ⟨1, rfl, by kernel_rfl, rfl, intCells_int Tryz.underlying3⟩
  | 2, hf => cases hf; exact ⟨1, rfl, by kernel_rfl, rfl, intCells_int Tryz.underlying3⟩
  | 3, hf => cases hf; exact ⟨1, rfl, by kernel_rfl, rfl, intCells_int Tryz.underlying3⟩
  | n + 4, hf => simp at hf) rfl
set_option maxRecDepth 100000 in
set_option maxHeartbeats 2000000 in
theorem open_system {H : Type} {enc : TypeId × Value -> H} {W : World} {r : Reach} {b0 : Nat} {v : Value} {d : DataW H} {p : List MemPlace} (hv : Value.okWide Tryz.prog W r b0 24 v) (h : DataW.Trod enc Tryz.prog W 0 (fun _ => true) true 24 v d p) (hz : ∀ x ∈ DataW.weights Tryz.prog 24 d, x <= reachBytes) :
 ∃ z0 a1 n1 c1 r1, v = .agg #[.int .i64 z0, .slice a1 n1 c1] /\ r1.length = n1 /\ NiceS W a1 n1 c1 /\ RowsE (wst W) 4 a1 r1 := by
 obtain ⟨fuel, hf⟩ := h;simp only [Value.okWide, Tryz.underlying24] at hv;obtain ⟨cs, rfl, hsz, ts, hts, _, hc⟩ := hv;have e2 : Tryz.prog.cellTypes Tryz.prog.depth 24 = some [3, 22] := by kernel_rfl
 rw [e2] at hts;cases hts;have e3 : Tryz.prog.cellsOf 24 = 2 := by kernel_rfl
 rw [e3] at hsz;obtain ⟨l⟩ := cs
 match l, hsz with
 | [x0, x1], _ =>
  have u0 : ∃ t, [3, 22][0]? = some t /\ Cell.okWide Tryz.prog W r b0 t x0 := by
   obtain ⟨t, h1, h2⟩ := hc 0 x0 rfl;exact ⟨t, h1, h2⟩
  obtain ⟨t0, e0, w0⟩ := u0;have : t0 = 3 := by simpa using e0.symm
  subst this;have u1 : ∃ t, [3, 22][1]? = some t /\ Cell.okWide Tryz.prog W r b0 t x1 := by
   obtain ⟨t, h1, h2⟩ := hc 1 x1 rfl;exact ⟨t, h1, h2⟩
  obtain ⟨t1, e1, w1⟩ := u1;have : t1 = 22 := by simpa using e1.symm
  subst this;obtain ⟨xs, m, _, hx, _, hlen, hfs⟩ := DataW.trod_struct Tryz.underlying24 hf;have hd : d = .agg (xs.map (·.1)) := by simpa using congrArg Prod.fst hx
  have g_0 : ∃ y, xs[0]? = some y /\ DataW.trod enc Tryz.prog W 0 (fun _ => true) true m 3 [x0] = some y := by
   have hy : ∃ y, xs[0]? = some y := ⟨xs[0]'(by rw [hlen]; decide), List.getElem?_eq_getElem _⟩;obtain ⟨y, hy⟩ := hy;have h4 := hfs 0 _ rfl;rw [hy] at h4;have e4 : Tryz.prog.cellsOf 3 = 1 := by kernel_rfl
   exact ⟨y, hy, by simpa [e4, Value.cells] using h4⟩
  obtain ⟨⟨d_0, p_0⟩, gy_0, g_0⟩ := g_0;obtain ⟨l_0, q_0, ql_0, _⟩ := intCells_int (P := Tryz.prog) Tryz.underlying3 g_0;obtain ⟨z0, rfl⟩ : ∃ z, l_0 = [z] := by
   match l_0, ql_0 with
   | [z], _ => exact ⟨z, rfl⟩
  simp at q_0;subst q_0;have g_1 : ∃ y, xs[1]? = some y /\ DataW.trod enc Tryz.prog W 0 (fun _ => true) true m 22 [x1] = some y := by
   have hy : ∃ y, xs[1]? = some y := ⟨xs[1]'(by rw [hlen]; decide), List.getElem?_eq_getElem _⟩;obtain ⟨y, hy⟩ := hy;have h4 := hfs 1 _ rfl;rw [hy] at h4;have e4 : Tryz.prog.cellsOf 22 = 1 := by kernel_rfl
   exact ⟨y, hy, by simpa [e4, Value.cells] using h4⟩
  obtain ⟨⟨d_1, p_1⟩, gy_1, g_1⟩ := g_1;obtain ⟨a1, n1, c1, rfl, hN1⟩ := cell_niceS Tryz.underlying22 w1;have hz_1 : ∀ x ∈ DataW.weights Tryz.prog 22 d_1, x <= reachBytes := fun x hx' => hz x (by
   rw [hd];simp only [DataW.weights, Tryz.underlying24];exact DataW.weights_mem_each (j := 1) (t := 22) J (by rw [List.getElem?_map, gy_1]; rfl) x hx')
  obtain ⟨r1, f1, k1, _⟩ := rowsW (w := 4) (bytes := 32) Tryz.underlying22 (by kernel_rfl) (by decide) (by kernel_rfl) (by decide) int_limit hN1 g_1 hz_1;exact ⟨z0, a1, n1, c1, r1, rfl, f1, hN1, k1⟩
end
end Go.Proofs.YtoeklhdklcpllaaGreat.Ev
namespace Go.Proofs.YtoeklhdklcpllaaGreat
open Go Go.RowKit
namespace Ev
set_option maxRecDepth 1000000 in
theorem sane_yes : yesK Tryz.prog tabw 3000 13 = true := by kernel_rfl
end Ev
theorem sane_w (w : World) : Calls Tryz.prog 13 #[] w fun e w' => e = .returned (.bool true) /\ Below w.heap.size w w' := Ev.yes_ok Ev.tabw_holds Ev.sane_yes w
end Go.Proofs.YtoeklhdklcpllaaGreat
