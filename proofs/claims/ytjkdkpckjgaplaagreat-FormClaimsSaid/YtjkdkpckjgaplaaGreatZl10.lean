import Derived.Test.YtjkdkpckjgaplaaGreatZl09
import Derived.Test.YtjkdkpckjgaplaaGreatZl08
import Derived.ProofKit
import Derived.OpenShut
import Derived.Lib.SmallJoins
import Derived.Deep.Slices
import Derived.Deep.Strs
set_option linter.unusedVariables false
set_option linter.unusedSimpArgs false
namespace Go.Proofs.YtjkdkpckjgaplaaGreat
open Go Go.RowKit
namespace Ev
variable{l1 l2:List Int}
theorem AD{m hi:Int}{l:List Int}(h:tP m hi l):∀(d k:Nat),k+d+1=l.length->l.getD k 0<=l.getD (l.length-1) 0
 |0,k,hk=>by rw[show l.length-1=k by omega];exact Int.le_refl _
 |d+1,k,hk=>by
  have h1:=h.rise k oM;have h2:=AD h d (k+1) oM;omega
theorem eD(h1:gJ 9 100000 l1=true)(h2:gJ 9 100000 l2=true)(h3:(l2.length:Int)<=7)(h4:l2.getD (l2.length-1) 0<=15000):cJ l1 l2=true:=by
 have hp:=Cu dE h2;refine nG h1 h2 h3 ?_;unfold qT;rw[List.all_eq_true];intro x hx;obtain⟨k,hk,rfl⟩:=List.getElem_of_mem hx;have q:=hp.lo k;have q2:=AD hp (l2.length-1-k) k oM;have q3:l2.getD k 0<=15000:=Int.le_trans q2 h4;have e:l2.getD k 0=l2[k]:=by rw[List.getD_eq_getElem?_getD,List.getElem?_eq_getElem hk];rfl
 rw[e] at q q3;simpa using ⟨q.1,q3⟩
theorem dC(h4:¬l2.getD (l2.length-1) 0<=15000):cJ l1 l2=false:=by
 cases hb:cJ l1 l2 with
 |false=>rfl
 |true=>exact absurd ((yU hb).lo _).2 h4
theorem eL(h:¬gJ 9 100000 l1=true):cJ l1 l2=false:=pD (by simpa using h)
theorem eM(h:¬gJ 9 100000 l2=true):cJ l1 l2=false:=pE (by simpa using h)
theorem lZ{l:List Int}{k:Nat}(h:tP 9 100000 l)(h1:2<=k)(h2:k<=l.length):tP 9 100000 (l.take k):=by
 have hl:(l.take k).length=k:=by rw[List.length_take];omega
 have hg:∀j,j<k->(l.take k).getD j 0=l.getD j 0:=fun j hj=>by
  rw[List.getD_eq_getElem?_getD,List.getD_eq_getElem?_getD,List.getElem?_take,if_pos hj]
 refine⟨oM,by have:=h.hm;omega,fun j=>?_,fun j hj=>?_⟩
 ·by_cases hj:j<k
  ·rw[hg j hj];exact h.lo j
  ·rw[List.getD_eq_getElem?_getD,List.getElem?_eq_none oM];exact⟨Int.le_refl _,dE⟩
 ·rw[hg j oM,hg (j+1) oM];exact h.rise j oM
theorem yV{l:List Int}(h:tP 9 100000 l):gJ 9 100000 l=true:=by
 refine iR ⟨by have:=h.h2;omega,h.hm⟩ ?_ ?_
 ·unfold qT
  rw[List.all_eq_true];intro x hx;obtain⟨k,hk,rfl⟩:=List.getElem_of_mem hx;have q:=h.lo k;rw[List.getD_eq_getElem?_getD,List.getElem?_eq_getElem hk] at q;simpa using q
 ·have key:∀(d k:Nat),l.length<=k+d->kS (l.drop k)=true:=by
   intro d
   induction d with
   |zero=>intro k hk;rw[List.drop_eq_nil_of_le oM];rfl
   |succ d ih=>
    intro k hk;by_cases hk':k+1<l.length
    ·rw[pC hk',decide_eq_true (h.rise k hk'),ih (k+1) oM];rfl
    ·by_cases hk2:k<l.length
     ·rw[List.drop_eq_getElem_cons hk2,List.drop_eq_nil_of_le oM];rfl
     ·rw[List.drop_eq_nil_of_le oM];rfl
  exact key l.length 0 oM
section
variable{X:FuncId->List Value->St->(Value->St->Bool)->Bool}
theorem Cw(n:Nat)(d r al up:Int)(a1 a2:Option Addr)(c1 c2:Nat)(l1 l2:List Int)(s:St)(hs:Wf s)(hn:1688849860263936<=n)(hl1:aN s a1 l1)(hl2:aN s a2 l2):bX Tryz.prog (bZ cB) X (n+1700) 19 [.agg ⟨[.int .i64 d,.int .i64 r,.slice a1 l1.length c1,.slice a2 l2.length c2,.int .i64 al,.int .i64 up]⟩] s (fun v A=>v = .int .i64 (if (1<=d/\d<=99999)/\(1<=r/\r<=99999)/\(0<=al/\al<=100000)/\(0<=up/\up<=100000)/\cJ l1 l2=true then 0 else 30)/\A=[]):=by
 refine enter OH rfl hs ?_;unfold M7;have hlen1:=hl1.len;have hlen2:=hl2.len;refine rS (aZ J J J (fun b1=>(kM J (Q0 (rS (aH J (aL J .here rfl (aH J (aL J .here rfl (kO (Z4 J J (fun s1 h1=>RG _ _ _ _ _ _ _ s1 h1.wf oM (hl1.ext hs h1.2.1) (hl2.ext hs h1.2.1)) (fun v1 A1 q1=>?_))))))))))));obtain⟨x1,rfl,rfl⟩:=q1;by_cases hpl:cJ l1 l2=true
 ·rw[if_pos hpl]
  refine kM J (eK J J (eK J J (kM J (kM J (Q0 (rS (kM J (kO (bV J J (fun _=>(kM J (kG (Q2 J (kG (Y1 J .here rfl (kG (bB J J (fun s1 h1=>qC _ _ s1 h1.wf) (fun h3=>?_) (fun h3=>?_))))))))) (fun h=>absurd h dE))))))))))
  ·refine cA J J J (kM J (kG (Q2 J (kG (Y1 J .here rfl (kG (bB J J (fun s1 h1=>qC _ _ s1 h1.wf) (fun h4=>?_) (fun h4=>?_))))))))
   ·refine cA J J J (kM J (kG (Q2 J (kG (Q2 J (kG (Y1 J .here rfl (kG (bB J J (fun s1 h1=>iE _ _ _ _ s1 h1.wf) (fun h5=>?_) (fun h5=>?_))))))))))
    ·refine cA J J J (kM J (kG (Q2 J (kG (Q2 J (kG (Y1 J .here rfl (kG (bB J J (fun s1 h1=>iE _ _ _ _ s1 h1.wf) (fun h6=>?_) (fun h6=>?_))))))))))
     ·refine cA J J J (kM J (Q0 (rQ (rS (kM J (eP J (Q0 (U0 J (Q1 (W0 (rS (kM J (Q0 (V2 (aO J ⟨congrArg (Value.int .i64) ?_,rfl⟩)))))))))))))))
      first
       |exact(if_pos ⟨oM,oM,oM,oM,by first|assumption|exact eD aM aM oM oM⟩).symm
       |exact(if_neg (fun h=>by
        obtain⟨q1,q2,q3,q4,q5⟩:=h
        first
         |omega
         |contradiction
         |(rw[eL aM] at q5;cases q5)
         |(rw[eM aM] at q5;cases q5)
         |(rw[dX oM] at q5;cases q5)
         |(rw[dC oM] at q5;cases q5))).symm
     ·refine cA J J J (kM J (Q0 (rQ (rS (kM J (eP J (Q0 (Y0 J (rS (kM J (Q0 (V2 (W3 (aO J ⟨congrArg (Value.int .i64) ?_,rfl⟩))))))))))))))
      first
       |exact(if_pos ⟨oM,oM,oM,oM,by first|assumption|exact eD aM aM oM oM⟩).symm
       |exact(if_neg (fun h=>by
        obtain⟨q1,q2,q3,q4,q5⟩:=h
        first
         |omega
         |contradiction
         |(rw[eL aM] at q5;cases q5)
         |(rw[eM aM] at q5;cases q5)
         |(rw[dX oM] at q5;cases q5)
         |(rw[dC oM] at q5;cases q5))).symm
    ·refine cA J J J (kM J (V0 (V0 (V0 (V0 (bK J J J (kM J (Q0 (rQ (rS (kM J (eP J (Q0 (Y0 J (rS (kM J (Q0 (V2 (W3 (aO J ⟨congrArg (Value.int .i64) ?_,rfl⟩))))))))))))))))))))
     first
      |exact(if_pos ⟨oM,oM,oM,oM,by first|assumption|exact eD aM aM oM oM⟩).symm
      |exact(if_neg (fun h=>by
       obtain⟨q1,q2,q3,q4,q5⟩:=h
       first
        |omega
        |contradiction
        |(rw[eL aM] at q5;cases q5)
        |(rw[eM aM] at q5;cases q5)
        |(rw[dX oM] at q5;cases q5)
        |(rw[dC oM] at q5;cases q5))).symm
   ·refine cA J J J (kM J (V0 (V0 (V0 (V0 (bK J J J (kM J (V0 (V0 (V0 (V0 (bK J J J (kM J (Q0 (rQ (rS (kM J (eP J (Q0 (Y0 J (rS (kM J (Q0 ?_)))))))))))))))))))))))
    refine V2 (W3 (aO J ⟨congrArg (Value.int .i64) ?_,rfl⟩))
    first
     |exact(if_pos ⟨oM,oM,oM,oM,by first|assumption|exact eD aM aM oM oM⟩).symm
     |exact(if_neg (fun h=>by
      obtain⟨q1,q2,q3,q4,q5⟩:=h
      first
       |omega
       |contradiction
       |(rw[eL aM] at q5;cases q5)
       |(rw[eM aM] at q5;cases q5)
       |(rw[dX oM] at q5;cases q5)
       |(rw[dC oM] at q5;cases q5))).symm
  ·refine cA J J J (kM J (V0 (V0 (V0 (bK J J J (kM J (V0 (V0 (V0 (V0 (bK J J J (kM J (V0 (V0 (V0 (V0 (bK J J J (kM J (Q0 (rQ (rS (kM J (eP J ?_)))))))))))))))))))))))
   refine Q0 (Y0 J (rS (kM J (Q0 (V2 (W3 (aO J ⟨congrArg (Value.int .i64) ?_,rfl⟩)))))))
   first
    |exact(if_pos ⟨oM,oM,oM,oM,by first|assumption|exact eD aM aM oM oM⟩).symm
    |exact(if_neg (fun h=>by
     obtain⟨q1,q2,q3,q4,q5⟩:=h
     first
      |omega
      |contradiction
      |(rw[eL aM] at q5;cases q5)
      |(rw[eM aM] at q5;cases q5)
      |(rw[dX oM] at q5;cases q5)
      |(rw[dC oM] at q5;cases q5))).symm
 ·rw[if_neg hpl]
  refine kM J (eK J J (eK J J (kM J (kM J (Q0 (rS (kM J (kO (bV J J (fun h=>absurd h dE) (fun _=>(kM J (V0 (V0 (V0 (bK J J J (kM J (V0 (V0 (V0 (bK J J J (kM J (V0 (V0 (V0 (V0 ?_)))))))))))))))))))))))));refine bK J J J (kM J (V0 (V0 (V0 (V0 (bK J J J (kM J (Q0 (rQ (rS (kM J (eP J (Q0 (Y0 J (rS (kM J (Q0 (V2 (W3 (aO J ⟨congrArg (Value.int .i64) ?_,rfl⟩))))))))))))))))))))
  first
   |exact(if_pos ⟨oM,oM,oM,oM,by first|assumption|exact eD aM aM oM oM⟩).symm
   |exact(if_neg (fun h=>by
    obtain⟨q1,q2,q3,q4,q5⟩:=h
    first
     |omega
     |contradiction
     |(rw[eL aM] at q5;cases q5)
     |(rw[eM aM] at q5;cases q5)
     |(rw[dX oM] at q5;cases q5)
     |(rw[dC oM] at q5;cases q5))).symm
theorem Bj(n:Nat)(d r al up:Int)(a1 a2:Option Addr)(c1 c2:Nat)(l1 l2:List Int)(s:St)(hs:Wf s)(hn:1688849860263936<=n)(hl1:aN s a1 l1)(hl2:aN s a2 l2):bX Tryz.prog (bZ cB) X (n+1700) 20 [.agg ⟨[.int .i64 d,.int .i64 r,.slice a1 l1.length c1,.slice a2 l2.length c2,.int .i64 al,.int .i64 up]⟩] s (fun v A=>v = .int .i64 (if (1<=d/\d<=99999)/\(1<=r/\r<=99999)/\(0<=al/\al<=100000)/\(0<=up/\up<=100000)/\cJ l1 l2=true then 0 else 30)/\A=[]):=by
 refine enter OI rfl hs ?_;unfold M9;have hlen1:=hl1.len;have hlen2:=hl2.len;refine rS (aZ J J J (fun b1=>(kM J (Q0 (rQ (rS (aH J (aL J .here rfl (kO (bB J J (fun s1 h1=>sY _ _ _ _ s1 h1.wf) (fun h2=>?_) (fun h2=>?_)))))))))))
 ·refine eP J (kM J (kG (Q2 J (kG (Y1 J .here rfl (kG (bB J J (fun s1 h1=>sY _ _ _ _ s1 h1.wf) (fun h3=>?_) (fun h3=>?_))))))))
  ·refine kG (U6 J (bK J J J (kM J (kG (Q2 J (kG (Q2 J (kG (Y1 J .here rfl (kG (bB J J (fun s1 h1=>sY _ _ _ _ s1 h1.wf) (fun h4=>?_) (fun h4=>?_))))))))))))
   ·refine kG (U6 J (bK J J J (kM J (kG (Q2 J (kG (Q2 J (kG (Y1 J .here rfl (kG (bB J J (fun s1 h1=>sY _ _ _ _ s1 h1.wf) (fun h5=>?_) (fun h5=>?_))))))))))))
    ·refine kG (U6 J (bK J J J (Q0 (U0 J (Q1 (W0 (rQ (rS (aH J (aL J .here rfl (kO (iQ J J (fun s1 h1=>nH _ _ _ _ s1 h1.wf oM (hl1.ext hs h1.2.1)) (fun h6=>?_) (fun h6=>?_)))))))))))))
     ·refine kO (V3 J J (fun h=>absurd h dE) (fun _=>(kM J (kG (Q2 J (kG (Y1 J .here rfl (kG (iQ J J (fun s1 h1=>nH _ _ _ _ s1 h1.wf oM (hl2.ext hs h1.2.1)) (fun h8=>?_) (fun h8=>?_))))))))))
      ·refine kG (V3 J J (fun h=>absurd h dE) (fun _=>(bK J J J (kM J (kG (Q2 J (kG (Y1 J .here rfl (kG (oH J hl2.spot (kG (dR J J (fun h10=>?_) (fun h10=>?_)))))))))))))
       ·refine bK J J J (kM J (V0 (V0 (V0 (V0 (V0 (V0 (V0 (V0 (V0 (cA J J J (Q0 (Y0 J (rS (kM J (Q0 (V2 (W3 (aO J ⟨congrArg (Value.int .i64) ?_,rfl⟩)))))))))))))))))))
        first
         |exact(if_pos ⟨oM,oM,oM,oM,by first|assumption|exact eD aM aM oM oM⟩).symm
         |exact(if_neg (fun h=>by
          obtain⟨q1,q2,q3,q4,q5⟩:=h
          first
           |omega
           |contradiction
           |(rw[eL aM] at q5;cases q5)
           |(rw[eM aM] at q5;cases q5)
           |(rw[dX oM] at q5;cases q5)
           |(rw[dC oM] at q5;cases q5))).symm
       ·refine bK J J J (kM J (kG (Q2 J (kG (Y1 J .here rfl (kG (Q2 J (kG (Y1 J .here rfl (kG (oH J hl2.spot ?_)))))))))))
        have hq2:=(Cu dE (by assumption:gJ 9 100000 l2=true)).h2;refine kG (bN J J oM (kG (Q7 (j:=l2.length-1) hl2 rfl rfl oM sM oM (fun _ _ a99=>(kG (W6 J (hl2.at a99 oM) (kG (dR J J (fun h12=>?_) (fun h12=>?_)))))))))
        ·refine bK J J J (Q0 (Y0 J (rS (kM J (Q0 (V2 (W3 (aO J ⟨congrArg (Value.int .i64) ?_,rfl⟩))))))))
         first
          |exact(if_pos ⟨oM,oM,oM,oM,by first|assumption|exact eD aM aM oM oM⟩).symm
          |exact(if_neg (fun h=>by
           obtain⟨q1,q2,q3,q4,q5⟩:=h
           first
            |omega
            |contradiction
            |(rw[eL aM] at q5;cases q5)
            |(rw[eM aM] at q5;cases q5)
            |(rw[dX oM] at q5;cases q5)
            |(rw[dC oM] at q5;cases q5))).symm
        ·refine bK J J J (Q0 (U0 J (Q1 (W0 (rS (kM J (Q0 (V2 (aO J ⟨congrArg (Value.int .i64) ?_,rfl⟩)))))))))
         first
          |exact(if_pos ⟨oM,oM,oM,oM,by first|assumption|exact eD aM aM oM oM⟩).symm
          |exact(if_neg (fun h=>by
           obtain⟨q1,q2,q3,q4,q5⟩:=h
           first
            |omega
            |contradiction
            |(rw[eL aM] at q5;cases q5)
            |(rw[eM aM] at q5;cases q5)
            |(rw[dX oM] at q5;cases q5)
            |(rw[dC oM] at q5;cases q5))).symm
      ·refine kG (V3 J J (fun _=>(bK J J J (kM J (V0 (V0 (V0 (V0 (cA J J J (kM J (V0 (V0 (V0 (V0 (V0 (V0 (V0 (V0 (V0 (cA J J J (Q0 (Y0 J (rS (kM J (Q0 ?_)))))))))))))))))))))))) (fun h=>absurd h dE))
       refine V2 (W3 (aO J ⟨congrArg (Value.int .i64) ?_,rfl⟩))
       first
        |exact(if_pos ⟨oM,oM,oM,oM,by first|assumption|exact eD aM aM oM oM⟩).symm
        |exact(if_neg (fun h=>by
         obtain⟨q1,q2,q3,q4,q5⟩:=h
         first
          |omega
          |contradiction
          |(rw[eL aM] at q5;cases q5)
          |(rw[eM aM] at q5;cases q5)
          |(rw[dX oM] at q5;cases q5)
          |(rw[dC oM] at q5;cases q5))).symm
     ·refine kO (V3 J J (fun _=>(kM J (V0 (V0 (V0 (V0 (cA J J J (kM J (V0 (V0 (V0 (V0 (cA J J J (kM J (V0 (V0 (V0 (V0 (V0 (V0 (V0 (V0 (V0 (cA J J J ?_)))))))))))))))))))))))) (fun h=>absurd h dE))
      refine Q0 (Y0 J (rS (kM J (Q0 (V2 (W3 (aO J ⟨congrArg (Value.int .i64) ?_,rfl⟩)))))))
      first
       |exact(if_pos ⟨oM,oM,oM,oM,by first|assumption|exact eD aM aM oM oM⟩).symm
       |exact(if_neg (fun h=>by
        obtain⟨q1,q2,q3,q4,q5⟩:=h
        first
         |omega
         |contradiction
         |(rw[eL aM] at q5;cases q5)
         |(rw[eM aM] at q5;cases q5)
         |(rw[dX oM] at q5;cases q5)
         |(rw[dC oM] at q5;cases q5))).symm
    ·refine kG (U6 J (bK J J J (Q0 (Y0 J (rS (kM J (Q0 (V2 (W3 (aO J ⟨congrArg (Value.int .i64) ?_,rfl⟩))))))))))
     first
      |exact(if_pos ⟨oM,oM,oM,oM,by first|assumption|exact eD aM aM oM oM⟩).symm
      |exact(if_neg (fun h=>by
       obtain⟨q1,q2,q3,q4,q5⟩:=h
       first
        |omega
        |contradiction
        |(rw[eL aM] at q5;cases q5)
        |(rw[eM aM] at q5;cases q5)
        |(rw[dX oM] at q5;cases q5)
        |(rw[dC oM] at q5;cases q5))).symm
   ·refine kG (U6 J (bK J J J (kM J (V0 (V0 (V0 (V0 (V0 (cA J J J (Q0 (Y0 J (rS (kM J (Q0 (V2 (W3 (aO J ⟨congrArg (Value.int .i64) ?_,rfl⟩)))))))))))))))))
    first
     |exact(if_pos ⟨oM,oM,oM,oM,by first|assumption|exact eD aM aM oM oM⟩).symm
     |exact(if_neg (fun h=>by
      obtain⟨q1,q2,q3,q4,q5⟩:=h
      first
       |omega
       |contradiction
       |(rw[eL aM] at q5;cases q5)
       |(rw[eM aM] at q5;cases q5)
       |(rw[dX oM] at q5;cases q5)
       |(rw[dC oM] at q5;cases q5))).symm
  ·refine kG (U6 J (bK J J J (kM J (V0 (V0 (V0 (V0 (V0 (cA J J J (kM J (V0 (V0 (V0 (V0 (V0 (cA J J J (Q0 (Y0 J (rS (kM J (Q0 (V2 (W3 (aO J ⟨congrArg (Value.int .i64) ?_,rfl⟩))))))))))))))))))))))))
   first
    |exact(if_pos ⟨oM,oM,oM,oM,by first|assumption|exact eD aM aM oM oM⟩).symm
    |exact(if_neg (fun h=>by
     obtain⟨q1,q2,q3,q4,q5⟩:=h
     first
      |omega
      |contradiction
      |(rw[eL aM] at q5;cases q5)
      |(rw[eM aM] at q5;cases q5)
      |(rw[dX oM] at q5;cases q5)
      |(rw[dC oM] at q5;cases q5))).symm
 ·refine eP J (kM J (V0 (V0 (V0 (V0 (cA J J J (kM J (V0 (V0 (V0 (V0 (V0 (cA J J J (kM J (V0 (V0 (V0 (V0 (V0 (cA J J J (Q0 (Y0 J (rS ?_)))))))))))))))))))))))
  refine kM J (Q0 (V2 (W3 (aO J ⟨congrArg (Value.int .i64) ?_,rfl⟩))))
  first
   |exact(if_pos ⟨oM,oM,oM,oM,by first|assumption|exact eD aM aM oM oM⟩).symm
   |exact(if_neg (fun h=>by
    obtain⟨q1,q2,q3,q4,q5⟩:=h
    first
     |omega
     |contradiction
     |(rw[eL aM] at q5;cases q5)
     |(rw[eM aM] at q5;cases q5)
     |(rw[dX oM] at q5;cases q5)
     |(rw[dC oM] at q5;cases q5))).symm
theorem DE(n:Nat)(d r al up:Int)(a1 a2:Option Addr)(c1 c2:Nat)(l1 l2:List Int)(x y:Int)(s:St)(hs:Wf s)(hn:281474976710656<=n)(hl1:aN s a1 l1)(hl2:aN s a2 l2):bX Tryz.prog (bZ cB) X (n+60) 46 [.agg ⟨[.int .i64 d,.int .i64 r,.slice a1 l1.length c1,.slice a2 l2.length c2,.int .i64 al,.int .i64 up]⟩,.int .i64 x,.int .i64 y] s (fun v A=>v = .bool (decide ((0<=x/\x<=(l1.length:Int)-1)/\(0<=y/\y<=(l2.length:Int)-1)))/\A=[]):=by
 refine enter OT rfl hs ?_;unfold Nt;have hlen1:=hl1.len;have hlen2:=hl2.len;refine rS (aZ J J J (fun b1=>(kM J (Q0 (rS (kM J (aH J (aL J .here rfl (aJ J hl1.spot (kO (bN J J oM (kO (bB J J (fun s1 h1=>iE _ _ _ _ s1 h1.wf) (fun h2=>?_) (fun h2=>?_))))))))))))))
 ·refine kM J (kG (U2 J (kG (Q2 J (kG (Y1 J .here rfl (kG (oH J hl2.spot (kG (bN J J oM (kG (bB J J (fun s1 h1=>iE _ _ _ _ s1 h1.wf) (fun h3=>?_) (fun h3=>?_)))))))))))))
  ·refine cA J J J (kM J (Q0 (V2 (aO J ⟨congrArg Value.bool ?_,rfl⟩))))
   first|exact(decide_eq_true ⟨oM,oM⟩).symm|exact(decide_eq_false (fun h=>oM)).symm
  ·refine cA J J J (kM J (Q0 (V2 (aO J ⟨congrArg Value.bool ?_,rfl⟩))))
   first|exact(decide_eq_true ⟨oM,oM⟩).symm|exact(decide_eq_false (fun h=>oM)).symm
 ·refine kM J (V0 (V0 (V0 (V0 (V0 (V0 (bK J J J (kM J (Q0 (V2 (aO J ⟨congrArg Value.bool ?_,rfl⟩)))))))))))
  first|exact(decide_eq_true ⟨oM,oM⟩).symm|exact(decide_eq_false (fun h=>oM)).symm
theorem H3(n:Nat)(a:Option Addr)(cap:Nat)(l:List Int)(s:St)(hs:Wf s)(hn:844424930131968<=n)(hl:aN s a l)(hp:tP 9 100000 l):bX Tryz.prog (bZ cB) X (n+1000) 206 [.slice a l.length cap] s (fun v A=>∃b,v = .tuple #[.slice (some ⟨b,0,none⟩) l.length l.length,.int .i64 0]/\A=[.row b 3 false (ints (fG l))]):=by
 refine enter Lb rfl hs ?_;unfold GJ;have hlen:=hl.len;refine rS (kM J (kM J (Q0 (rQ (rS (kM J (kO (iQ J J (fun s1 h1=>oJ _ _ _ _ s1 h1.wf oM (hl.ext hs h1.2.1)) (fun h1=>?_) (fun h1=>?_)))))))))
 ·refine kM J (Q0 (rS (kM J (kO (V3 J J (fun h=>absurd h dE) (fun _=>(Q0 (U0 J (Q1 (W0 (rS (kM J (kO (Z4 J J (fun s1 h1=>rW _ _ _ _ s1 h1.wf oM (hl.ext hs h1.2.1) hp) (fun v1 A1 q1=>?_)))))))))))))))
  obtain⟨b3,rfl,rfl⟩:=q1;refine kM J (kM J (Q0 (V2 ?_)));exact kE J J (.q .slnil) ⟨b3,rfl,rfl⟩
 ·refine kM J (Q0 (rS (kM J (kO (V3 J J (fun _=>(Q0 (Y0 J (rS (kM J (kM J (kM J (Q0 (V2 (W3 ?_)))))))))) (fun h=>absurd h dE))))))
  exfalso;exact absurd (yV hp) aM
theorem AE(n:Nat)(a:Option Addr)(cap:Nat)(l:List Int)(s:St)(hs:Wf s)(hn:844424930131968<=n)(hl:aN s a l)(hp:tP 9 100000 l):bX Tryz.prog (bZ cB) X (n+1000) 123 [.slice a l.length cap] s (fun v A=>∃b,v = .tuple #[.slice (some ⟨b,0,none⟩) l.length l.length,.int .i64 0]/\A=[.row b 3 false (ints (fG l))]):=by
 refine enter KA rfl hs ?_;unfold F9;have hlen:=hl.len;refine rS (kM J (kM J (Q0 (rQ (rS (kM J (kO (iQ J J (fun s1 h1=>nH _ _ _ _ s1 h1.wf oM (hl.ext hs h1.2.1)) (fun h1=>?_) (fun h1=>?_)))))))))
 ·refine kO (V3 J J (fun h=>absurd h dE) (fun _=>(Q0 (U0 J (Q1 (W0 (rS (kM J (kO (Z4 J J (fun s1 h1=>tQ _ _ _ _ s1 h1.wf oM (hl.ext hs h1.2.1) hp) (fun v1 A1 q1=>?_)))))))))))
  obtain⟨b3,rfl,rfl⟩:=q1;refine kM J (Q0 (rS (kM J (kM J (kM J (Q0 (V2 ?_)))))));exact kE J J (.q .slnil) ⟨b3,rfl,rfl⟩
 ·refine kO (V3 J J (fun _=>(Q0 (Y0 J (rS (kM J (kM J (Q0 (V2 (W3 ?_))))))))) (fun h=>absurd h dE))
  exfalso;exact absurd (yV hp) aM
theorem lH(n:Nat)(a:Option Addr)(cap:Nat)(l:List Int)(s:St)(hs:Wf s)(hn:844424930131968<=n)(hl:aN s a l)(hp:tP 9 100000 l):bX Tryz.prog (bZ cB) X (n+1100) 190 [.slice a l.length cap] s (fun v A=>∃b,v = .slice (some ⟨b,0,none⟩) l.length l.length/\A=[.row b 3 false (ints (fG l))]):=by
 refine enter K4 rfl hs ?_;unfold GC;have hlen:=hl.len;refine rS (kM J (Q0 (rS (kM J (kO (Z4 J J (fun s1 h1=>H3 _ _ _ _ s1 h1.wf oM (hl.ext hs h1.2.1) hp) (fun v1 A1 q1=>?_)))))));obtain⟨b1,rfl,rfl⟩:=q1;refine kM J (eK J J (eK J J (kM J (kM J (Q0 (rS (kM J (kM J (Q0 (V2 ?_))))))))));exact gH J (.q .slnil) ⟨b1,rfl,rfl⟩
theorem wR(n:Nat)(x:Nat)(s:St)(hs:Wf s)(hx:x<100):bX Tryz.prog (bZ cB) X (n+60) 191 [.int .i64 (x:Int)] s (fun v A=>∃b,v = .slice (some ⟨b,0,none⟩) (x+1) (x+1)/\A=[.row b 3 false (ints ((List.replicate (x+1) 0).set x 1))]):=by
 refine enter K5 rfl hs ?_;unfold GD;refine rS (kM J (Q0 (rS (kM J (aX J J oM (kO (oI (m:=x+1) (c:=x+1) J J oM oM oM (fun b1=>(kM J (Q0 (rS (kM J (kM J (cN (j:=x) J J oM oM (kZ (W7 J J .here (by first|omega|(simp;done)|(simp[cI];omega)|(simp;omega)) (Q0 (rS (kM J (kM J (Q0 (V2 ?_))))))))))))))))))))));exact gH J (.q .slnil) ⟨b1,rfl,rfl⟩
end
end Ev
end Go.Proofs.YtjkdkpckjgaplaaGreat
namespace Go.Proofs.YtjkdkpckjgaplaaGreat.Ev
open Go Go.RowKit
noncomputable section
variable{i b n c:Nat}{v:Value}{P:Program}{m:Mp}
def Cx:Go.Obj->Bool
 | .cells _ _ _=>true
 |_=>false
def Mv(W:World):Mp:=fun i=>match W.heap[i]? with
 |some o=>if Cx o then some (i,0) else none
 |none=>none
def G1:Value->Option Value
 | .slice (some _) 0 _=>some (.slice (some ⟨0,0,none⟩) 0 (OPEN+1))
 |_=>none
open Classical in
def G2(W:World):Go.Obj->eW
 | .cells cs _ _=> .rom (fun j=>match cs[j]? with|some v=>if VR (Mv W) v v/\oneCell v=true then some v else G1 v|none=>none)
 |_=> .dead
def Bk(W:World):St:=⟨BT.ofList (W.heap.toList.map (G2 W)),W.heap.size⟩
theorem xU{α:Type}(l:List α):eE (BT.ofList l) l.length:=by
 have:=BH (l:=l) (t:=(.leaf:BT α)) (n:=0) (by simp[eE]);rw[Nat.zero_add] at this;exact this
theorem H4{α:Type}{l:List α}{v:α}(h:l[i]? = some v):(BT.ofList l).get i=some v:=by
 have hi:i<l.length:=(List.getElem?_eq_some_iff.1 h).1;obtain⟨u,hu⟩:=Option.isSome_iff_exists.1 ((xU l).some i hi);have:=pV hu;rw[h] at this;cases this;exact hu
theorem RH(W:World):Wf (Bk W):=by
 have:=xU (W.heap.toList.map (G2 W));simpa [Bk,Wf] using this
theorem E3{W:World}{o:Go.Obj}(h:W.heap[b]? = some o):(Bk W).h.get b=some (G2 W o):=by
 refine H4 ?_;rw[List.getElem?_map];have:W.heap.toList[b]? = some o:=by simpa using h
 rw[this];rfl
theorem yW{W:World}{i x y:Nat}(h:Mv W i=some (x,y)):x=i/\∃cs e fr,W.heap[i]? = some (.cells cs e fr):=by
 unfold Mv at h;split at h
 ·rename_i o ho
  cases o with
  |cells cs e fr=>simp[Cx] at h;exact⟨h.1.symm,cs,e,fr,ho⟩
  |_=>simp[Cx] at h
 ·cases h
theorem RI{W:World}{cs:Array Value}{e:Nat}{fr:Nat×Nat}(h:W.heap[i]? = some (.cells cs e fr)):Mv W i=some (i,0):=by
 unfold Mv;rw[h];rfl
theorem H5(P:Program)(W:World):dO P (fun _=>none) W.heap.size (Mv W) (Bk W) W:=by
 refine⟨fun i x y hi=>?_,fun i p hi=>?_,fun i x y o hi ho=>?_,fun i j x y y' hi hj hij hB=>?_,Nat.le_refl _,fun i o h=>by cases h⟩
 ·obtain⟨rfl,cs,e,fr,h⟩:=yW hi
  exact⟨.inr ⟨_,E3 h⟩,(Array.getElem?_eq_some_iff.1 h).1⟩
 ·obtain⟨x,y⟩:=p
  obtain⟨_,cs,e,fr,h⟩:=yW hi;exact(Array.getElem?_eq_some_iff.1 h).1
 ·obtain⟨rfl,cs,e,fr,h⟩:=yW hi
  have h1:=E3 h;rw[ho] at h1;have h2:o=G2 W (.cells cs e fr):=Option.some.inj h1;subst h2;refine⟨_,h,cs,e,fr,rfl,fun j v hj=>?_⟩;dsimp only at hj;split at hj
  ·rename_i u hu
   split at hj
   ·rename_i hc
    cases hj;exact⟨hc.2,_,hu,hc.1⟩
   ·unfold G1 at hj
    split at hj
    ·cases hj
     refine⟨rfl,_,hu,?_⟩;simp only[VR];refine⟨trivial,?_⟩;rw[if_neg oM,if_neg oM];exact⟨_,_,rfl⟩
    ·cases hj
  ·cases hj
 ·obtain⟨rfl,cs,e,fr,h⟩:=yW hi
  have:=(Array.getElem?_eq_some_iff.1 h).1;omega
theorem Lq{W:World}{b o:Nat}(h:W.cell? ⟨b,o,none⟩=some v)(hv:VR (Mv W) v v)(h1:oneCell v=true):At (Bk W) b o v:=by
 have hb:∃cs e fr,W.heap[b]? = some (.cells cs e fr)/\cs[o]? = some v:=by
  unfold World.cell? at h;dsimp only at h;split at h
  ·rename_i cs e fr hh;exact⟨cs,e,fr,by first|exact hh|exact hh.1,h⟩
  ·cases h
 obtain⟨cs,e,fr,h2,h3⟩:=hb;refine⟨_,.inr (E3 h2),?_⟩;simp[h3,hv,h1]
theorem dO.below{K:Kp}{B:Nat}{s:St}{w w':World}(E:dO P K B m s w)(h:Below w.heap.size w w'):dO P K B m s w':=by
 have hs:w.heap.size<=w'.heap.size:=h.size;refine⟨fun i x y hi=>⟨(E.low i x y hi).1,Nat.lt_of_lt_of_le (E.low i x y hi).2 hs⟩,E.old,fun i x y o hi ho=>?_,E.inj,Nat.le_trans E.base hs,E.kept⟩;obtain⟨o',h1,h2⟩:=E.obj i x y o hi ho;exact⟨o',(h.block x (E.low i x y hi).2).trans h1,h2⟩
def tR(g:Nat):FuncId->List Value->St->(Value->St->Bool)->Bool:=fun f vs s k=>Nat.beq f g && (match vs with | []=>true|_=>false) && k (.bool true) s
theorem Lr{g:Nat}{c:CF}(hc:compF P g=some c)(h:∀w,Calls P g #[] w fun e w'=>e = .returned (.bool true)/\Below w.heap.size w w'):yO P (tR g):=by
 intro K B f vs s k hk m w us E hv;unfold tR at hk;simp only[Bool.and_eq_true] at hk;obtain⟨⟨h1,h2⟩,h3⟩:=hk;have hf:f=g:=by simpa using h1
 subst hf;cases vs with
 |cons v l=>cases h2
 |nil=>
  have:us=[]:=by simpa only[LR] using hv
  subst this;obtain⟨fn,cd,r,e1,e2,e3,e4,_⟩:=BA hc;refine⟨fun w=>?_,CallsIn.mono ((callsIn_wide (n:=0)).2 (h w)) (fun e w' he=>?_)⟩
  ·have h4':¬fn.name = "runtime.NumGoroutine":=by simpa using e4
   simp[callFunc,e1,e2,h4']
  ·obtain⟨rfl,hb⟩:=he
   exact⟨.bool true,s,m,h3,Mp.le_refl m,E.below hb,hb.mono E.base,by simp only[VR]⟩
theorem Pu{C:Nat->(CF->Bool)->Bool}{g:Nat}(n:Nat)(s:St)(hs:Wf s):bX P C (tR g) n g [] s (fun v A=>v = .bool true/\A=[]):=by
 intro k hk;have h1:tR g g [] s k=true:=by
  unfold tR;rw[hk _ s ⟨[],iP.start hs,rfl,rfl⟩,show Nat.beq g g=true from by rw[Nat.beq_eq]];rfl
 cases n with
 |zero=>exact h1
 |succ n=>
  show(tR g g [] s k || _)=true;rw[h1];rfl
theorem Ls{t:BT (Option CF)}(h:xK P t 0 1){X:FuncId->List Value->St->(Value->St->Bool)->Bool}(hX:yO P X){f:FuncId}{vs us:List Value}{W:World}(hs:bX P (bZ t) X n f vs (Bk W) (fun v A=>v = .bool true/\A=[]))(hv:LR (Mv W) vs us) :
 Calls P f ⟨us⟩ W (fun e w'=>e = .returned (.bool true)/\Below W.heap.size W w'):=by
 refine Calls.mono (M4 h hX (k:=fun v _=>Io v) (hs _ (fun v s' hq=>by obtain⟨A,_,rfl,_⟩:=hq;rfl)) (H5 P W) hv) (fun e w' he=>?_);obtain⟨u,rfl,h1,v,s',m',h2,_,_,h3⟩:=he;obtain⟨b,rfl,h4⟩:=pU (k:=fun b=>b) h2;have hb:b=true:=h4;subst hb;have:u = .bool true:=by simpa only[VR] using h3
 exact⟨by rw[this],h1⟩
/-! What the row lets in stands for itself. -/
theorem VR.int(k:IntKind)(n:Int):VR m (.int k n) (.int k n):=by simp only[VR]
theorem VR.slice0:VR m (.slice none 0 0) (.slice none 0 0):=by simp only[VR];exact⟨dE,trivial⟩
theorem VR.slice1{W:World}{b o n c:Nat}{cs:Array Value}{e:Nat}{fr:Nat×Nat}(h:W.heap[b]? = some (.cells cs e fr))(hc:c<OPEN):VR (Mv W) (.slice (some ⟨b,o,none⟩) n c) (.slice (some ⟨b,o,none⟩) n c):=by
 simp only[VR];refine⟨trivial,?_⟩;rw[if_pos hc];exact⟨b,0,RI h,rfl⟩
theorem VR.agg{l l':List Value}(h:LR m l l'):VR m (.agg ⟨l⟩) (.agg ⟨l'⟩):=by
 simp only[VR,AR];exact⟨_,rfl,l',rfl,h⟩
theorem LR.nil:LR m [] []:=by simp only[LR]
theorem LR.cons{v v':Value}{l l':List Value}(h:VR m v v')(hl:LR m l l'):LR m (v::l) (v'::l'):=by
 simp only[LR];exact⟨v',l',rfl,h,hl⟩
def NiceS(W:World)(a:Option Addr)(n c:Nat):Prop:=(a=none/\n=0/\c=0)∨∃b o cs e fr,a=some ⟨b,o,none⟩/\W.heap[b]? = some (.cells cs e fr)/\c<OPEN
theorem NiceS.vr{W:World}{a:Option Addr}(h:NiceS W a n c):VR (Mv W) (.slice a n c) (.slice a n c):=by
 rcases h with ⟨rfl,rfl,rfl⟩|⟨b,o,cs,e,fr,rfl,h,hc⟩
 ·exact VR.slice0
 ·exact VR.slice1 h hc
theorem NiceS.spot{W:World}{a:Option Addr}(h:NiceS W a n c):∀b,a=some b->b.spot=none:=by
 rcases h with ⟨rfl,rfl,rfl⟩|⟨b,o,cs,e,fr,rfl,h,hc⟩
 ·intro b hb;cases hb
 ·intro b hb;cases hb;rfl
theorem nI{W:World}{r:Reach}{b0:Nat}{t e:TypeId}(ht:P.underlying t=some (.slice e))(h:Cell.okWide P W r b0 t v):∃a n c,v = .slice a n c/\NiceS W a n c:=by
 simp only[Cell.okWide,ht] at h;unfold Cell.ok at h;rw[ht] at h;split at h
 all_goals first
  |exact absurd h id
  |(rename_i h1;cases h1;done)
  |exact⟨_,_,_,rfl,.inl ⟨rfl,rfl,rfl⟩⟩
  |skip
 all_goals first
  |(
   rename_i a len cap _;obtain⟨h1,h2,_,hs,row,cells,h3,_⟩:=h
   refine⟨_,_,_,rfl,.inr ?_⟩;obtain⟨b,o,spot⟩:=a;have hs':spot=none:=hs;subst hs';unfold World.shape? at h3;split at h3
   ·rename_i cs e' fr hh
    exact⟨b,o,_,_,_,rfl,hh,by simp[IntKind.max,IntKind.signed,IntKind.bits] at h2;unfold OPEN;omega⟩
   ·cases h3)
  |simp_all
end
end Go.Proofs.YtjkdkpckjgaplaaGreat.Ev
namespace Go.Proofs.YtjkdkpckjgaplaaGreat.Ev
open Go Go.RowKit Go.ChangeShapes Go.WideShapes Go.ChangeAt Go.Joins
set_option linter.unusedVariables false
noncomputable section
variable{H:Type}{P:Program}{enc:TypeId×Value->H}{t:Nat}
def I64(z:Int):Prop:=-9223372036854775808<=z/\z<9223372036854775808
theorem oL{n:Int}(h:(Lit.int .i64 n).wf=true):I64 n:=by
 simp[Lit.wf,IntKind.min,IntKind.max,IntKind.signed,IntKind.bits] at h;unfold I64;omega
theorem xV:∀{ts:List TypeId} {ds:List (DataW H)} (_:(DataW.weightsEach P ts ds).all (·<=reachBytes)=true) {j:Nat} {t:TypeId} {d:DataW H} (_:ts[j]? = some t) (_:ds[j]? = some d),∀x∈DataW.weights P t d,x<=reachBytes:=by
 intro ts ds h j t d ht hd x hx;have:=List.all_eq_true.1 h x (DataW.weights_mem_each ht hd x hx);simpa using this
theorem BP(b o k:Nat):(⟨b,o,none⟩:Addr).add k=⟨b,o+k,none⟩:=by
 unfold Addr.add;by_cases h:k=0
 ·subst h;simp
 ·simp[h]
def nJ(H:Type)(P:Program)(enc:TypeId×Value->H)(W:World)(e w:Nat):Prop:=
 ∀{base fuel:Nat} {sp:Nat->Bool} {held:Bool} {cs:List Value} {x:DataW H×List MemPlace},DataW.trod enc P W base sp held fuel e cs=some x->∃l:List Int,cs=l.map (.int .i64)/\l.length=w/\∀z∈l,I64 z
theorem dS{W:World}(ht:P.underlying t=some (.int .i64)):nJ H P enc W t 1:=by
 intro base fuel sp held cs x h;obtain⟨z,e,_,w⟩:=DataW.trod_int ht h;exact⟨[z],by simpa using e,rfl,by intro y hy;rw[List.mem_singleton.1 hy];exact oL w⟩
theorem yE{W:World}{fs:Array Field}{ws:List Nat}(ht:P.underlying t=some (.struct fs))(hn:P.cellsOf t=ws.sum)(hf:∀i f,fs[i]? = some f->∃w,ws[i]? = some w/\P.cellsOf f.type=w/\f.offset=(ws.take i).sum/\nJ H P enc W f.type w)(hl:fs.size=ws.length):nJ H P enc W t ws.sum:=by
 intro base fuel sp held cs x h;obtain⟨xs,n,_,rfl,hcl,hlen,hfs⟩:=DataW.trod_struct ht h;rw[hn] at hcl;have key:∀(k:Nat),k<=ws.length->∃l:List Int,cs.take (ws.take k).sum=l.map (.int .i64)/\l.length=(ws.take k).sum/\∀z∈l,I64 z:=by
  intro k
  induction k with
  |zero=>intro _;exact⟨[],sM,rfl,sM⟩
  |succ k ih=>
   intro hk;obtain⟨l,h1,h2,h3⟩:=ih oM;have hkf:k<fs.size:=oM
   obtain⟨w,e1,e2,e3,e4⟩:=hf k fs[k] (Array.getElem?_eq_getElem hkf);have hx:∃y,xs[k]? = some y:=⟨xs[k]'(by rw[hlen];simpa using hkf),List.getElem?_eq_getElem _⟩;obtain⟨y,hy⟩:=hx;have h4:=hfs k fs[k] sM;have h4':DataW.trod enc P W base sp held n fs[k].type ((cs.drop fs[k].offset).take (P.cellsOf fs[k].type))=some y:=by
    first
     |(obtain⟨y',h5,h6⟩:=h4;rw[hy] at h5;cases h5;exact h6)
     |(rw[h4];exact hy)
     |(rw[hy] at h4;exact h4)
   obtain⟨l',g1,g2,g3⟩:=e4 h4';rw[e2,e3] at g1;have hsum:(ws.take (k+1)).sum=(ws.take k).sum+w:=by
    rw[List.take_add_one,e1];simp
   refine⟨l++l',?_,by rw[List.length_append,h2,g2,hsum],?_⟩
   ·rw[hsum,List.take_add,h1,g1,List.map_append]
   ·intro z hz
    rcases List.mem_append.1 hz with hz|hz
    ·exact h3 z hz
    ·exact g3 z hz
 obtain⟨l,h1,h2,h3⟩:=key ws.length (Nat.le_refl _);rw[List.take_length] at h1 h2;rw[List.take_of_length_le oM] at h1;exact⟨l,h1,h2,h3⟩
theorem BQ{W:World}{b:Nat}:∀{r:List Int} {o:Nat},(∀j,j<r.length->W.cell? ⟨b,o+j,none⟩=(r.map (Value.int .i64))[j]?)->pK (Bk W) b o (r.map (Value.int .i64))
 |[],_,_=>trivial
 |z::r,o,h=>⟨Lq (by simpa using h 0 sM) (VR.int _ _) rfl,BQ (fun j hj=>by have:=h (j+1) (by simp;omega);simpa [Nat.add_assoc,Nat.add_comm 1 j] using this)⟩
theorem DF{W:World}{t e w bytes:Nat}(ht:P.underlying t=some (.slice e))(hc:P.cellsOf e=w)(hw:0<w)(hby:P.bytesOf e=bytes)(hb:2<=bytes)(hi:nJ H P enc W e w){a:Option Addr}{n cap fuel:Nat}(hv:NiceS W a n cap){d:DataW H}{p:List MemPlace}
 (hf:DataW.trod enc P W 0 (fun _=>true) true fuel t [.slice a n cap]=some (d,p)) (hz:∀x∈DataW.weights P t d,x<=reachBytes):∃rs:List (List Int),rs.length=n/\RowsE (Bk W) w a rs/\rs.length*bytes<=140737488355328:=by
 rcases Go.Deep.open_slice ht hf with ⟨hcs,_⟩|⟨a',l,c,m,fu,D,Pl,hcs,_,hl,hm,hmm,hd,hel⟩
 ·simp at hcs
  obtain⟨rfl,rfl,rfl⟩:=hcs;exact⟨[],rfl,⟨hv.spot,fun h=>absurd rfl h,fun _ _ h=>(by cases h),sM,sM,sM⟩,sM⟩
 ·simp at hcs
  obtain⟨rfl,rfl,rfl⟩:=hcs;have hml:n<=m:=by rw[hmm];split <;> omega
  have hch:∀i,∃y:List Int,i<n->(y.length=w/\∀z∈y,I64 z)/\∀r,r<w->W.cell? ((a'.add (i*w)).add r)=(y.map (Value.int .i64))[r]?:=by
   intro i;by_cases hin:i<n
   ·obtain⟨cs',h1,h2⟩:=hel i oM
    obtain⟨y,rfl,hy,hz⟩:=hi h2;rw[hc] at h1;obtain⟨_,_,h3⟩:=World.cells?_some h1;exact⟨y,fun _=>⟨⟨hy,hz⟩,h3⟩⟩
   ·exact⟨[],fun h=>absurd h hin⟩
  obtain⟨Y,hY⟩:∃Y:Nat->List Int,∀i,i<n->((Y i).length=w/\∀z∈Y i,I64 z)/\∀r,r<w->W.cell? ((a'.add (i*w)).add r)=((Y i).map (Value.int .i64))[r]?:=⟨fun i=>(hch i).choose,fun i=>(hch i).choose_spec⟩;have hsp:=hv.spot a' rfl;obtain⟨b,off,spot⟩:=a';have hsp':spot=none:=hsp;subst hsp';have hbytes:n*bytes<=140737488355328:=by
   simp only[Prod.mk.injEq] at hd;obtain⟨rfl,_⟩:=hd;have:=hz _ (by simp only[DataW.weights,ht];exact List.mem_cons_self);rw[hby] at this;simp only[List.length_map,List.length_range,reachBytes] at this;have e1:n+(m-n)=m:=oM
   rw[e1] at this;exact Nat.le_trans (Nat.mul_le_mul_right _ hml) oM
  refine⟨(List.range n).map Y,sM,⟨hv.spot,fun _=>⟨b,off,rfl⟩,?_,?_,?_,?_⟩,by simpa using hbytes⟩
  ·intro b' o' hbo i r hr
   cases hbo;rw[List.getElem?_map] at hr;obtain⟨i',h1,rfl⟩:=Option.map_eq_some_iff.1 hr;obtain⟨h2,h3⟩:=List.getElem?_eq_some_iff.1 h1;simp at h2 h3;subst h3;refine BQ (fun j hj=>?_);have:=(hY i h2).2 j (by rw[<-(hY i h2).1.1];exact hj);rw[BP,BP] at this;exact this
  ·intro r hr
   obtain⟨i,hi',rfl⟩:=List.mem_map.1 hr;exact(hY i (List.mem_range.1 hi')).1.1
  ·intro r hr x hx
   obtain⟨i,hi',rfl⟩:=List.mem_map.1 hr;exact(hY i (List.mem_range.1 hi')).1.2 x hx
  ·simp
   have:n*2<=n*bytes:=Nat.mul_le_mul_left _ hb;omega
end
end Go.Proofs.YtjkdkpckjgaplaaGreat.Ev
namespace Go.Proofs.YtjkdkpckjgaplaaGreat
open Go Go.RowKit
namespace Ev
variable{rs:List (List Int)}{k:Nat}{x0 x1 x2 x3 x4 x5 x6 m n:Int}
theorem I64.lo{z:Int}(h:I64 z):-9223372036854775808<=z:=h.1
theorem I64.hi{z:Int}(h:I64 z):z<9223372036854775808:=h.2
theorem RowsE.row7{s:St}{a:Option Addr}(h:RowsE s 7 a rs)(hk:k<rs.length):∃b o x0 x1 x2 x3 x4 x5 x6,a=some ⟨b,o,none⟩/\rs[k]? = some [x0,x1,x2,x3,x4,x5,x6]/\pK s b (o+k*7) [.int .i64 x0,.int .i64 x1,.int .i64 x2,.int .i64 x3,.int .i64 x4,.int .i64 x5,.int .i64 x6]/\I64 x0/\I64 x1/\I64 x2/\I64 x3/\I64 x4/\I64 x5/\I64 x6:=by
 obtain⟨b,o,r,h1,h2,h3,h4,h5⟩:=h.row hk;obtain⟨x0,r1,rfl,g1⟩:=bA h3;obtain⟨x1,r2,rfl,g2⟩:=bA g1;obtain⟨x2,r3,rfl,g3⟩:=bA g2;obtain⟨x3,r4,rfl,g4⟩:=bA g3;obtain⟨x4,r5,rfl,g5⟩:=bA g4;obtain⟨x5,r6,rfl,g6⟩:=bA g5;obtain⟨x6,r7,rfl,g7⟩:=bA g6;have:r7=[]:=List.eq_nil_of_length_eq_zero g7;subst this;exact⟨b,o,x0,x1,x2,x3,x4,x5,x6,h1,h2,h4,h5 x0 sM,h5 x1 sM,h5 x2 sM,h5 x3 sM,h5 x4 sM,h5 x5 sM,h5 x6 sM⟩
theorem RowsE.row6{s:St}{a:Option Addr}(h:RowsE s 6 a rs)(hk:k<rs.length):∃b o z0 z1 z2 z3 z4 z5,a=some ⟨b,o,none⟩/\rs[k]? = some [z0,z1,z2,z3,z4,z5]/\pK s b (o+k*6) [.int .i64 z0,.int .i64 z1,.int .i64 z2,.int .i64 z3,.int .i64 z4,.int .i64 z5]/\I64 z0/\I64 z1/\I64 z2/\I64 z3/\I64 z4/\I64 z5:=by
 obtain⟨b,o,r,h1,h2,h3,h4,h5⟩:=h.row hk;obtain⟨z0,r1,rfl,g1⟩:=bA h3;obtain⟨z1,r2,rfl,g2⟩:=bA g1;obtain⟨z2,r3,rfl,g3⟩:=bA g2;obtain⟨z3,r4,rfl,g4⟩:=bA g3;obtain⟨z4,r5,rfl,g5⟩:=bA g4;obtain⟨z5,r6,rfl,g6⟩:=bA g5;have:r6=[]:=List.eq_nil_of_length_eq_zero g6;subst this;exact⟨b,o,z0,z1,z2,z3,z4,z5,h1,h2,h4,h5 z0 sM,h5 z1 sM,h5 z2 sM,h5 z3 sM,h5 z4 sM,h5 z5 sM⟩
def pF(m:Int)(n:Int):List (List Int)->Bool
 |[]=>true
 |[x0,x1,x2,x3,x4,x5,x6]::rs=>decide ((1<=x0/\x0<=99999)/\(0<=x1/\x1<=m-1)/\(0<=x2/\x2<=n-1)/\(0<=x4/\x4<=1000)/\(0<=x3/\x3<=20000-x4)/\(1<=x5/\x5<=99)/\(0<=x6/\x6<=100000)) && pF m n rs
 |_::_=>false
theorem DG(m:Int)(n:Int)(h:rs[k]? = some [x0,x1,x2,x3,x4,x5,x6])(hi:pF m n rs=pF m n (rs.drop k)):pF m n rs=(decide ((1<=x0/\x0<=99999)/\(0<=x1/\x1<=m-1)/\(0<=x2/\x2<=n-1)/\(0<=x4/\x4<=1000)/\(0<=x3/\x3<=20000-x4)/\(1<=x5/\x5<=99)/\(0<=x6/\x6<=100000)) && pF m n (rs.drop (k+1))):=by
 obtain⟨hk,he⟩:=List.getElem?_eq_some_iff.1 h;rw[hi,List.drop_eq_getElem_cons hk,he];rfl
theorem iS(h:rs[k]? = some [x0,x1,x2,x3,x4,x5,x6])(hi:pF m n rs=pF m n (rs.drop k))(hn:¬((1<=x0/\x0<=99999)/\(0<=x1/\x1<=m-1)/\(0<=x2/\x2<=n-1)/\(0<=x4/\x4<=1000)/\(0<=x3/\x3<=20000-x4)/\(1<=x5/\x5<=99)/\(0<=x6/\x6<=100000))):pF m n rs=false:=by
 rw[DG m n h hi,decide_eq_false hn];rfl
theorem DH(h:rs[k]? = some [x0,x1,x2,x3,x4,x5,x6])(hi:pF m n rs=pF m n (rs.drop k))(hn:(1<=x0/\x0<=99999)/\(0<=x1/\x1<=m-1)/\(0<=x2/\x2<=n-1)/\(0<=x4/\x4<=1000)/\(0<=x3/\x3<=20000-x4)/\(1<=x5/\x5<=99)/\(0<=x6/\x6<=100000)):pF m n rs=pF m n (rs.drop (k+1)):=by
 rw[DG m n h hi,decide_eq_true hn];rfl
theorem G3(hi:pF m n rs=pF m n (rs.drop k))(hk:rs.length<=k):pF m n rs=true:=by
 rw[hi,List.drop_eq_nil_of_le hk];rfl
theorem mF{m:Int}{n:Int}{x0 x1 x2 x3 x4 x5 x6:Int}:∀{rs:List (List Int)} {k:Nat},pF m n rs=true->rs[k]? = some [x0,x1,x2,x3,x4,x5,x6]->(1<=x0/\x0<=99999)/\(0<=x1/\x1<=m-1)/\(0<=x2/\x2<=n-1)/\(0<=x4/\x4<=1000)/\(0<=x3/\x3<=20000-x4)/\(1<=x5/\x5<=99)/\(0<=x6/\x6<=100000)
 |[],_,_,h=>by simp at h
 |r::rs,0,h1,h=>by
  simp only[List.getElem?_cons_zero,Option.some.injEq] at h;subst h;have h2:(decide ((1<=x0/\x0<=99999)/\(0<=x1/\x1<=m-1)/\(0<=x2/\x2<=n-1)/\(0<=x4/\x4<=1000)/\(0<=x3/\x3<=20000-x4)/\(1<=x5/\x5<=99)/\(0<=x6/\x6<=100000)) && pF m n rs)=true:=h1;rw[Bool.and_eq_true] at h2;exact of_decide_eq_true h2.1
 |r::rs,k+1,h1,h=>by
  refine mF (rs:=rs) (k:=k) ?_ (by simpa using h);unfold pF at h1;split at h1
  ·rename_i h2;cases h2
  ·rename_i h2;cases h2;rw[Bool.and_eq_true] at h1;exact h1.2
  ·cases h1
def pG:List (List Int)->Bool
 |[]=>true
 |[z0,z1,z2,z3,z4,z5]::rs=>decide ((1<=z0/\z0<=99999)/\(1<=z1/\z1<=99)/\(0<=z2/\z2<=z3/\z3<=100000)/\(-1000<=z4/\z4<=z5/\z5<=1000)) && pG rs
 |_::_=>false
theorem DI  {rs:List (List Int)} {k:Nat} {z0 z1 z2 z3 z4 z5:Int} (h:rs[k]? = some [z0,z1,z2,z3,z4,z5]) (hi:pG rs=pG (rs.drop k)):pG rs=(decide ((1<=z0/\z0<=99999)/\(1<=z1/\z1<=99)/\(0<=z2/\z2<=z3/\z3<=100000)/\(-1000<=z4/\z4<=z5/\z5<=1000)) && pG (rs.drop (k+1))):=by
 obtain⟨hk,he⟩:=List.getElem?_eq_some_iff.1 h;rw[hi,List.drop_eq_getElem_cons hk,he];rfl
theorem iU  {rs:List (List Int)} {k:Nat} {z0 z1 z2 z3 z4 z5:Int} (h:rs[k]? = some [z0,z1,z2,z3,z4,z5]) (hi:pG rs=pG (rs.drop k)) (hn:¬((1<=z0/\z0<=99999)/\(1<=z1/\z1<=99)/\(0<=z2/\z2<=z3/\z3<=100000)/\(-1000<=z4/\z4<=z5/\z5<=1000))):pG rs=false:=by
 rw[DI  h hi,decide_eq_false hn];rfl
theorem DJ  {rs:List (List Int)} {k:Nat} {z0 z1 z2 z3 z4 z5:Int} (h:rs[k]? = some [z0,z1,z2,z3,z4,z5]) (hi:pG rs=pG (rs.drop k)) (hn:(1<=z0/\z0<=99999)/\(1<=z1/\z1<=99)/\(0<=z2/\z2<=z3/\z3<=100000)/\(-1000<=z4/\z4<=z5/\z5<=1000)):pG rs=pG (rs.drop (k+1)):=by
 rw[DI  h hi,decide_eq_true hn];rfl
theorem qE  {rs:List (List Int)} {k:Nat} (hi:pG rs=pG (rs.drop k)) (hk:rs.length<=k):pG rs=true:=by
 rw[hi,List.drop_eq_nil_of_le hk];rfl
theorem tS  {z0 z1 z2 z3 z4 z5:Int}:∀{rs:List (List Int)} {k:Nat},pG rs=true->rs[k]? = some [z0,z1,z2,z3,z4,z5]->(1<=z0/\z0<=99999)/\(1<=z1/\z1<=99)/\(0<=z2/\z2<=z3/\z3<=100000)/\(-1000<=z4/\z4<=z5/\z5<=1000)
 |[],_,_,h=>by simp at h
 |r::rs,0,h1,h=>by
  simp only[List.getElem?_cons_zero,Option.some.injEq] at h;subst h;have h2:(decide ((1<=z0/\z0<=99999)/\(1<=z1/\z1<=99)/\(0<=z2/\z2<=z3/\z3<=100000)/\(-1000<=z4/\z4<=z5/\z5<=1000)) && pG rs)=true:=h1;rw[Bool.and_eq_true] at h2;exact of_decide_eq_true h2.1
 |r::rs,k+1,h1,h=>by
  refine tS (rs:=rs) (k:=k) ?_ (by simpa using h);unfold pG at h1;split at h1
  ·rename_i h2;cases h2
  ·rename_i h2;cases h2;rw[Bool.and_eq_true] at h1;exact h1.2
  ·cases h1
def nK(sp:Prop)[Decidable sp](l1 l2:List Int)(rs cs:List (List Int)):Int:=
 if sp then (if 60<(rs.length:Int)∨20<(cs.length:Int) then 2 else if pF (l1.length:Int) (l2.length:Int) rs=true then (if pG cs=true then 0 else 32) else 31) else 30
section
variable{X:FuncId->List Value->St->(Value->St->Bool)->Bool}
theorem AF(n:Nat)(d r al up:Int)(a1 a2:Option Addr)(c1 c2:Nat)(l1 l2:List Int)(x0 x1 x2 x3 x4 x5 x6:Int)(s:St)(hs:Wf s)(hn:562949953421312<=n)(hl1:aN s a1 l1)(hl2:aN s a2 l2):bX Tryz.prog (bZ cB) X (n+200) 86 [.agg ⟨[.int .i64 d,.int .i64 r,.slice a1 l1.length c1,.slice a2 l2.length c2,.int .i64 al,.int .i64 up]⟩,.agg ⟨[.int .i64 x0,.int .i64 x1,.int .i64 x2,.int .i64 x3,.int .i64 x4,.int .i64 x5,.int .i64 x6]⟩] s (fun v A=>v = .int .i64 (if (1<=x0/\x0<=99999)/\(0<=x1/\x1<=(l1.length:Int)-1)/\(0<=x2/\x2<=(l2.length:Int)-1)/\(0<=x4/\x4<=1000)/\(0<=x3/\x3<=20000-x4)/\(1<=x5/\x5<=99)/\(0<=x6/\x6<=100000) then 0 else 31)/\A=[]):=by
 refine enter Pk rfl hs ?_;unfold Or;have hlen1:=hl1.len;have hlen2:=hl2.len;refine rS (aZ J J J (fun b1=>(aZ J J J (fun b2=>(kM J (Q0 (rS (aH J (aL J .here rfl (kO (bB J J (fun s1 h1=>qC _ _ s1 h1.wf) (fun h3=>?_) (fun h3=>?_))))))))))))
 ·refine kM J (kG (V4 J dE .h1 J (kG (Q2 J (kG (Y1 J .here rfl (kG (Q2 J (kG (Y1 J .here rfl (kG (bB J J (fun s1 h1=>DE _ _ _ _ _ _ _ _ _ _ _ _ _ s1 h1.wf oM (hl1.ext hs h1.2.1) (hl2.ext hs h1.2.1)) (fun h4=>?_) (fun h4=>?_)))))))))))))
  ·refine cA J J J (kM J (kG (Q2 J (kG (Y1 J .here rfl (kG (bB J J (fun s1 h1=>iE _ _ _ _ s1 h1.wf) (fun h5=>?_) (fun h5=>?_))))))))
   ·refine cA J J J (kM J (kG (Q2 J (kG (Y1 J .here rfl (kG (Q2 J (kG (Y1 J .here rfl (kG (bN J J oM (kG (bB J J (fun s1 h1=>iE _ _ _ _ s1 h1.wf) (fun h6=>?_) (fun h6=>?_))))))))))))))
    ·refine cA J J J (kM J (kG (Q2 J (kG (Y1 J .here rfl (kG (bB J J (fun s1 h1=>iE _ _ _ _ s1 h1.wf) (fun h7=>?_) (fun h7=>?_))))))))
     ·refine cA J J J (kM J (kG (Q2 J (kG (Y1 J .here rfl (kG (bB J J (fun s1 h1=>iE _ _ _ _ s1 h1.wf) (fun h8=>?_) (fun h8=>?_))))))))
      ·refine cA J J J (kM J (Q0 (rQ (rS (kM J (eP J (Q0 (U0 J (Q1 (W0 (rS (kM J (Q0 (V2 (aO J ⟨congrArg (Value.int .i64) ?_,rfl⟩)))))))))))))))
       first|exact(if_pos oM).symm|exact(if_neg oM).symm
      ·refine cA J J J (kM J (Q0 (rQ (rS (kM J (eP J (Q0 (Y0 J (rS (kM J (Q0 (V2 (W3 (aO J ⟨congrArg (Value.int .i64) ?_,rfl⟩))))))))))))))
       first|exact(if_pos oM).symm|exact(if_neg oM).symm
     ·refine cA J J J (kM J (V0 (V0 (V0 (bK J J J (kM J (Q0 (rQ (rS (kM J (eP J (Q0 (Y0 J (rS (kM J (Q0 (V2 (W3 (aO J ⟨congrArg (Value.int .i64) ?_,rfl⟩)))))))))))))))))))
      first|exact(if_pos oM).symm|exact(if_neg oM).symm
    ·refine cA J J J (kM J (V0 (V0 (V0 (bK J J J (kM J (V0 (V0 (V0 (bK J J J (kM J (Q0 (rQ (rS (kM J (eP J (Q0 (Y0 J (rS (kM J (Q0 (V2 (W3 ?_)))))))))))))))))))))))
     refine aO J ⟨congrArg (Value.int .i64) ?_,rfl⟩
     first|exact(if_pos oM).symm|exact(if_neg oM).symm
   ·refine cA J J J (kM J (V0 (V0 (V0 (V0 (V0 (V0 (bK J J J (kM J (V0 (V0 (V0 (bK J J J (kM J (V0 (V0 (V0 (bK J J J (kM J (Q0 (rQ (rS (kM J ?_)))))))))))))))))))))))
    refine eP J (Q0 (Y0 J (rS (kM J (Q0 (V2 (W3 (aO J ⟨congrArg (Value.int .i64) ?_,rfl⟩))))))))
    first|exact(if_pos oM).symm|exact(if_neg oM).symm
  ·refine cA J J J (kM J (V0 (V0 (V0 (bK J J J (kM J (V0 (V0 (V0 (V0 (V0 (V0 (bK J J J (kM J (V0 (V0 (V0 (bK J J J (kM J (V0 (V0 (V0 (bK J J J ?_)))))))))))))))))))))))
   refine kM J (Q0 (rQ (rS (kM J (eP J (Q0 (Y0 J (rS (kM J (Q0 (V2 (W3 (aO J ⟨congrArg (Value.int .i64) ?_,rfl⟩)))))))))))))
   first|exact(if_pos oM).symm|exact(if_neg oM).symm
 ·refine kM J (V0 (V0 (V0 (V0 (V0 (V0 (bK J J J (kM J (V0 (V0 (V0 (bK J J J (kM J (V0 (V0 (V0 (V0 (V0 (V0 (bK J J J (kM J (V0 (V0 ?_)))))))))))))))))))))))
  refine V0 (bK J J J (kM J (V0 (V0 (V0 (bK J J J (kM J (Q0 (rQ (rS (kM J (eP J (Q0 (Y0 J (rS (kM J (Q0 (V2 (W3 (aO J ⟨congrArg (Value.int .i64) ?_,rfl⟩))))))))))))))))))))
  first|exact(if_pos oM).symm|exact(if_neg oM).symm
theorem rX(n:Nat)(d r al up:Int)(a1 a2:Option Addr)(c1 c2:Nat)(l1 l2:List Int)(x0 x1 x2 x3 x4 x5 x6:Int)(s:St)(hs:Wf s)(hn:562949953421312<=n)(hl1:aN s a1 l1)(hl2:aN s a2 l2):bX Tryz.prog (bZ cB) X (n+200) 54 [.agg ⟨[.int .i64 d,.int .i64 r,.slice a1 l1.length c1,.slice a2 l2.length c2,.int .i64 al,.int .i64 up]⟩,.agg ⟨[.int .i64 x0,.int .i64 x1,.int .i64 x2,.int .i64 x3,.int .i64 x4,.int .i64 x5,.int .i64 x6]⟩] s (fun v A=>v = .bool (decide ((1<=x0/\x0<=99999)/\(0<=x1/\x1<=(l1.length:Int)-1)/\(0<=x2/\x2<=(l2.length:Int)-1)/\(0<=x4/\x4<=1000)/\(0<=x3/\x3<=20000-x4)/\(1<=x5/\x5<=99)/\(0<=x6/\x6<=100000)))/\A=[]):=by
 refine enter O0 rfl hs ?_;unfold NI;have hlen1:=hl1.len;have hlen2:=hl2.len;refine rS (aZ J J J (fun b1=>(aZ J J J (fun b2=>(kM J (Q0 (rS (aH J (aL J .here rfl (kO (bB J J (fun s1 h1=>sY _ _ _ _ s1 h1.wf) (fun h3=>?_) (fun h3=>?_))))))))))))
 ·refine kM J (kG (Q2 J (kG (Y1 J .here rfl (kG (Q2 J (kG (Y1 J .h1 J (kG (oH J hl1.spot (kG (bN J J oM (kG (bB J J (fun s1 h1=>sY _ _ _ _ s1 h1.wf) (fun h4=>?_) (fun h4=>?_)))))))))))))))
  ·refine cA J J J (kM J (kG (Q2 J (kG (Y1 J .here rfl (kG (Q2 J (kG (Y1 J .h1 J (kG (oH J hl2.spot (kG (bN J J oM (kG (bB J J (fun s1 h1=>sY _ _ _ _ s1 h1.wf) (fun h5=>?_) (fun h5=>?_))))))))))))))))
   ·refine cA J J J (kM J (kG (Q2 J (kG (Y1 J .here rfl (kG (bB J J (fun s1 h1=>sY _ _ _ _ s1 h1.wf) (fun h6=>?_) (fun h6=>?_))))))))
    ·refine cA J J J (kM J (kG (Q2 J (kG (Y1 J .here rfl (kG (Q2 J (kG (Y1 J .here rfl (kG (bN J J oM (kG (bB J J (fun s1 h1=>sY _ _ _ _ s1 h1.wf) (fun h7=>?_) (fun h7=>?_))))))))))))))
     ·refine cA J J J (kM J (kG (Q2 J (kG (Y1 J .here rfl (kG (bB J J (fun s1 h1=>sY _ _ _ _ s1 h1.wf) (fun h8=>?_) (fun h8=>?_))))))))
      ·refine cA J J J (kM J (kG (Q2 J (kG (Y1 J .here rfl (kG (bB J J (fun s1 h1=>sY _ _ _ _ s1 h1.wf) (fun h9=>?_) (fun h9=>?_))))))))
       ·refine cA J J J (kM J (Q0 (V2 (aO J ⟨congrArg Value.bool ?_,rfl⟩))))
        first|exact(decide_eq_true oM).symm|exact(decide_eq_false oM).symm
       ·refine cA J J J (kM J (Q0 (V2 (aO J ⟨congrArg Value.bool ?_,rfl⟩))))
        first|exact(decide_eq_true oM).symm|exact(decide_eq_false oM).symm
      ·refine cA J J J (kM J (V0 (V0 (V0 (bK J J J (kM J (Q0 (V2 (aO J ⟨congrArg Value.bool ?_,rfl⟩)))))))))
       first|exact(decide_eq_true oM).symm|exact(decide_eq_false oM).symm
     ·refine cA J J J (kM J (V0 (V0 (V0 (bK J J J (kM J (V0 (V0 (V0 (bK J J J (kM J (Q0 (V2 (aO J ⟨congrArg Value.bool ?_,rfl⟩))))))))))))))
      first|exact(decide_eq_true oM).symm|exact(decide_eq_false oM).symm
    ·refine cA J J J (kM J (V0 (V0 (V0 (V0 (V0 (V0 (bK J J J (kM J (V0 (V0 (V0 (bK J J J (kM J (V0 (V0 (V0 (bK J J J (kM J (Q0 (V2 (aO J ⟨congrArg Value.bool ?_,rfl⟩))))))))))))))))))))))
     first|exact(decide_eq_true oM).symm|exact(decide_eq_false oM).symm
   ·refine cA J J J (kM J (V0 (V0 (V0 (bK J J J (kM J (V0 (V0 (V0 (V0 (V0 (V0 (bK J J J (kM J (V0 (V0 (V0 (bK J J J (kM J (V0 (V0 (V0 (bK J J J ?_)))))))))))))))))))))))
    refine kM J (Q0 (V2 (aO J ⟨congrArg Value.bool ?_,rfl⟩)))
    first|exact(decide_eq_true oM).symm|exact(decide_eq_false oM).symm
  ·refine cA J J J (kM J (V0 (V0 (V0 (V0 (V0 (V0 (V0 (bK J J J (kM J (V0 (V0 (V0 (bK J J J (kM J (V0 (V0 (V0 (V0 (V0 (V0 (bK J J J (kM J ?_)))))))))))))))))))))))
   refine V0 (V0 (V0 (bK J J J (kM J (V0 (V0 (V0 (bK J J J (kM J (Q0 (V2 (aO J ⟨congrArg Value.bool ?_,rfl⟩))))))))))))
   first|exact(decide_eq_true oM).symm|exact(decide_eq_false oM).symm
 ·refine kM J (V0 (V0 (V0 (V0 (V0 (V0 (V0 (bK J J J (kM J (V0 (V0 (V0 (V0 (V0 (V0 (V0 (bK J J J (kM J (V0 (V0 (V0 (bK J J J (kM J ?_)))))))))))))))))))))))
  refine V0 (V0 (V0 (V0 (V0 (V0 (bK J J J (kM J (V0 (V0 (V0 (bK J J J (kM J (V0 (V0 (V0 (bK J J J (kM J (Q0 (V2 (aO J ⟨congrArg Value.bool ?_,rfl⟩))))))))))))))))))))
  first|exact(decide_eq_true oM).symm|exact(decide_eq_false oM).symm
theorem AG(n:Nat)(z0 z1 z2 z3 z4 z5:Int)(s:St)(hs:Wf s):bX Tryz.prog (bZ cB) X (n+100) 134 [.agg ⟨[.int .i64 z0,.int .i64 z1,.int .i64 z2,.int .i64 z3,.int .i64 z4,.int .i64 z5]⟩] s (fun v A=>v = .int .i64 (if (1<=z0/\z0<=99999)/\(1<=z1/\z1<=99)/\(0<=z2/\z2<=z3/\z3<=100000)/\(-1000<=z4/\z4<=z5/\z5<=1000) then 0 else 32)/\A=[]):=by
 refine enter KE rfl hs ?_;unfold Gd;refine rS (aZ J J J (fun b1=>(kM J (Q0 (rS (aH J (aL J .here rfl (kO (bB J J (fun s1 h1=>qC _ _ s1 h1.wf) (fun h2=>?_) (fun h2=>?_))))))))))
 ·refine kM J (kG (Q2 J (kG (Y1 J .here rfl (kG (bB J J (fun s1 h1=>iE _ _ _ _ s1 h1.wf) (fun h3=>?_) (fun h3=>?_)))))))
  ·refine cA J J J (kM J (kG (Q2 J (kG (Y1 J .here rfl (kG (eV J J (fun h4=>?_) (fun h4=>?_))))))))
   ·refine cA J J J (kM J (kG (Q2 J (kG (Y1 J .here rfl (kG (Q2 J (kG (Y1 J .here rfl (kG (eV J J (fun h5=>?_) (fun h5=>?_))))))))))))
    ·refine cA J J J (kM J (kG (Q2 J (kG (Y1 J .here rfl (kG (eV J J (fun h6=>?_) (fun h6=>?_))))))))
     ·refine cA J J J (kM J (kG (Q2 J (kG (Y1 J .here rfl (kG (eV J J (fun h7=>?_) (fun h7=>?_))))))))
      ·refine cA J J J (kM J (kG (Q2 J (kG (Y1 J .here rfl (kG (Q2 J (kG (Y1 J .here rfl (kG (eV J J (fun h8=>?_) (fun h8=>?_))))))))))))
       ·refine cA J J J (kM J (kG (Q2 J (kG (Y1 J .here rfl (kG (eV J J (fun h9=>?_) (fun h9=>?_))))))))
        ·refine cA J J J (kM J (Q0 (rQ (rS (kM J (eP J (Q0 (U0 J (Q1 (W0 (rS (kM J (Q0 (V2 (aO J ⟨congrArg (Value.int .i64) ?_,rfl⟩)))))))))))))))
         first|exact(if_pos oM).symm|exact(if_neg oM).symm
        ·refine cA J J J (kM J (Q0 (rQ (rS (kM J (eP J (Q0 (Y0 J (rS (kM J (Q0 (V2 (W3 (aO J ⟨congrArg (Value.int .i64) ?_,rfl⟩))))))))))))))
         first|exact(if_pos oM).symm|exact(if_neg oM).symm
       ·refine cA J J J (kM J (V0 (V0 (V0 (bK J J J (kM J (Q0 (rQ (rS (kM J (eP J (Q0 (Y0 J (rS (kM J (Q0 (V2 (W3 (aO J ⟨congrArg (Value.int .i64) ?_,rfl⟩)))))))))))))))))))
        first|exact(if_pos oM).symm|exact(if_neg oM).symm
      ·refine cA J J J (kM J (V0 (V0 (V0 (V0 (V0 (bK J J J (kM J (V0 (V0 (V0 (bK J J J (kM J (Q0 (rQ (rS (kM J (eP J (Q0 (Y0 J (rS (kM J (Q0 ?_)))))))))))))))))))))))
       refine V2 (W3 (aO J ⟨congrArg (Value.int .i64) ?_,rfl⟩))
       first|exact(if_pos oM).symm|exact(if_neg oM).symm
     ·refine cA J J J (kM J (V0 (V0 (V0 (bK J J J (kM J (V0 (V0 (V0 (V0 (V0 (bK J J J (kM J (V0 (V0 (V0 (bK J J J (kM J (Q0 (rQ (rS (kM J (eP J ?_)))))))))))))))))))))))
      refine Q0 (Y0 J (rS (kM J (Q0 (V2 (W3 (aO J ⟨congrArg (Value.int .i64) ?_,rfl⟩)))))))
      first|exact(if_pos oM).symm|exact(if_neg oM).symm
    ·refine cA J J J (kM J (V0 (V0 (V0 (bK J J J (kM J (V0 (V0 (V0 (bK J J J (kM J (V0 (V0 (V0 (V0 (V0 (bK J J J (kM J (V0 (V0 (V0 (bK J J J (kM J ?_)))))))))))))))))))))))
     refine Q0 (rQ (rS (kM J (eP J (Q0 (Y0 J (rS (kM J (Q0 (V2 (W3 (aO J ⟨congrArg (Value.int .i64) ?_,rfl⟩))))))))))))
     first|exact(if_pos oM).symm|exact(if_neg oM).symm
   ·refine cA J J J (kM J (V0 (V0 (V0 (V0 (V0 (bK J J J (kM J (V0 (V0 (V0 (bK J J J (kM J (V0 (V0 (V0 (bK J J J (kM J (V0 (V0 (V0 (V0 (V0 ?_)))))))))))))))))))))))
    refine bK J J J (kM J (V0 (V0 (V0 (bK J J J (kM J (Q0 (rQ (rS (kM J (eP J (Q0 (Y0 J (rS (kM J (Q0 (V2 (W3 (aO J ⟨congrArg (Value.int .i64) ?_,rfl⟩)))))))))))))))))))
    first|exact(if_pos oM).symm|exact(if_neg oM).symm
  ·refine cA J J J (kM J (V0 (V0 (V0 (bK J J J (kM J (V0 (V0 (V0 (V0 (V0 (bK J J J (kM J (V0 (V0 (V0 (bK J J J (kM J (V0 (V0 (V0 (bK J J J (kM J ?_)))))))))))))))))))))))
   refine V0 (V0 (V0 (V0 (V0 (bK J J J (kM J (V0 (V0 (V0 (bK J J J (kM J (Q0 (rQ (rS (kM J (eP J (Q0 (Y0 J (rS (kM J (Q0 (V2 (W3 ?_)))))))))))))))))))))));refine aO J ⟨congrArg (Value.int .i64) ?_,rfl⟩
   first|exact(if_pos oM).symm|exact(if_neg oM).symm
 ·refine kM J (V0 (V0 (V0 (bK J J J (kM J (V0 (V0 (V0 (bK J J J (kM J (V0 (V0 (V0 (V0 (V0 (bK J J J (kM J (V0 (V0 (V0 (bK J J J (kM J (V0 ?_)))))))))))))))))))))))
  refine V0 (V0 (bK J J J (kM J (V0 (V0 (V0 (V0 (V0 (bK J J J (kM J (V0 (V0 (V0 (bK J J J (kM J (Q0 (rQ (rS (kM J (eP J (Q0 (Y0 J (rS ?_)))))))))))))))))))))));refine kM J (Q0 (V2 (W3 (aO J ⟨congrArg (Value.int .i64) ?_,rfl⟩))))
  first|exact(if_pos oM).symm|exact(if_neg oM).symm
theorem AH(n:Nat)(z0 z1 z2 z3 z4 z5:Int)(s:St)(hs:Wf s):bX Tryz.prog (bZ cB) X (n+100) 55 [.agg ⟨[.int .i64 z0,.int .i64 z1,.int .i64 z2,.int .i64 z3,.int .i64 z4,.int .i64 z5]⟩] s (fun v A=>v = .bool (decide ((1<=z0/\z0<=99999)/\(1<=z1/\z1<=99)/\(0<=z2/\z2<=z3/\z3<=100000)/\(-1000<=z4/\z4<=z5/\z5<=1000)))/\A=[]):=by
 refine enter O1 rfl hs ?_;unfold NK;refine rS (aZ J J J (fun b1=>(kM J (Q0 (rS (aH J (aL J .here rfl (kO (bB J J (fun s1 h1=>sY _ _ _ _ s1 h1.wf) (fun h2=>?_) (fun h2=>?_))))))))))
 ·refine kM J (kG (Q2 J (kG (Y1 J .here rfl (kG (bB J J (fun s1 h1=>sY _ _ _ _ s1 h1.wf) (fun h3=>?_) (fun h3=>?_)))))))
  ·refine cA J J J (kM J (kG (Q2 J (kG (Y1 J .here rfl (kG (xP J J (fun h4=>?_) (fun h4=>?_))))))))
   ·refine cA J J J (kM J (kG (Q2 J (kG (Y1 J .here rfl (kG (Q2 J (kG (Y1 J .here rfl (kG (eV J J (fun h5=>?_) (fun h5=>?_))))))))))))
    ·refine cA J J J (kM J (kG (Q2 J (kG (Y1 J .here rfl (kG (eV J J (fun h6=>?_) (fun h6=>?_))))))))
     ·refine cA J J J (kM J (kG (Q2 J (kG (Y1 J .here rfl (kG (xP J J (fun h7=>?_) (fun h7=>?_))))))))
      ·refine cA J J J (kM J (kG (Q2 J (kG (Y1 J .here rfl (kG (Q2 J (kG (Y1 J .here rfl (kG (eV J J (fun h8=>?_) (fun h8=>?_))))))))))))
       ·refine cA J J J (kM J (kG (Q2 J (kG (Y1 J .here rfl (kG (eV J J (fun h9=>?_) (fun h9=>?_))))))))
        ·refine cA J J J (kM J (Q0 (V2 (aO J ⟨congrArg Value.bool ?_,rfl⟩))))
         first|exact(decide_eq_true oM).symm|exact(decide_eq_false oM).symm
        ·refine cA J J J (kM J (Q0 (V2 (aO J ⟨congrArg Value.bool ?_,rfl⟩))))
         first|exact(decide_eq_true oM).symm|exact(decide_eq_false oM).symm
       ·refine cA J J J (kM J (V0 (V0 (V0 (bK J J J (kM J (Q0 (V2 (aO J ⟨congrArg Value.bool ?_,rfl⟩)))))))))
        first|exact(decide_eq_true oM).symm|exact(decide_eq_false oM).symm
      ·refine cA J J J (kM J (V0 (V0 (V0 (V0 (V0 (bK J J J (kM J (V0 (V0 (V0 (bK J J J (kM J (Q0 (V2 (aO J ⟨congrArg Value.bool ?_,rfl⟩))))))))))))))))
       first|exact(decide_eq_true oM).symm|exact(decide_eq_false oM).symm
     ·refine cA J J J (kM J (V0 (V0 (V0 (bK J J J (kM J (V0 (V0 (V0 (V0 (V0 (bK J J J (kM J (V0 (V0 (V0 (bK J J J (kM J (Q0 (V2 (aO J ⟨congrArg Value.bool ?_,rfl⟩)))))))))))))))))))))
      first|exact(decide_eq_true oM).symm|exact(decide_eq_false oM).symm
    ·refine cA J J J (kM J (V0 (V0 (V0 (bK J J J (kM J (V0 (V0 (V0 (bK J J J (kM J (V0 (V0 (V0 (V0 (V0 (bK J J J (kM J (V0 (V0 (V0 (bK J J J (kM J ?_)))))))))))))))))))))))
     refine Q0 (V2 (aO J ⟨congrArg Value.bool ?_,rfl⟩))
     first|exact(decide_eq_true oM).symm|exact(decide_eq_false oM).symm
   ·refine cA J J J (kM J (V0 (V0 (V0 (V0 (V0 (bK J J J (kM J (V0 (V0 (V0 (bK J J J (kM J (V0 (V0 (V0 (bK J J J (kM J (V0 (V0 (V0 (V0 (V0 ?_)))))))))))))))))))))))
    refine bK J J J (kM J (V0 (V0 (V0 (bK J J J (kM J (Q0 (V2 (aO J ⟨congrArg Value.bool ?_,rfl⟩)))))))))
    first|exact(decide_eq_true oM).symm|exact(decide_eq_false oM).symm
  ·refine cA J J J (kM J (V0 (V0 (V0 (bK J J J (kM J (V0 (V0 (V0 (V0 (V0 (bK J J J (kM J (V0 (V0 (V0 (bK J J J (kM J (V0 (V0 (V0 (bK J J J (kM J ?_)))))))))))))))))))))))
   refine V0 (V0 (V0 (V0 (V0 (bK J J J (kM J (V0 (V0 (V0 (bK J J J (kM J (Q0 (V2 (aO J ⟨congrArg Value.bool ?_,rfl⟩))))))))))))))
   first|exact(decide_eq_true oM).symm|exact(decide_eq_false oM).symm
 ·refine kM J (V0 (V0 (V0 (bK J J J (kM J (V0 (V0 (V0 (bK J J J (kM J (V0 (V0 (V0 (V0 (V0 (bK J J J (kM J (V0 (V0 (V0 (bK J J J (kM J (V0 ?_)))))))))))))))))))))))
  refine V0 (V0 (bK J J J (kM J (V0 (V0 (V0 (V0 (V0 (bK J J J (kM J (V0 (V0 (V0 (bK J J J (kM J (Q0 (V2 (aO J ⟨congrArg Value.bool ?_,rfl⟩))))))))))))))))))
  first|exact(decide_eq_true oM).symm|exact(decide_eq_false oM).symm
theorem Cy(n:Nat)(d r al up:Int)(a1 a2:Option Addr)(c1 c2:Nat)(l1 l2:List Int)(a3 a4:Option Addr)(c3 c4:Nat)(rs cs:List (List Int))(s:St)(hs:Wf s)(hn:2251799813685248<=n)(hl1:aN s a1 l1)(hl2:aN s a2 l2)(hr:RowsE s 7 a3 rs)(hc:RowsE s 6 a4 cs):bX Tryz.prog (bZ cB) X (n+1900) 91 [.agg ⟨[.int .i64 d,.int .i64 r,.slice a1 l1.length c1,.slice a2 l2.length c2,.int .i64 al,.int .i64 up,.slice a3 rs.length c3,.slice a4 cs.length c4]⟩] s (fun v A=>v = .int .i64 (nK ((1<=d/\d<=99999)/\(1<=r/\r<=99999)/\(0<=al/\al<=100000)/\(0<=up/\up<=100000)/\cJ l1 l2=true) l1 l2 rs cs)/\A=[]):=by
 refine enter Pn rfl hs ?_;unfold Ox;have hlen1:=hl1.len;have hlen2:=hl2.len;have hlen3:=hr.len;have hlen4:=hc.len;refine rS (aZ J J J (fun b1=>(kM J (Q0 (rQ (rS (aH J (dD J dE .here rfl (kO (iQ J J (fun s1 h1=>Cw _ _ _ _ _ _ _ _ _ _ _ s1 h1.wf oM (hl1.ext hs h1.2.1) (hl2.ext hs h1.2.1)) (fun h2=>?_) (fun h2=>?_)))))))))))
 ·have hsp:=h2
  refine kM J (Q0 (rS (kM J (kO (V3 J J (fun h=>absurd h dE) (fun _=>(Q0 (U0 J (Q1 (W0 (rQ (rS (aH J (aL J .here rfl (aJ J (by first|exact hr.spot|exact hc.spot) (kO (dR J J (fun h4=>?_) (fun h4=>?_))))))))))))))))))
  ·refine kM J (V0 (V0 (V0 (V0 (cA J J J (Q0 (Y0 J (rS (kM J (Q0 (V2 (W3 (aO J ⟨congrArg (Value.int .i64) ?_,rfl⟩)))))))))))))
   unfold nK
   first
    |(rw[if_neg aM];done)
    |(rw[if_pos hsp,if_pos oM];done)
    |(rw[if_pos hsp,if_neg oM,iS hx hi aM];rfl)
    |(rw[if_pos hsp,if_neg oM,iS hx hi oM];rfl)
    |(rw[if_pos hsp,if_neg oM,hrd,iU hz hj aM];rfl)
    |(rw[if_pos hsp,if_neg oM,hrd,iU hz hj oM];rfl)
    |(rw[if_pos hsp,if_neg oM,hrd,qE hj oM];rfl)
  ·refine kM J (kG (Q2 J (kG (Y1 J .here rfl (kG (oH J (by first|exact hr.spot|exact hc.spot) (kG (dR J J (fun h5=>?_) (fun h5=>?_)))))))))
   ·refine bK J J J (Q0 (Y0 J (rS (kM J (Q0 (V2 (W3 (aO J ⟨congrArg (Value.int .i64) ?_,rfl⟩))))))))
    unfold nK
    first
     |(rw[if_neg aM];done)
     |(rw[if_pos hsp,if_pos oM];done)
     |(rw[if_pos hsp,if_neg oM,iS hx hi aM];rfl)
     |(rw[if_pos hsp,if_neg oM,iS hx hi oM];rfl)
     |(rw[if_pos hsp,if_neg oM,hrd,iU hz hj aM];rfl)
     |(rw[if_pos hsp,if_neg oM,hrd,iU hz hj oM];rfl)
     |(rw[if_pos hsp,if_neg oM,hrd,qE hj oM];rfl)
   ·refine bK J J J (Q0 (U0 J (Q1 (W0 (rQ (rS (aH J (aL J .here rfl (aJ J (by first|exact hr.spot|exact hc.spot) (kM J (Q0 (W1 (U4 (fun j e A=>∃(k:Nat),e=[(1,.pointer (some ⟨b1,0,none⟩)),(27,.slice a3 rs.length c3),(28,.int .i64 (rs.length:Int)),(29,.int .i64 (k:Int))]/\A=(.row b1 37 false ([.int .i64 d,.int .i64 r,.slice a1 l1.length c1,.slice a2 l2.length c2,.int .i64 al,.int .i64 up,.slice a3 rs.length c3,.slice a4 cs.length c4])::[])/\j=rs.length-k/\k<=rs.length/\pF (l1.length:Int) (l2.length:Int) rs=pF (l1.length:Int) (l2.length:Int) (rs.drop k)) 400 844424930131968 281474976710656 ?_ (j:=_) (env2:=_) (A2:=_) ?_ ?_ ?_ ?_ ⟨0,rfl,rfl,rfl,Nat.zero_le _,rfl⟩)))))))))))))
    rotate_left
    ·omega
    ·omega
    ·exact lL
    ·exact(.q .slnil)
    rintro n hn j _ _ ⟨k,rfl,rfl,rfl,hk,hi⟩;refine rS (dB J J (fun h6=>?_) (fun h6=>?_))
    ·obtain⟨q7,o7,x0,x1,x2,x3,x4,x5,x6,ahr,hx,hat,i0,i1,i2,i3,i4,i5,i6⟩:=hr.row7 (k:=k) oM
     have hat2:=hat;obtain⟨d0,d1,d2,d3,d4,d5,d6,_⟩:=hat2;have:=i0.lo;have:=i0.hi;have:=i1.lo;have:=i1.hi;have:=i2.lo;have:=i2.hi;have:=i3.lo;have:=i3.hi;have:=i4.lo;have:=i4.hi;have:=i5.lo;have:=i5.hi;have:=i6.lo;have:=i6.hi;refine Q0 (rQ (Y0 J (Q1 (W0 (rQ (W1 (rS (kO (cM ahr rfl rfl rfl (by first|decide|omega) (kO (dU J dE aM J (aY J J (fun b7=>(kZ (Q6 J J .here rfl rfl rfl rfl (Q0 (rS (aH J (dD J dE .h1 J (dD J dE .here rfl (kO (iQ J J (fun s1 h1=>AF _ _ _ _ _ _ _ _ _ _ _ _ _ _ _ _ _ _ s1 h1.wf oM (hl1.ext hs h1.2.1) (hl2.ext hs h1.2.1)) (fun h8=>?_) (fun h8=>?_)))))))))))))))))))))))
     ·refine kM J (Q0 (rS (kM J (kO (V3 J J (fun h=>absurd h dE) (fun _=>(Q0 (U0 J (Q1 (Z1 (W0 (rI (aX J J oM (kM J (Q0 (W0 ?_))))))))))))))))
      exact⟨rfl,_,_,_,(show rs.length-(k+1)<rs.length-k from oM),lL,(.cons _ (.q .slnil)),⟨k+1,rfl,rfl,rfl,oM,DH hx hi aM⟩⟩
     ·refine kM J (Q0 (rS (kM J (kO (V3 J J (fun _=>(Q0 (Y0 J (rS (kM J (kM J (Q0 (V2 (Y6 (W3 (W3 (Y6 (W3 (aO J ⟨congrArg (Value.int .i64) ?_,rfl⟩)))))))))))))) (fun h=>absurd h dE))))))
      unfold nK
      first
       |(rw[if_neg aM];done)
       |(rw[if_pos hsp,if_pos oM];done)
       |(rw[if_pos hsp,if_neg oM,iS hx hi aM];rfl)
       |(rw[if_pos hsp,if_neg oM,iS hx hi oM];rfl)
       |(rw[if_pos hsp,if_neg oM,hrd,iU hz hj aM];rfl)
       |(rw[if_pos hsp,if_neg oM,hrd,iU hz hj oM];rfl)
       |(rw[if_pos hsp,if_neg oM,hrd,qE hj oM];rfl)
    ·have hrd:=G3 hi oM
     clear hi hk hn;refine Q0 (rQ (U0 J (Y4 (Z2 (Z2 (Q3 (W0 (rQ (rS (aH J (aL J .here rfl (aJ J (by first|exact hr.spot|exact hc.spot) (kM J (Q0 (W1 (U4 (fun j e A=>∃(k:Nat),e=[(42,.slice a4 cs.length c4),(43,.int .i64 (cs.length:Int)),(44,.int .i64 (k:Int))]/\A=[]/\j=cs.length-k/\k<=cs.length/\pG cs=pG (cs.drop k)) 200 0 281474976710656 ?_ (j:=_) (env2:=_) (A2:=_) ?_ ?_ ?_ ?_ ⟨0,rfl,rfl,rfl,Nat.zero_le _,rfl⟩))))))))))))))))
     rotate_left
     ·omega
     ·omega
     ·exact lL
     ·exact(.cons _ .slnil)
     rintro n hn j _ _ ⟨k,rfl,rfl,rfl,hk,hj⟩;refine rS (dB J J (fun h11=>?_) (fun h11=>?_))
     ·obtain⟨q6,o6,z0,z1,z2,z3,z4,z5,ahc,hz,hat,j0,j1,j2,j3,j4,j5⟩:=hc.row6 (k:=k) oM
      have hat2:=hat;obtain⟨e0,e1,e2,e3,e4,e5,_⟩:=hat2;have:=j0.lo;have:=j0.hi;have:=j1.lo;have:=j1.hi;have:=j2.lo;have:=j2.hi;have:=j3.lo;have:=j3.hi;have:=j4.lo;have:=j4.hi;have:=j5.lo;have:=j5.hi;refine Q0 (rQ (Y0 J (Q1 (W0 (rQ (W1 (rS (kO (cM ahc rfl rfl rfl (by first|decide|omega) (kO (dU J dE aM J (aY J J (fun b12=>(kZ (Q6 J J .here rfl rfl rfl rfl (Q0 (rS (dD J dE .here rfl (kO (iQ J J (fun s1 h1=>AG _ _ _ _ _ _ _ s1 h1.wf) (fun h13=>?_) (fun h13=>?_)))))))))))))))))))))
      ·refine kM J (Q0 (rS (kM J (kO (V3 J J (fun h=>absurd h dE) (fun _=>(Q0 (U0 J (Q1 (Z1 (W0 (rI (aX J J oM (kM J (Q0 (W0 ?_))))))))))))))))
       exact⟨rfl,_,_,_,(show cs.length-(k+1)<cs.length-k from oM),lL,(.cons _ .slnil),⟨k+1,rfl,rfl,rfl,oM,DJ hz hj aM⟩⟩
      ·refine kM J (Q0 (rS (kM J (kO (V3 J J (fun _=>(Q0 (Y0 J (rS (kM J (kM J (Q0 (V2 (Y6 (W3 (W3 (Y6 (W3 (aO J ⟨congrArg (Value.int .i64) ?_,rfl⟩)))))))))))))) (fun h=>absurd h dE))))))
       unfold nK
       first
        |(rw[if_neg aM];done)
        |(rw[if_pos hsp,if_pos oM];done)
        |(rw[if_pos hsp,if_neg oM,iS hx hi aM];rfl)
        |(rw[if_pos hsp,if_neg oM,iS hx hi oM];rfl)
        |(rw[if_pos hsp,if_neg oM,hrd,iU hz hj aM];rfl)
        |(rw[if_pos hsp,if_neg oM,hrd,iU hz hj oM];rfl)
        |(rw[if_pos hsp,if_neg oM,hrd,qE hj oM];rfl)
     ·refine Q0 (rQ (U0 J (Y4 (Z2 (Z2 (Q3 (W0 (rS (kM J (Q0 (V2 (aO J ⟨congrArg (Value.int .i64) ?_,rfl⟩))))))))))))
      unfold nK
      first
       |(rw[if_neg aM];done)
       |(rw[if_pos hsp,if_pos oM];done)
       |(rw[if_pos hsp,if_neg oM,iS hx hi aM];rfl)
       |(rw[if_pos hsp,if_neg oM,iS hx hi oM];rfl)
       |(rw[if_pos hsp,if_neg oM,hrd,iU hz hj aM];rfl)
       |(rw[if_pos hsp,if_neg oM,hrd,iU hz hj oM];rfl)
       |(rw[if_pos hsp,if_neg oM,hrd,qE hj oM];rfl)
 ·refine kM J (Q0 (rS (kM J (kO (V3 J J (fun _=>(Q0 (Y0 J (rS (kM J (kM J (Q0 (V2 (W3 (aO J ⟨congrArg (Value.int .i64) ?_,rfl⟩)))))))))) (fun h=>absurd h dE))))))
  unfold nK
  first
   |(rw[if_neg aM];done)
   |(rw[if_pos hsp,if_pos oM];done)
   |(rw[if_pos hsp,if_neg oM,iS hx hi aM];rfl)
   |(rw[if_pos hsp,if_neg oM,iS hx hi oM];rfl)
   |(rw[if_pos hsp,if_neg oM,hrd,iU hz hj aM];rfl)
   |(rw[if_pos hsp,if_neg oM,hrd,iU hz hj oM];rfl)
   |(rw[if_pos hsp,if_neg oM,hrd,qE hj oM];rfl)
end
variable{s:St}{rs L:List (List Int)}{k w:Nat}{x:List Int}{x0 x1 x2 x3 x4 x5 x6:Int}
theorem RowsE.row2{a:Option Addr}(h:RowsE s 2 a rs)(hk:k<rs.length):∃b o p q,a=some ⟨b,o,none⟩/\rs[k]? = some [p,q]/\pK s b (o+k*2) [.int .i64 p,.int .i64 q]/\I64 p/\I64 q:=by
 obtain⟨b,o,r,h1,h2,h3,h4,h5⟩:=h.row hk;obtain⟨p,r1,rfl,g1⟩:=bA h3;obtain⟨q,r2,rfl,g2⟩:=bA g1;have:r2=[]:=List.eq_nil_of_length_eq_zero g2;subst this;exact⟨b,o,p,q,h1,h2,h4,h5 p sM,h5 q sM⟩
theorem RJ(a0 a1 b0 b1:Int):pureVal Tryz.prog (Op.equal 86 (.agg #[.int .i64 a0,.int .i64 a1]) (.agg #[.int .i64 b0,.int .i64 b1]))=some (decide (([a0,a1]:List Int)=[b0,b1])):=by
 have p0:pureVal Tryz.prog (part 3 #[.int .i64 a0,.int .i64 a1] 0)=some (.int .i64 a0):=kR
 have q0:pureVal Tryz.prog (part 3 #[.int .i64 b0,.int .i64 b1] 0)=some (.int .i64 b0):=kR
 have p1:pureVal Tryz.prog (part 3 #[.int .i64 a0,.int .i64 a1] 1)=some (.int .i64 a1):=kR
 have q1:pureVal Tryz.prog (part 3 #[.int .i64 b0,.int .i64 b1] 1)=some (.int .i64 b1):=kR
 have e0:∀x y,pureVal Tryz.prog (Op.equalIn 9999 3 (.int .i64 x) (.int .i64 y))=some (x == y):=by intro x y;kernel_rfl
 unfold Op.equal;show pureVal _ (Op.equalIn (9999+1) 86 _ _)=_;rw[Op.equalIn];rw[qA,RE Tryz.underlying86];simp[qA,GW,p0,q0,p1,q1,e0];by_cases h0:a0=b0
 ·subst h0
  by_cases h1:a1=b1
  ·subst h1
   simp[qA,Ct,p1,q1,e0]
  ·simp[h1,qA,Ct,p1,q1,e0]
 ·simp[h0,qA,Ct,p1,q1,e0]
def aT(L:List (List Int)):List Value:=L.flatMap fun r=>r.map (.int .i64)
theorem dY{L M:List (List Int)}:aT (L++M)=aT L++aT M:=by simp[aT]
theorem tT{α:Type}{a l:List α}:∀{n i:Nat},jD (a++l) (a.length+i) n=jD l i n
 |0,i=>rfl
 |n+1,i=>by
  simp only[jD];rw[List.getElem?_append_right oM,Nat.add_sub_cancel_left,show a.length+i+1=a.length+(i+1) by omega,tT]
theorem DK{α:Type}{l:List α}:∀{a:List α},jD (a++l) 0 a.length=some a
 |[]=>rfl
 |v::a=>by
  have h:=tT (a:=[v]) (l:=a++l) (n:=a.length) (i:=0);rw[DK (a:=a)] at h;have h2:jD (v::(a++l)) 1 a.length=some a:=by simpa using h
  show jD (v::(a++l)) 0 (a.length+1)=_;simp only[jD,List.getElem?_cons_zero];rw[h2]
structure Wd(w:Nat)(L:List (List Int)):Prop where
 len:∀r∈L,r.length=w
 fit:∀r∈L,∀x∈r,-9223372036854775808<=x/\x<9223372036854775808
theorem Wd.nil:Wd w []:=⟨fun _ h=>(by cases h),fun _ h=>(by cases h)⟩
theorem Wd.app{L M:List (List Int)}(h:Wd w L)(k:Wd w M):Wd w (L++M):=
 ⟨fun r hr=>(List.mem_append.1 hr).elim (h.len r) (k.len r),fun r hr=>(List.mem_append.1 hr).elim (h.fit r) (k.fit r)⟩
theorem Wd.two{a b:Int}(ha:I64 a)(hb:I64 b):Wd 2 [[a,b]]:=
 ⟨fun r hr=>by rw[List.mem_singleton.1 hr];rfl,fun r hr x hx=>by
  rw[List.mem_singleton.1 hr] at hx;rcases List.mem_cons.1 hx with rfl|hx
  ·exact ha
  ·rw[List.mem_singleton.1 hx];exact hb⟩
theorem aA{w:Nat}:∀{L:List (List Int)},(∀r∈L,r.length=w)->(aT L).length=L.length*w
 |[],_=>by simp[aT]
 |r::L,h=>by
  have h1:=aA (L:=L) (fun x hx=>h x (List.mem_cons_of_mem _ hx));have h2:=h r (List.mem_cons_self ..);have h3:aT (r::L)=r.map (.int .i64)++aT L:=by simp[aT]
  rw[h3,List.length_append,h1,List.length_map,h2,List.length_cons,Nat.add_mul];omega
theorem uY{w:Nat}:∀{L:List (List Int)} {i:Nat} {r:List Int},(∀r∈L,r.length=w)->L[i]? = some r->jD (aT L) (i*w) w=some (r.map (.int .i64))
 |[],i,r,_,h=>by simp at h
 |r'::L,0,r,hw,h=>by
  simp only[List.getElem?_cons_zero,Option.some.injEq] at h;subst h;have h3:aT (r'::L)=r'.map (.int .i64)++aT L:=by simp[aT]
  have h4:(r'.map (Value.int .i64)).length=w:=by rw[List.length_map];exact hw r' (List.mem_cons_self ..)
  rw[h3,Nat.zero_mul];have:=DK (l:=aT L) (a:=r'.map (Value.int .i64))
  rwa [h4] at this
 |r'::L,i+1,r,hw,h=>by
  have h3:aT (r'::L)=r'.map (.int .i64)++aT L:=by simp[aT]
  have h4:(r'.map (Value.int .i64)).length=w:=by rw[List.length_map];exact hw r' (List.mem_cons_self ..)
  have ih:=uY (L:=L) (i:=i) (r:=r) (fun x hx=>hw x (List.mem_cons_of_mem _ hx)) (by simpa using h);have:=tT (a:=r'.map (Value.int .i64)) (l:=aT L) (n:=w) (i:=i*w);rw[h4] at this;rw[h3,Nat.add_mul,Nat.one_mul,Nat.add_comm,this,ih]
theorem RowsE.ownF{b e w:Nat}{op:Bool}(h:Obj s b e op (aT L))(hw:Wd w L)(hl:L.length<140737488355328):RowsE s w (some ⟨b,0,none⟩) L:=
 ⟨fun c hc=>by cases hc;rfl,fun _=>⟨b,0,rfl⟩,fun c o hc i r hr=>by
  cases hc;rw[Nat.zero_add];exact h.ats (jP (uY hw.len hr)).2,hw.len,hw.fit,hl⟩
theorem RowsE.nil:RowsE s w none []:=⟨fun b h=>(by cases h),fun h=>absurd rfl h,fun b o h=>(by cases h),fun r h=>(by cases h),fun r h=>(by cases h),dE⟩
/-! Where a row stands in a list. -/
def vU(x:List Int):List (List Int)->Nat
 |[]=>0
 |r::L=>if r=x then 0 else vU x L+1
theorem yX{x:List Int}:∀{L:List (List Int)} {k:Nat},x∉L.take k->L[k]? = some x->vU x L=k
 |[],k,_,h=>by simp at h
 |r::L,0,_,h=>by
  simp only[List.getElem?_cons_zero,Option.some.injEq] at h;unfold vU;rw[if_pos h]
 |r::L,k+1,h1,h=>by
  have h2:¬r=x:=fun e=>h1 (by rw[List.take_succ_cons,e];exact List.mem_cons_self ..)
  unfold vU;rw[if_neg h2,yX (k:=k) (fun q=>h1 (by rw[List.take_succ_cons];exact List.mem_cons_of_mem _ q)) (by simpa using h)]
theorem qF{x:List Int}:∀{L:List (List Int)},x∈L->vU x L<L.length
 |r::L,h=>by
  unfold vU;by_cases hr:r=x
  ·rw[if_pos hr];simp
  ·rw[if_neg hr]
   have:=qF (L:=L) ((List.mem_cons.1 h).resolve_left (fun e=>hr e.symm));simp;omega
def yF(L:List (List Int))(x:List Int):Int:=if x∈L then (vU x L:Int) else -1
theorem Cz{x r:List Int}(h:x∉L.take k)(hr:L[k]? = some r)(hne:¬x=r):x∉L.take (k+1):=by
 rw[List.take_add_one,hr];simp[h,hne]
theorem CA{x r:List Int}(h:x∉L.take k)(hr:L[k]? = some r)(he:x=r):yF L x=(k:Int):=by
 subst he;unfold yF;rw[if_pos (List.mem_of_getElem? hr),yX h hr]
theorem E4(h:x∉L.take k)(hk:L.length<=k):x∉L:=by rwa [List.take_of_length_le hk] at h
theorem yY(h:x∉L.take k)(hk:L.length<=k):yF L x = -1:=if_neg (E4 h hk)
theorem Lt(h:0<=yF L x):x∈L:=by
 unfold yF at h;split at h
 ·assumption
 ·omega
theorem G4(h:yF L x<0):x∉L:=by
 unfold yF at h;split at h
 ·omega
 ·assumption
/-! The tape days of readings. -/
def gL(D:List (List Int))(r:List Int):List (List Int):=if [r.getD 5 0,r.getD 6 0]∈D then D else D++[[r.getD 5 0,r.getD 6 0]]
def dys(rs:List (List Int)):List (List Int):=rs.foldl gL []
theorem AI(h:rs[k]? = some [x0,x1,x2,x3,x4,x5,x6]):dys (rs.take (k+1))=if [x5,x6]∈dys (rs.take k) then dys (rs.take k) else dys (rs.take k)++[[x5,x6]]:=by
 unfold dys;rw[List.take_add_one,h,List.foldl_append];rfl
theorem Lu{rs D:List (List Int)}(h:rs[k]? = some [x0,x1,x2,x3,x4,x5,x6])(hD:D=dys (rs.take k))(hm:[x5,x6]∈D):D=dys (rs.take (k+1)):=by
 subst hD;rw[AI h,if_pos hm]
theorem G5{rs D:List (List Int)}(h:rs[k]? = some [x0,x1,x2,x3,x4,x5,x6])(hD:D=dys (rs.take k))(hm:[x5,x6]∉D):D++[[x5,x6]]=dys (rs.take (k+1)):=by
 subst hD;rw[AI h,if_neg hm]
theorem G6{rs D:List (List Int)}(hD:D=dys (rs.take k))(hk:rs.length<=k):D=dys rs:=by rwa [List.take_of_length_le hk] at hD
theorem G7(h:rs[0]? = some [x0,x1,x2,x3,x4,x5,x6]):[[x5,x6]]=dys (rs.take (0+1)):=by rw[AI h];rfl
section
variable{X:FuncId->List Value->St->(Value->St->Bool)->Bool}
theorem CB(n:Nat)(x0 x1 x2 x3 x4 x5 x6:Int)(s:St)(hs:Wf s):bX Tryz.prog (bZ cB) X (n+40) 88 [.agg ⟨[.int .i64 x0,.int .i64 x1,.int .i64 x2,.int .i64 x3,.int .i64 x4,.int .i64 x5,.int .i64 x6]⟩] s (fun v A=>v = .agg ⟨[.int .i64 x5,.int .i64 x6]⟩/\A=[]):=by
 refine enter Pm rfl hs ?_;unfold Ou;refine rS (aZ J J J (fun b1=>(aY J J (fun b2=>(Q0 (rS (aH J (aL J .h1 J (aH J (aL J .h1 J (eG J J (kZ (Q6 J J .here rfl rfl rfl rfl (Q0 (V2 ?_)))))))))))))));exact⟨rfl,[_],[],⟨_,_,_,[],rfl,rfl,dE,⟨_,_,_,.here,rfl⟩,rfl⟩,List.nil_sublist _,rfl,rfl⟩
theorem Pv(n:Nat)(a:Option Addr)(cap:Nat)(L:List (List Int))(dt de:Int)(s:St)(hs:Wf s)(hn:281474976710656<=n)(hL:RowsE s 2 a L):bX Tryz.prog (bZ cB) X (n+100) 179 [.slice a L.length cap,.agg ⟨[.int .i64 dt,.int .i64 de]⟩] s (fun v A=>v = .int .i64 (yF L [dt,de])/\A=[]):=by
 refine enter KZ rfl hs ?_;unfold Gy;have hlen:=hL.len;refine rS (aZ J J J (fun b1=>(kM J (Q0 (rQ (rS (kM J (aJ J hL.spot (kM J (Q0 (W1 (U4 (fun j e A=>∃(k:Nat),e=[(0,.slice a L.length cap),(3,.pointer (some ⟨b1,0,none⟩)),(7,.int .i64 (L.length:Int)),(8,.int .i64 (k:Int))]/\A=(.row b1 86 false ([.int .i64 dt,.int .i64 de])::[])/\j=L.length-k/\k<=L.length/\[dt,de]∉L.take k) 70 0 281474976710656 ?_ (j:=_) (env2:=_) (A2:=_) ?_ ?_ ?_ ?_ ⟨0,rfl,rfl,rfl,Nat.zero_le _,sM⟩))))))))))))
 rotate_left
 ·omega
 ·omega
 ·exact lL
 ·exact(.q .slnil)
 rintro n hn j _ _ ⟨k,rfl,rfl,rfl,hk,hm⟩;refine rS (dB J J (fun h2=>?_) (fun h2=>?_))
 ·obtain⟨q2,o2,p,q,ahL,hx,hat,i0,i1⟩:=hL.row2 (k:=k) oM
  have hat2:=hat;obtain⟨d0,d1,_⟩:=hat2;refine Q0 (rQ (Y0 J (Q1 (W0 (rQ (W1 (rS (kM J (kM J (Q0 (rS (dD J dE .here rfl (kM J (kM J (kO (cM ahL rfl rfl rfl (by first|decide|omega) (kO (dU J dE aM J (kO (Le J J ⟨RJ _ _ _ _,rfl⟩ (fun h3=>?_) (fun h3=>?_)))))))))))))))))))))
  ·refine Q0 (Y0 J (rS (kM J (kM J (Q0 (V2 (Y6 (W3 (W3 (Y6 (W3 (aO J ⟨congrArg (Value.int .i64) ?_,rfl⟩))))))))))))
   first
    |exact(yY hm oM).symm
    |exact(CA hm hx (of_decide_eq_true aM)).symm
  ·refine Q0 (U0 J (Q1 (Z1 (W0 (rI (aX J J oM (kM J (Q0 (W0 ?_)))))))))
   exact⟨rfl,_,_,_,(show L.length-(k+1)<L.length-k from oM),lL,(.q .slnil),⟨k+1,rfl,rfl,rfl,oM,Cz hm hx (of_decide_eq_false aM)⟩⟩
 ·refine Q0 (rQ (U0 J (Y4 (Z2 (Z2 (Q3 (W0 (rS (kM J (Q0 (V2 (aO J ⟨congrArg (Value.int .i64) ?_,rfl⟩))))))))))))
  first
   |exact(yY hm oM).symm
   |exact(CA hm hx (of_decide_eq_true aM)).symm
theorem AJ(n:Nat)(a:Option Addr)(cap:Nat)(L:List (List Int))(dt de:Int)(s:St)(hs:Wf s)(hn:281474976710656<=n)(hL:RowsE s 2 a L):bX Tryz.prog (bZ cB) X (n+150) 135 [.slice a L.length cap,.agg ⟨[.int .i64 dt,.int .i64 de]⟩] s (fun v A=>v = .bool (decide ([dt,de]∈L))/\A=[]):=by
 refine enter KF rfl hs ?_;unfold Ge;refine rS (aZ J J J (fun b1=>(kM J (Q0 (rS (kM J (dD J dE .here rfl (kO (aI J J (fun s1 h1=>Pv _ _ _ _ _ _ s1 h1.wf oM (hL.ext hs h1.2.1)) (kO (xP J J (fun h2=>?_) (fun h2=>?_))))))))))))
 ·refine kM J (Q0 (V2 (aO J ⟨congrArg Value.bool ?_,rfl⟩)))
  first|exact(decide_eq_true (Lt aM)).symm|exact(decide_eq_false (G4 oM)).symm
 ·refine kM J (Q0 (V2 (aO J ⟨congrArg Value.bool ?_,rfl⟩)))
  first|exact(decide_eq_true (Lt aM)).symm|exact(decide_eq_false (G4 oM)).symm
theorem nY(n:Nat)(a:Option Addr)(cap:Nat)(L:List (List Int))(dt de:Int)(s:St)(hs:Wf s)(hn:281474976710656<=n)(hL:RowsE s 2 a L):bX Tryz.prog (bZ cB) X (n+100) 69 [.slice a L.length cap,.agg ⟨[.int .i64 dt,.int .i64 de]⟩] s (fun v A=>v = .int .i64 (yF L [dt,de])/\A=[]):=by
 refine enter Pd rfl hs ?_;unfold Oc;have hlen:=hL.len;refine rS (aZ J J J (fun b1=>(kM J (Q0 (rQ (rS (kM J (Q0 (W1 (U4 (fun j e A=>∃(k:Nat),e=[(0,.slice a L.length cap),(3,.pointer (some ⟨b1,0,none⟩)),(5,.int .i64 (k:Int))]/\A=(.row b1 86 false ([.int .i64 dt,.int .i64 de])::[])/\j=L.length-k/\k<=L.length/\[dt,de]∉L.take k) 70 0 281474976710656 ?_ (j:=_) (env2:=_) (A2:=_) ?_ ?_ ?_ ?_ ⟨0,rfl,rfl,rfl,Nat.zero_le _,sM⟩))))))))))
 rotate_left
 ·omega
 ·omega
 ·exact lL
 ·exact(.q .slnil)
 rintro n hn j _ _ ⟨k,rfl,rfl,rfl,hk,hm⟩;refine rQ (rS (kM J (kM J (aJ J hL.spot (dB J J (fun h2=>?_) (fun h2=>?_))))))
 ·obtain⟨q2,o2,p,q,ahL,hx,hat,i0,i1⟩:=hL.row2 (k:=k) oM
  have hat2:=hat;obtain⟨d0,d1,_⟩:=hat2;refine Q0 (Y0 J (Q1 (W0 (rQ (W1 (rS (kM J (kM J (kO (cM ahL rfl rfl rfl (by first|decide|omega) (kO (dU J dE aM J (dD J dE .here rfl (kO (Le J J ⟨RJ _ _ _ _,rfl⟩ (fun h3=>?_) (fun h3=>?_))))))))))))))))
  ·refine Q0 (Y0 J (rS (kM J (kM J (Q0 (V2 (Y6 (W3 (W3 (Y6 (W3 (aO J ⟨congrArg (Value.int .i64) ?_,rfl⟩))))))))))))
   first
    |exact(yY hm oM).symm
    |exact(CA hm hx (Eq.symm (of_decide_eq_true aM))).symm
  ·refine Q0 (U0 J (Q1 (Z1 (W0 (rI (kM J (aX J J oM (kM J (Q0 (W0 ?_))))))))))
   exact⟨rfl,_,_,_,(show L.length-(k+1)<L.length-k from oM),lL,(.q .slnil),⟨k+1,rfl,rfl,rfl,oM,Cz hm hx (fun q=>absurd q.symm (of_decide_eq_false aM))⟩⟩
 ·refine Q0 (U0 J (Y4 (Z2 (Z2 (Q3 (W0 (rS (kM J (Q0 (V2 (aO J ⟨congrArg (Value.int .i64) ?_,rfl⟩)))))))))))
  first
   |exact(yY hm oM).symm
   |exact(CA hm hx (Eq.symm (of_decide_eq_true aM))).symm
theorem Lv(n:Nat)(a:Option Addr)(cap:Nat)(rs:List (List Int))(s:St)(hs:Wf s)(hn:844424930131968<=n)(hr:RowsE s 7 a rs)(h60:rs.length<=60):bX Tryz.prog (bZ cB) X (n+700) 92 [.slice a rs.length cap] s (fun v A=>(rs=[]/\v = .slice none 0 0/\A=[])∨(rs≠[]/\∃b,v = .slice (some ⟨b,0,none⟩) (dys rs).length OPEN/\A=[.row b 86 true (aT (dys rs))]/\Wd 2 (dys rs)/\(dys rs).length<=rs.length)):=by
 refine enter Po rfl hs ?_;unfold Oz;have hlen:=hr.len;refine rS (kM J (Q0 (rS (kM J (Q0 (rQ (rS (kM J (aJ J hr.spot (kM J (Q0 (W1 (bM (rS (dB J J (fun h1=>?_) (fun h1=>?_))))))))))))))))
 ·obtain⟨q7,o7,x0,x1,x2,x3,x4,x5,x6,ahr,hx,hat,i0,i1,i2,i3,i4,i5,i6⟩:=hr.row7 (k:=0) oM
  have hat2:=hat;obtain⟨d0,d1,d2,d3,d4,d5,d6,_⟩:=hat2;have:=i0.lo;have:=i0.hi;have:=i1.lo;have:=i1.hi;have:=i2.lo;have:=i2.hi;have:=i3.lo;have:=i3.hi;have:=i4.lo;have:=i4.hi;have:=i5.lo;have:=i5.hi;have:=i6.lo;have:=i6.hi;have hne:rs≠[]:=by rintro rfl;simp at hx
  refine Q0 (rQ (Y0 J (Q1 (W0 (rQ (W1 (rS (kO (cM (j:=0) ahr rfl rfl (by first|rfl|omega) (by first|decide|omega) (kO (dU J dE aM J (aY J J (fun b2=>(kZ (Q6 J J .here rfl rfl rfl rfl (Q0 (rS (dD J dE .here rfl (kO (aI J J (fun s1 h1=>CB _ _ _ _ _ _ _ _ s1 h1.wf) (aY J J (fun b3=>(kZ (Q6 J J .here rfl rfl rfl rfl (Q0 (rS (kM J (dD J dE .here rfl (kO (bB J J (fun s1 h1=>AJ _ _ _ _ _ _ s1 h1.wf oM RowsE.nil) (fun h4=>?_) (fun h4=>?_)))))))))))))))))))))))))))))))
  ·exact absurd h4 sM
  ·refine eP J (Q0 (Y0 J (rI (kM J (dD J dE .here rfl (kO (bF J J J (fun b5=>(kO (gZ J J (fK.own .here rfl sM) dE oM oM (fun b6=>(kM J (Q0 (Z1 (W0 (rI (aX J J dE (kM J (Q0 (W0 (U4 (fun j e A=>∃(k b:Nat) (D:List (List Int)),e=[(7,.slice a rs.length cap),(8,.int .i64 (rs.length:Int)),(9,.int .i64 (k:Int)),(3,.slice (some ⟨b,0,none⟩) D.length OPEN)]/\A=(.row b 86 true (aT D)::[])/\j=rs.length-k/\k<=rs.length/\D=dys (rs.take k)/\D.length<=k/\Wd 2 D) 400 562949953421312 281474976710656 ?_ (j:=_) (env2:=_) (A2:=_) ?_ ?_ ?_ ?_ ⟨0+1,b6,[[x5,x6]],rfl,rfl,rfl,oM,G7 hx,sM,Wd.two i5 i6⟩)))))))))))))))))))))
   rotate_left
   ·omega
   ·omega
   ·exact lL
   ·exact(.q (.cons _ (.cons _ (.cons _ .slnil))))
   rintro n hn j _ _ ⟨k,b,D,rfl,rfl,rfl,hk,hD,hDl,hW⟩;refine rS (dB J J (fun h7=>?_) (fun h7=>?_))
   ·obtain⟨q7,o7,x0,x1,x2,x3,x4,x5,x6,ahr,hx,hat,i0,i1,i2,i3,i4,i5,i6⟩:=hr.row7 (k:=k) oM
    have hat2:=hat;obtain⟨d0,d1,d2,d3,d4,d5,d6,_⟩:=hat2;have:=i0.lo;have:=i0.hi;have:=i1.lo;have:=i1.hi;have:=i2.lo;have:=i2.hi;have:=i3.lo;have:=i3.hi;have:=i4.lo;have:=i4.hi;have:=i5.lo;have:=i5.hi;have:=i6.lo;have:=i6.hi;refine Q0 (rQ (Y0 J (Q1 (W0 (rQ (W1 (rS (kO (cM ahr rfl rfl rfl (by first|decide|omega) (kO (dU J dE aM J (aY J J (fun b8=>(kZ (Q6 J J .here rfl rfl rfl rfl (Q0 (rS (dD J dE .here rfl (kO (aI J J (fun s1 h1=>CB _ _ _ _ _ _ _ _ s1 h1.wf) (aY J J (fun b9=>(kZ (Q6 J J .here rfl rfl rfl rfl (Q0 (rS (kM J (dD J dE .here rfl (kO (bB J J (fun s1 h1=>AJ _ _ _ _ _ _ s1 h1.wf oM (RowsE.ownF (h1.own .h2) hW oM)) (fun h10=>?_) (fun h10=>?_)))))))))))))))))))))))))))))))
    ·refine eP J (Q0 (U0 J (Q1 (Z1 (W0 (rI (aX J J oM (kM J (Q0 (W0 ?_))))))))))
     exact⟨rfl,_,_,_,(show rs.length-(k+1)<rs.length-k from oM),lL,(.cons _ (.cons _ (.q .slnil))),⟨k+1,b,D,rfl,rfl,rfl,oM,Lu hx hD aM,oM,hW⟩⟩
    ·refine eP J (Q0 (Y0 J (rI (kM J (dD J dE .here rfl (kO (bF J J J (fun b11=>(kO (cO J J (fK.own .here rfl sM) .h3 (by rw[aA hW.len]) (.inl ⟨rfl,rfl⟩) dE oM oM (fun b12=>(kM J (Q0 (Z1 (W0 (rI (aX J J oM (kM J (Q0 (W0 ?_))))))))))))))))))))
     exact⟨rfl,_,_,_,(show rs.length-(k+1)<rs.length-k from oM),(lc 7 J (lc 8 J (lc 9 J (lc 3 J fF.nil)))),(.q (.cons _ (.cons _ (.cons _ .slnil)))),⟨k+1,b12,D++[[x5,x6]],sM,(by rw[dY];rfl),rfl,oM,G5 hx hD aM,(by simp;omega),hW.app (Wd.two i5 i6)⟩⟩
   ·refine Q0 (rQ (U0 J (Y4 (Z2 (Z2 (Q3 (W0 (rS (kM J (kM J (Q0 (V2 ?_))))))))))))
    have hDe:=G6 hD oM;subst hDe;exact gH J (.q .slnil) (.inr ⟨hne,b,rfl,rfl,hW,oM⟩)
 ·refine Q0 (rQ (U0 J (Y4 (Z2 (Z2 (Q3 (W0 (rS (kM J (kM J (Q0 (V2 ?_))))))))))))
  exact gH J (List.nil_sublist _) (.inl ⟨List.eq_nil_of_length_eq_zero oM,rfl,rfl⟩)
theorem yZ(n:Nat)(a:Option Addr)(cap:Nat)(rs:List (List Int))(s:St)(hs:Wf s)(hn:844424930131968<=n)(hr:RowsE s 7 a rs)(h60:rs.length<=60):bX Tryz.prog (bZ cB) X (n+700) 39 [.slice a rs.length cap] s (fun v A=>(rs=[]/\v = .slice none 0 0/\A=[])∨(rs≠[]/\∃b,v = .slice (some ⟨b,0,none⟩) (dys rs).length OPEN/\A=[.row b 86 true (aT (dys rs))]/\Wd 2 (dys rs)/\(dys rs).length<=rs.length)):=by
 refine enter OQ rfl hs ?_;unfold Np;have hlen:=hr.len;refine rS (kM J (Q0 (rS (kM J (Q0 (rQ (rS (kM J (Q0 (W1 (bM (rQ (rS (kM J (kM J (aJ J hr.spot (dB J J (fun h1=>?_) (fun h1=>?_))))))))))))))))))
 ·obtain⟨q7,o7,x0,x1,x2,x3,x4,x5,x6,ahr,hx,hat,i0,i1,i2,i3,i4,i5,i6⟩:=hr.row7 (k:=0) oM
  have hat2:=hat;obtain⟨d0,d1,d2,d3,d4,d5,d6,_⟩:=hat2;have:=i0.lo;have:=i0.hi;have:=i1.lo;have:=i1.hi;have:=i2.lo;have:=i2.hi;have:=i3.lo;have:=i3.hi;have:=i4.lo;have:=i4.hi;have:=i5.lo;have:=i5.hi;have:=i6.lo;have:=i6.hi;have hne:rs≠[]:=by rintro rfl;simp at hx
  refine Q0 (Y0 J (Q1 (W0 (rQ (W1 (rS (kM J (kM J (kO (cM (j:=0) ahr rfl rfl (by first|rfl|omega) (by first|decide|omega) (aH J (kO (W6 J aM (kM J (kM J (kO (cM (j:=0) ahr rfl rfl (by first|rfl|omega) (by first|decide|omega) (aH J (kO (W6 J aM (eG J J (aY J J (fun b2=>(kZ (Q6 J J .here rfl rfl rfl rfl (Q0 (rS (kM J (dD J dE .here rfl ?_)))))))))))))))))))))))))))));refine kO (aI J J (fun s1 h1=>nY _ _ _ _ _ _ s1 h1.wf oM RowsE.nil) (dB J J (fun h3=>?_) (fun h3=>?_)))
  ·have hnm:=G4 h3
   refine Q0 (Y0 J (rI (kM J (dD J dE .here rfl (kO (bF J J J (fun b4=>(kO (gZ J J (fK.own .here rfl sM) dE oM oM (fun b5=>(kM J (Q0 (Z1 (W0 (rI (kM J (aX J J dE (kM J (Q0 (W0 (U4 (fun j e A=>∃(k b:Nat) (D:List (List Int)),e=[(0,.slice a rs.length cap),(4,.int .i64 (k:Int)),(3,.slice (some ⟨b,0,none⟩) D.length OPEN)]/\A=(.row b 86 true (aT D)::[])/\j=rs.length-k/\k<=rs.length/\D=dys (rs.take k)/\D.length<=k/\Wd 2 D) 400 562949953421312 281474976710656 ?_ (j:=_) (env2:=_) (A2:=_) ?_ ?_ ?_ ?_ ⟨0+1,b5,[[x5,x6]],rfl,rfl,rfl,oM,G7 hx,sM,Wd.two i5 i6⟩)))))))))))))))))))))
   rotate_left
   ·omega
   ·omega
   ·exact lL
   ·exact(.q (.cons _ (.cons _ .slnil)))
   rintro n hn j _ _ ⟨k,b,D,rfl,rfl,rfl,hk,hD,hDl,hW⟩;refine rQ (rS (kM J (kM J (aJ J hr.spot (dB J J (fun h6=>?_) (fun h6=>?_))))))
   ·obtain⟨q7,o7,x0,x1,x2,x3,x4,x5,x6,ahr,hx,hat,i0,i1,i2,i3,i4,i5,i6⟩:=hr.row7 (k:=k) oM
    have hat2:=hat;obtain⟨d0,d1,d2,d3,d4,d5,d6,_⟩:=hat2;have:=i0.lo;have:=i0.hi;have:=i1.lo;have:=i1.hi;have:=i2.lo;have:=i2.hi;have:=i3.lo;have:=i3.hi;have:=i4.lo;have:=i4.hi;have:=i5.lo;have:=i5.hi;have:=i6.lo;have:=i6.hi;refine Q0 (Y0 J (Q1 (W0 (rQ (W1 (rS (kM J (kM J (kO (cM ahr rfl rfl rfl (by first|decide|omega) (aH J (kO (W6 J aM (kM J (kM J (kO (cM ahr rfl rfl rfl (by first|decide|omega) (aH J (kO (W6 J aM (eG J J (aY J J (fun b7=>(kZ (Q6 J J .here rfl rfl rfl rfl (Q0 (rS (kM J (dD J dE .here rfl ?_)))))))))))))))))))))))))))));refine kO (aI J J (fun s1 h1=>nY _ _ _ _ _ _ s1 h1.wf oM (RowsE.ownF (h1.own .h1) hW oM)) (dB J J (fun h8=>?_) (fun h8=>?_)))
    ·have hnm:=G4 h8
     refine Q0 (Y0 J (rI (kM J (dD J dE .here rfl (kO (bF J J J (fun b9=>(kO (cO J J (fK.own .here rfl sM) .h2 (by rw[aA hW.len]) (.inl ⟨rfl,rfl⟩) dE oM oM (fun b10=>(kM J (Q0 (Z1 (W0 (rI (kM J (aX J J oM (kM J (Q0 (W0 ?_))))))))))))))))))));exact⟨rfl,_,_,_,(show rs.length-(k+1)<rs.length-k from oM),(lc 0 J (lc 4 J (lc 3 J fF.nil))),(.q (.cons _ (.cons _ .slnil))),⟨k+1,b10,D++[[x5,x6]],sM,(by rw[dY];rfl),rfl,oM,G5 hx hD aM,(by simp;omega),hW.app (Wd.two i5 i6)⟩⟩
    ·have hmm:=Lt (show 0<=yF D [x5,x6] from oM)
     refine Q0 (U0 J (Q1 (Z1 (W0 (rI (kM J (aX J J oM (kM J (Q0 (W0 ?_))))))))));exact⟨rfl,_,_,_,(show rs.length-(k+1)<rs.length-k from oM),lL,(.cons _ (.q .slnil)),⟨k+1,b,D,rfl,rfl,rfl,oM,Lu hx hD aM,oM,hW⟩⟩
   ·refine Q0 (U0 J (Y4 (Z2 (Z2 (Q3 (W0 (rS (kM J (kM J (Q0 (V2 ?_)))))))))))
    have hDe:=G6 hD oM;subst hDe;exact gH J (.q .slnil) (.inr ⟨hne,b,rfl,rfl,hW,oM⟩)
  ·exfalso;simp[yF] at h3
 ·refine Q0 (U0 J (Y4 (Z2 (Z2 (Q3 (W0 (rS (kM J (kM J (Q0 (V2 ?_)))))))))))
  exact gH J (List.nil_sublist _) (.inl ⟨List.eq_nil_of_length_eq_zero oM,rfl,rfl⟩)
end
end Ev
end Go.Proofs.YtjkdkpckjgaplaaGreat
