import Derived.Test.YtjkdkpckjgaplaaGreatZl08
set_option linter.unusedVariables false
set_option linter.unusedSimpArgs false
namespace Go.Proofs.YtjkdkpckjgaplaaGreat
open Go Go.RowKit
namespace Ev
variable{l1 l2:List Int}
theorem Ps{lo hi hi2:Int}(h:hi<=hi2){l:List Int}(hi':qT lo hi l=true):qT lo hi2 l=true:=by
 unfold qT at *;rw[List.all_eq_true] at *;intro x hx;have:=hi' x hx;simp at this ⊢;omega
def cJ(l1 l2:List Int):Bool:=gJ 9 100000 l1 && gJ 7 15000 l2
theorem pD(h:gJ 9 100000 l1=false):cJ l1 l2=false:=by unfold cJ;rw[h];rfl
theorem pE(h:gJ 9 100000 l2=false):cJ l1 l2=false:=by
 unfold cJ;rw[Bool.and_eq_false_iff];refine .inr ?_;cases hb:gJ 7 15000 l2 with
 |false=>rfl
 |true=>
  unfold gJ at h hb;rw[Bool.and_eq_true,Bool.and_eq_true] at hb;obtain⟨⟨h1,h2⟩,h3⟩:=hb;have h1:=of_decide_eq_true h1;rw[decide_eq_true oM,Ps dE h2,h3] at h;exact h
theorem dX(h:¬(l2.length:Int)<=7):cJ l1 l2=false:=by
 unfold cJ;rw[jQ (m:=7) oM];simp
theorem rV(h:qT 0 15000 l2=false):cJ l1 l2=false:=by
 unfold cJ;rw[jR (hi:=15000) h];simp
theorem nG(h:gJ 9 100000 l1=true)(h2:gJ 9 100000 l2=true)(h3:(l2.length:Int)<=7)(h4:qT 0 15000 l2=true):cJ l1 l2=true:=by
 unfold cJ;rw[h];unfold gJ at h2 ⊢;rw[Bool.and_eq_true,Bool.and_eq_true] at h2;obtain⟨⟨h1,_⟩,h5⟩:=h2;have h1:=of_decide_eq_true h1;rw[decide_eq_true oM,h4,h5];rfl
def pM(a b:Int):Int:=if max a b=1*min a b then 1 else if max a b=2*min a b then 2 else if max a b=3*min a b then 3 else 0
theorem BN(a b:Int):pM a b=0∨pM a b=1∨pM a b=2∨pM a b=3:=by
 unfold pM;(repeat' split) <;> decide
section
variable{X:FuncId->List Value->St->(Value->St->Bool)->Bool}
theorem DC(n:Nat)(a1 a2:Option Addr)(c1 c2:Nat)(l1 l2:List Int)(s:St)(hs:Wf s)(hn:844424930131968<=n)(hl1:aN s a1 l1)(hl2:aN s a2 l2):bX Tryz.prog (bZ cB) X (n+300) 101 [.slice a1 l1.length c1,.slice a2 l2.length c2] s (fun v A=>v = .int .i64 (if cJ l1 l2=true then 0 else 12)/\A=[]):=by
 refine enter Ki rfl hs ?_;unfold FP;have hlen1:=hl1.len;have hlen2:=hl2.len;refine rS (kM J (Q0 (rQ (rS (kM J (kO (iQ J J (fun s1 h1=>oJ _ _ _ _ s1 h1.wf oM (hl1.ext hs h1.2.1)) (fun h1=>?_) (fun h1=>?_))))))))
 ·refine kM J (Q0 (rS (kM J (kO (V3 J J (fun h=>absurd h dE) (fun _=>(Q0 (U0 J (Q1 (W0 (rQ (rS (kM J (kO (iQ J J (fun s1 h1=>oJ _ _ _ _ s1 h1.wf oM (hl2.ext hs h1.2.1)) (fun h3=>?_) (fun h3=>?_))))))))))))))))
  ·refine kM J (Q0 (rS (kM J (kO (V3 J J (fun h=>absurd h dE) (fun _=>(Q0 (U0 J (Q1 (W0 (rQ (rS (kM J (aJ J hl2.spot (kO (dR J J (fun h5=>?_) (fun h5=>?_)))))))))))))))))
   ·refine kM J (V0 (V0 (V0 (cA J J J (Q0 (Y0 J (rS (kM J (Q0 (V2 (W3 (aO J ⟨congrArg (Value.int .i64) ?_,rfl⟩))))))))))))
    first
     |(rw[pD (by simpa using (by assumption:¬gJ 9 100000 l1=true))];rfl)
     |(rw[pE (by simpa using (by assumption:¬gJ 9 100000 l2=true))];rfl)
     |(rw[dX oM];rfl)
     |(rw[rV aM];rfl)
     |(rw[nG aM aM oM aM];rfl)
   ·refine kM J (kG (U2 J (kG (qB J J (fun s1 h1=>DB _ _ _ _ _ _ s1 h1.wf oM (hl2.ext hs h1.2.1)) (fun h6=>?_) (fun h6=>?_)))))
    ·refine kG (U6 J (bK J J J (Q0 (U0 J (Q1 (W0 (rS (kM J (Q0 (V2 (aO J ⟨congrArg (Value.int .i64) ?_,rfl⟩)))))))))))
     first
      |(rw[pD (by simpa using (by assumption:¬gJ 9 100000 l1=true))];rfl)
      |(rw[pE (by simpa using (by assumption:¬gJ 9 100000 l2=true))];rfl)
      |(rw[dX oM];rfl)
      |(rw[rV aM];rfl)
      |(rw[nG aM aM oM aM];rfl)
    ·refine kG (U6 J (bK J J J (Q0 (Y0 J (rS (kM J (Q0 (V2 (W3 (aO J ⟨congrArg (Value.int .i64) ?_,rfl⟩))))))))))
     first
      |(rw[pD (by simpa using (by assumption:¬gJ 9 100000 l1=true))];rfl)
      |(rw[pE (by simpa using (by assumption:¬gJ 9 100000 l2=true))];rfl)
      |(rw[dX oM];rfl)
      |(rw[rV aM];rfl)
      |(rw[nG aM aM oM aM];rfl)
  ·refine kM J (Q0 (rS (kM J (kO (V3 J J (fun _=>(Q0 (Y0 J (rS (kM J (kM J (Q0 (V2 (W3 (aO J ⟨congrArg (Value.int .i64) ?_,rfl⟩)))))))))) (fun h=>absurd h dE))))))
   first
    |(rw[pD (by simpa using (by assumption:¬gJ 9 100000 l1=true))];rfl)
    |(rw[pE (by simpa using (by assumption:¬gJ 9 100000 l2=true))];rfl)
    |(rw[dX oM];rfl)
    |(rw[rV aM];rfl)
    |(rw[nG aM aM oM aM];rfl)
 ·refine kM J (Q0 (rS (kM J (kO (V3 J J (fun _=>(Q0 (Y0 J (rS (kM J (kM J (Q0 (V2 (W3 (aO J ⟨congrArg (Value.int .i64) ?_,rfl⟩)))))))))) (fun h=>absurd h dE))))))
  first
   |(rw[pD (by simpa using (by assumption:¬gJ 9 100000 l1=true))];rfl)
   |(rw[pE (by simpa using (by assumption:¬gJ 9 100000 l2=true))];rfl)
   |(rw[dX oM];rfl)
   |(rw[rV aM];rfl)
   |(rw[nG aM aM oM aM];rfl)
theorem nH(n:Nat)(a:Option Addr)(cap:Nat)(l:List Int)(s:St)(hs:Wf s)(hn:562949953421312<=n)(hl:aN s a l):bX Tryz.prog (bZ cB) X (n+300) 53 [.slice a l.length cap] s (fun v A=>v = .int .i64 (if gJ 9 100000 l=true then 0 else 12)/\A=[]):=by
 refine enter OZ rfl hs ?_;unfold NG;have hlen:=hl.len;refine rS (kM J (Q0 (rQ (rS (kM J (kO (qB J J (fun s1 h1=>AA _ _ _ _ _ _ s1 h1.wf oM dE (hl.ext hs h1.2.1)) (fun h1=>?_) (fun h1=>?_))))))))
 ·refine eP J (Q0 (U0 J (Q1 (W0 (rS (kM J (Q0 (V2 (aO J ⟨congrArg (Value.int .i64) ?_,rfl⟩)))))))))
  first
   |exact(if_pos aM).symm
   |exact(if_neg (by simp[*])).symm
 ·refine eP J (Q0 (Y0 J (rS (kM J (Q0 (V2 (W3 (aO J ⟨congrArg (Value.int .i64) ?_,rfl⟩))))))))
  first
   |exact(if_pos aM).symm
   |exact(if_neg (by simp[*])).symm
theorem HZ(n:Nat)(a1 a2:Option Addr)(c1 c2:Nat)(l1 l2:List Int)(s:St)(hs:Wf s)(hn:562949953421312<=n)(hl1:aN s a1 l1)(hl2:aN s a2 l2):bX Tryz.prog (bZ cB) X (n+300) 165 [.slice a1 l1.length c1,.slice a2 l2.length c2] s (fun v A=>v = .bool (cJ l1 l2)/\A=[]):=by
 refine enter KW rfl hs ?_;unfold Gv;have hlen1:=hl1.len;have hlen2:=hl2.len;refine rS (kM J (Q0 (rS (kM J (kO (qB J J (fun s1 h1=>AA _ _ _ _ _ _ s1 h1.wf oM dE (hl1.ext hs h1.2.1)) (fun h1=>?_) (fun h1=>?_)))))))
 ·refine kM J (kG (U2 J (kG (qB J J (fun s1 h1=>AA _ _ _ _ _ _ s1 h1.wf oM dE (hl2.ext hs h1.2.1)) (fun h2=>?_) (fun h2=>?_)))))
  ·refine cA J J J (kM J (Q0 (V2 (aO J ⟨congrArg Value.bool ?_,rfl⟩))))
   unfold cJ;simp[*]
  ·refine cA J J J (kM J (Q0 (V2 (aO J ⟨congrArg Value.bool ?_,rfl⟩))))
   unfold cJ;simp[*]
 ·refine kM J (V0 (V0 (bK J J J (kM J (Q0 (V2 (aO J ⟨congrArg Value.bool ?_,rfl⟩)))))))
  unfold cJ;simp[*]
theorem uW(n:Nat)(a b:Int)(s:St)(hs:Wf s)(ha:0<a/\a<=100000)(hb:0<b/\b<=100000):bX Tryz.prog (bZ cB) X (n+100) 213 [.int .i64 a,.int .i64 b] s (fun v A=>v = .int .i64 (pM a b)/\A=[]):=by
 refine enter Lc rfl hs ?_;unfold GK;refine rS (kM J (Q0 (rS (kM J (kM J (kO (qS J (kM J (kM J (kO (Dx J (kM J (kM J (Q0 (rQ (rS (kM J (Q0 (W1 (bM (rQ (rS (kM J (kO (eV J J (fun _=>(Q0 ?_)) (fun h=>absurd h dE))))))))))))))))))))))))));refine Y0 J (Q1 (W0 (rQ (W1 (rS (kM J (kM J (kM J (aV J J oM (kO (bV J J (fun h2=>?_) (fun h2=>?_))))))))))))
 ·refine Q0 (Y0 J (rS (kM J (kM J (Q0 (V2 (Y6 (W3 (W3 (Y6 (W3 (aO J ⟨congrArg (Value.int .i64) ?_,rfl⟩))))))))))))
  unfold pM
  first
   |exact(if_pos oM).symm
   |(rw[if_neg oM];exact(if_pos oM).symm)
   |(rw[if_neg oM,if_neg oM];exact(if_pos oM).symm)
   |(rw[if_neg oM,if_neg oM];exact(if_neg oM).symm)
 ·refine Q0 (U0 J (Q1 (Z1 (W0 (rI (kM J (aX J J dE (kM J (Q0 (W0 (bM (rQ (rS (kM J (kO (eV J J (fun _=>(Q0 (Y0 J (Q1 (W0 (rQ (W1 (rS (kM J ?_))))))))) (fun h=>absurd h dE)))))))))))))))))
  refine kM J (kM J (aV J J oM (kO (bV J J (fun h4=>?_) (fun h4=>?_)))))
  ·refine Q0 (Y0 J (rS (kM J (kM J (Q0 (V2 (Y6 (W3 (W3 (Y6 (W3 (aO J ⟨congrArg (Value.int .i64) ?_,rfl⟩))))))))))))
   unfold pM
   first
    |exact(if_pos oM).symm
    |(rw[if_neg oM];exact(if_pos oM).symm)
    |(rw[if_neg oM,if_neg oM];exact(if_pos oM).symm)
    |(rw[if_neg oM,if_neg oM];exact(if_neg oM).symm)
  ·refine Q0 (U0 J (Q1 (Z1 (W0 (rI (kM J (aX J J dE (kM J (Q0 (W0 (bM (rQ (rS (kM J (kO (eV J J (fun _=>(Q0 (Y0 J (Q1 (W0 (rQ (W1 (rS (kM J ?_))))))))) (fun h=>absurd h dE)))))))))))))))))
   refine kM J (kM J (aV J J oM (kO (bV J J (fun h6=>?_) (fun h6=>?_)))))
   ·refine Q0 (Y0 J (rS (kM J (kM J (Q0 (V2 (Y6 (W3 (W3 (Y6 (W3 (aO J ⟨congrArg (Value.int .i64) ?_,rfl⟩))))))))))))
    unfold pM
    first
     |exact(if_pos oM).symm
     |(rw[if_neg oM];exact(if_pos oM).symm)
     |(rw[if_neg oM,if_neg oM];exact(if_pos oM).symm)
     |(rw[if_neg oM,if_neg oM];exact(if_neg oM).symm)
   ·refine Q0 (U0 J (Q1 (Z1 (W0 (rI (kM J (aX J J dE (kM J (Q0 (W0 (bM (rQ (rS (kM J (kO (eV J J (fun h=>absurd h dE) (fun _=>(Q0 (U0 J (Y4 (Z2 (Z2 (Q3 (W0 (rS ?_)))))))))))))))))))))))))
    refine kM J (Q0 (V2 (aO J ⟨congrArg (Value.int .i64) ?_,rfl⟩)));unfold pM
    first
     |exact(if_pos oM).symm
     |(rw[if_neg oM];exact(if_pos oM).symm)
     |(rw[if_neg oM,if_neg oM];exact(if_pos oM).symm)
     |(rw[if_neg oM,if_neg oM];exact(if_neg oM).symm)
theorem uX(n:Nat)(a b:Int)(s:St)(hs:Wf s)(ha:0<a/\a<=100000)(hb:0<b/\b<=100000):bX Tryz.prog (bZ cB) X (n+100) 193 [.int .i64 a,.int .i64 b] s (fun v A=>v = .int .i64 (pM a b)/\A=[]):=by
 refine enter K7 rfl hs ?_;unfold GF;refine rS (kM J (Q0 (rQ (rS (kM J (Q0 (W1 (bM (rQ (rS (kM J (kO (eV J J (fun _=>(Q0 (Y0 J (Q1 (W0 (rQ (W1 (rS (kM J (kM J (aV J J oM (kM J ?_)))))))))))) (fun h=>absurd h dE))))))))))))));refine kO (bV J J (fun h2=>?_) (fun h2=>?_))
 ·refine kM J (V0 (V0 (V0 (V0 (V0 (cA J J J (Q0 (Y0 J (rS (kM J (kM J (Q0 (V2 (Y6 (W3 (W3 (Y6 (W3 (aO J ⟨congrArg (Value.int .i64) ?_,rfl⟩)))))))))))))))))))
  unfold pM
  first
   |exact(if_pos oM).symm
   |(rw[if_neg oM];exact(if_pos oM).symm)
   |(rw[if_neg oM,if_neg oM];exact(if_pos oM).symm)
   |(rw[if_neg oM,if_neg oM];exact(if_neg oM).symm)
 ·refine kM J (kG (U2 J (kG (U2 J (kG (FO J J oM (kG (U2 J (kG (bV J J (fun h3=>?_) (fun h3=>?_)))))))))))
  ·refine bK J J J (Q0 (Y0 J (rS (kM J (kM J (Q0 (V2 (Y6 (W3 (W3 (Y6 (W3 (aO J ⟨congrArg (Value.int .i64) ?_,rfl⟩)))))))))))))
   unfold pM
   first
    |exact(if_pos oM).symm
    |(rw[if_neg oM];exact(if_pos oM).symm)
    |(rw[if_neg oM,if_neg oM];exact(if_pos oM).symm)
    |(rw[if_neg oM,if_neg oM];exact(if_neg oM).symm)
  ·refine bK J J J (Q0 (U0 J (Q1 (Z1 (W0 (rI (kM J (aX J J dE (kM J (Q0 (W0 (bM (rQ (rS (kM J (kO (eV J J (fun _=>(Q0 (Y0 J (Q1 (W0 (rQ (W1 (rS ?_)))))))) (fun h=>absurd h dE))))))))))))))))))
   refine kM J (kM J (aV J J oM (kM J (kO (bV J J (fun h5=>?_) (fun h5=>?_))))))
   ·refine kM J (V0 (V0 (V0 (V0 (V0 (cA J J J (Q0 (Y0 J (rS (kM J (kM J (Q0 (V2 (Y6 (W3 (W3 (Y6 (W3 (aO J ⟨congrArg (Value.int .i64) ?_,rfl⟩)))))))))))))))))))
    unfold pM
    first
     |exact(if_pos oM).symm
     |(rw[if_neg oM];exact(if_pos oM).symm)
     |(rw[if_neg oM,if_neg oM];exact(if_pos oM).symm)
     |(rw[if_neg oM,if_neg oM];exact(if_neg oM).symm)
   ·refine kM J (kG (U2 J (kG (U2 J (kG (FO J J oM (kG (U2 J (kG (bV J J (fun h6=>?_) (fun h6=>?_)))))))))))
    ·refine bK J J J (Q0 (Y0 J (rS (kM J (kM J (Q0 (V2 (Y6 (W3 (W3 (Y6 (W3 (aO J ⟨congrArg (Value.int .i64) ?_,rfl⟩)))))))))))))
     unfold pM
     first
      |exact(if_pos oM).symm
      |(rw[if_neg oM];exact(if_pos oM).symm)
      |(rw[if_neg oM,if_neg oM];exact(if_pos oM).symm)
      |(rw[if_neg oM,if_neg oM];exact(if_neg oM).symm)
    ·refine bK J J J (Q0 (U0 J (Q1 (Z1 (W0 (rI (kM J (aX J J dE (kM J (Q0 (W0 (bM (rQ (rS (kM J (kO (eV J J (fun _=>(Q0 (Y0 J (Q1 (W0 (rQ (W1 (rS ?_)))))))) (fun h=>absurd h dE))))))))))))))))))
     refine kM J (kM J (aV J J oM (kM J (kO (bV J J (fun h8=>?_) (fun h8=>?_))))))
     ·refine kM J (V0 (V0 (V0 (V0 (V0 (cA J J J (Q0 (Y0 J (rS (kM J (kM J (Q0 (V2 (Y6 (W3 (W3 (Y6 (W3 (aO J ⟨congrArg (Value.int .i64) ?_,rfl⟩)))))))))))))))))))
      unfold pM
      first
       |exact(if_pos oM).symm
       |(rw[if_neg oM];exact(if_pos oM).symm)
       |(rw[if_neg oM,if_neg oM];exact(if_pos oM).symm)
       |(rw[if_neg oM,if_neg oM];exact(if_neg oM).symm)
     ·refine kM J (kG (U2 J (kG (U2 J (kG (FO J J oM (kG (U2 J (kG (bV J J (fun h9=>?_) (fun h9=>?_)))))))))))
      ·refine bK J J J (Q0 (Y0 J (rS (kM J (kM J (Q0 (V2 (Y6 (W3 (W3 (Y6 (W3 (aO J ⟨congrArg (Value.int .i64) ?_,rfl⟩)))))))))))))
       unfold pM
       first
        |exact(if_pos oM).symm
        |(rw[if_neg oM];exact(if_pos oM).symm)
        |(rw[if_neg oM,if_neg oM];exact(if_pos oM).symm)
        |(rw[if_neg oM,if_neg oM];exact(if_neg oM).symm)
      ·refine bK J J J (Q0 (U0 J (Q1 (Z1 (W0 (rI (kM J (aX J J dE (kM J (Q0 (W0 (bM (rQ (rS (kM J (kO (eV J J (fun h=>absurd h dE) (fun _=>(Q0 (U0 J (Y4 (Z2 (Z2 (Q3 (W0 ?_)))))))))))))))))))))))))
       refine rS (kM J (Q0 (V2 (aO J ⟨congrArg (Value.int .i64) ?_,rfl⟩))));unfold pM
       first
        |exact(if_pos oM).symm
        |(rw[if_neg oM];exact(if_pos oM).symm)
        |(rw[if_neg oM,if_neg oM];exact(if_pos oM).symm)
        |(rw[if_neg oM,if_neg oM];exact(if_neg oM).symm)
end
variable{l:List Int}{i:Nat}{G:List (Nat×Nat)}
def many(l:List Int)(i:Nat):Nat:=if i+2<l.length/\pM (l.getD (i+1) 0-l.getD i 0) (l.getD (i+2) 0-l.getD (i+1) 0)≠0 then 2 else 1
theorem dF(h:i+2<l.length)(h2:¬pM (l.getD (i+1) 0-l.getD i 0) (l.getD (i+2) 0-l.getD (i+1) 0)=0):many l i=2:=if_pos ⟨h,h2⟩
theorem dH(h:¬i+2<l.length):many l i=1:=if_neg (fun q=>h q.1)
theorem cL(h:pM (l.getD (i+1) 0-l.getD i 0) (l.getD (i+2) 0-l.getD (i+1) 0)=0):many l i=1:=if_neg (fun q=>q.2 h)
theorem cH(h:i+2<l.length)(h2:0<pM (l.getD (i+1) 0-l.getD i 0) (l.getD (i+2) 0-l.getD (i+1) 0)):many l i=2:=dF h oM
theorem cW(h:¬0<pM (l.getD (i+1) 0-l.getD i 0) (l.getD (i+2) 0-l.getD (i+1) 0)):many l i=1:=cL (by have:=BN (l.getD (i+1) 0-l.getD i 0) (l.getD (i+2) 0-l.getD (i+1) 0);omega)
theorem iF(l:List Int)(i:Nat):many l i=1∨many l i=2:=by unfold many;split <;> simp
def fW(l:List Int)(i:Nat):List (Nat×Nat):=if h:i+1<l.length then (i,many l i)::fW l (i+many l i) else []
termination_by l.length-i
decreasing_by have:=iF l i;omega
theorem Qn(hi:i+1<l.length):fW l i=(i,many l i)::fW l (i+many l i):=by rw[fW,dif_pos hi]
theorem Ln(hi:l.length<=i+1):fW l i=[]:=by rw[fW,dif_neg oM]
theorem dZ{i m:Nat}(h:fW l 0=G++fW l i)(hi:i+1<l.length)(hm:many l i=m):fW l 0=(G++[(i,m)])++fW l (i+m):=by
 rw[h,Qn hi,hm];simp
theorem iX(h:fW l 0=G++fW l i)(hi:l.length<=i+1):fW l 0=G:=by
 rw[h,Ln hi];simp
def jO(G:List (Nat×Nat)):List Value:=G.flatMap fun p=>[.int .i64 (p.1:Int),.int .i64 (p.2:Int)]
theorem dP:(jO G).length=G.length*2:=by
 induction G with
 |nil=>rfl
 |cons p G ih=>simp[jO] at ih ⊢;omega
theorem dQ{G H:List (Nat×Nat)}:jO (G++H)=jO G++jO H:=by simp[jO]
theorem wP:∀{k:Nat} {p:Nat×Nat},G[k]? = some p->(jO G)[k*2]? = some (.int .i64 (p.1:Int))/\(jO G)[k*2+1]? = some (.int .i64 (p.2:Int)):=by
 induction G with
 |nil=>intro k p h;simp at h
 |cons q G ih=>
  intro k p h;cases k with
  |zero=>simp at h;subst h;exact⟨rfl,rfl⟩
  |succ k=>
   have:=ih (k:=k) (p:=p) (by simpa using h);rw[show(k+1)*2=k*2+2 by omega];exact this
theorem Qo{l:List Int}:∀(f i:Nat),l.length<=i+f->∀p∈fW l i,p.1+p.2<l.length/\many l p.1=p.2
 |0,i,hf,p,hp=>by rw[fW,dif_neg oM] at hp;cases hp
 |f+1,i,hf,p,hp=>by
  rw[fW] at hp;by_cases hi:i+1<l.length
  ·rw[dif_pos hi] at hp
   have hm:=iF l i;rcases List.mem_cons.1 hp with rfl|hp
   ·refine⟨?_,rfl⟩
    show i+many l i<l.length;unfold many;split <;> omega
   ·exact Qo f (i+many l i) oM p hp
  ·rw[dif_neg hi] at hp;cases hp
theorem wQ{l:List Int}:∀(f i:Nat),l.length<=i+f->(fW l i).length<=f
 |0,i,hf=>by rw[fW,dif_neg oM];simp
 |f+1,i,hf=>by
  rw[fW];by_cases hi:i+1<l.length
  ·rw[dif_pos hi]
   have hm:=iF l i;have:=wQ (l:=l) f (i+many l i) oM;simp;omega
  ·rw[dif_neg hi];simp
section
variable{X:FuncId->List Value->St->(Value->St->Bool)->Bool}
theorem EZ(n:Nat)(a:Option Addr)(cap:Nat)(l:List Int)(s:St)(hs:Wf s)(hn:281474976710656<=n)(hl:aN s a l)(hp:tP 9 100000 l):bX Tryz.prog (bZ cB) X (n+300) 203 [.slice a l.length cap] s (fun v A=>∃b,v = .slice (some ⟨b,0,none⟩) (fW l 0).length OPEN/\A=[.row b 245 true (jO (fW l 0))]):=by
 refine enter K8 rfl hs ?_;unfold GG;have hlen:=hl.len;have z0:=hp.lo (0);have z1:=hp.lo (1);have z2:=hp.lo (2);have r0:1<l.length->l.getD (0) 0<l.getD (1) 0:=fun h=>hp.rise _ h
 have r1:2<l.length->l.getD (1) 0<l.getD (2) 0:=fun h=>hp.rise _ h
 have hm9:=hp.hm;have h29:=hp.h2;refine rS (kM J (Q0 (rS (kM J (Q0 (rQ (rS (kM J (Q0 (W1 (bM (rQ (rS (kM J (aX J J dE (kM J (aJ J hl.spot (dB J J (fun h1=>?_) (fun h1=>?_)))))))))))))))))))
 ·refine Q0 (Y0 J (Q1 (W0 (W1 (rS (kM J (Q0 (rQ (rS (kM J (aX J J dE (kM J (aJ J hl.spot (dB J J (fun h2=>?_) (fun h2=>?_)))))))))))))))
  ·refine kM J (kG (U2 J (kG (U2 J (kG (Y3 J J dE (kG (Q7 (j:=1) hl rfl rfl oM (by first|rfl|omega) oM (fun _ _ a3=>(kG (W6 J (hl.at a3 oM) (kG (U2 J (kG (U2 J (kG (Q7 (j:=0) hl rfl rfl oM (by first|rfl|omega) oM (fun _ _ a4=>(kG (W6 J (hl.at a4 oM) (kG (bN J J oM (kG (U2 J (kG (U2 J (kG (Y3 J J dE (kG (Q7 (j:=2) hl rfl rfl oM (by first|rfl|omega) oM (fun _ _ a5=>(kG (W6 J (hl.at a5 oM) (kG (U2 J (kG (U2 J (kG (Y3 J J dE (kG (Q7 (j:=1) hl rfl rfl oM (by first|rfl|omega) oM (fun _ _ a6=>(kG (W6 J (hl.at a6 oM) (kG (bN J J oM (kG (aI J J (fun s1 h1=>uW _ _ _ s1 h1.wf oM oM) (kG (V3 J J (fun h7=>?_) (fun h7=>?_)))))))))))))))))))))))))))))))))))))))))))))))))))
   ·refine cA J J J (Q0 (Y0 J (rI (kM J (Q0 (W0 (rS (kM J (kM J (kM J (eG J J (kO (bF J J J (fun b8=>(kO (gZ J J (fK.own .here rfl sM) dE oM oM (fun b9=>(kM J (Q0 (rI (kM J (kM J (aX J J dE (kM J (Q0 (Z1 (W0 ?_)))))))))))))))))))))))))))
    refine U4 (fun j e A=>∃(i b:Nat) (G:List (Nat×Nat)),e=[(0,.slice a l.length cap),(4,.int .i64 (i:Int)),(3,.slice (some ⟨b,0,none⟩) G.length OPEN)]/\A=(.row b 245 true (jO G)::[])/\j=l.length-i/\i<=l.length/\fW l 0=G++fW l i/\G.length<=i) 160 0 281474976710656 ?_ (j:=_) (env2:=_) (A2:=_) ?_ ?_ ?_ ?_ ⟨2,b9,[(0,2)],rfl,rfl,rfl,oM,(dZ (G:=[]) (i:=0) J oM (by first|exact dF oM aM|exact dH oM|exact cL aM|exact cH oM aM|exact cW aM)),sM⟩
    rotate_left
    ·omega
    ·omega
    ·exact lL
    ·exact(.q (.cons _ .slnil))
    rintro n hn j _ _ ⟨i,b,G,rfl,rfl,rfl,hi,hG,hGl⟩;have z0:=hp.lo (i);have z1:=hp.lo (i+1);have z2:=hp.lo (i+2);have r0:i+1<l.length->l.getD (i) 0<l.getD (i+1) 0:=fun h=>hp.rise _ h
    have r1:i+2<l.length->l.getD (i+1) 0<l.getD (i+2) 0:=fun h=>hp.rise _ h
    have hm9:=hp.hm;have h29:=hp.h2;refine rQ (rS (kM J (aX J J oM (kM J (aJ J hl.spot (dB J J (fun h10=>?_) (fun h10=>?_)))))))
    ·refine Q0 (Y0 J (Q1 (W0 (W1 (rS (kM J (Q0 (rQ (rS (kM J (aX J J oM (kM J (aJ J hl.spot (dB J J (fun h11=>?_) (fun h11=>?_)))))))))))))))
     ·refine kM J (kG (U2 J (kG (U2 J (kG (Y3 J J oM (kG (Q7 (j:=i+1) hl rfl rfl oM (by first|rfl|omega) oM (fun _ _ a12=>(kG (W6 J (hl.at a12 oM) (kG (U2 J (kG (U2 J (kG (Q7 (j:=i) hl rfl rfl oM (by first|rfl|omega) oM (fun _ _ a13=>(kG (W6 J (hl.at a13 oM) (kG (bN J J oM (kG (U2 J (kG (U2 J (kG (Y3 J J oM (kG (Q7 (j:=i+2) hl rfl rfl oM (by first|rfl|omega) oM (fun _ _ a14=>(kG (W6 J (hl.at a14 oM) (kG (U2 J (kG (U2 J (kG (Y3 J J oM (kG (Q7 (j:=i+1) hl rfl rfl oM (by first|rfl|omega) oM (fun _ _ a15=>(kG (W6 J (hl.at a15 oM) (kG (bN J J oM (kG (aI J J (fun s1 h1=>uW _ _ _ s1 h1.wf oM oM) (kG (V3 J J (fun h16=>?_) (fun h16=>?_)))))))))))))))))))))))))))))))))))))))))))))))))))
      ·refine cA J J J (Q0 (Y0 J (rI (kM J (Q0 (W0 (rS (kM J (kM J (kM J (eG J J (kO (bF J J J (fun b17=>(kO (cO J J (fK.own .here rfl sM) .h1 (by rw[dP]) (.inl ⟨rfl,rfl⟩) dE oM oM (fun b18=>(kM J (Q0 (rI (kM J (kM J (aX J J oM (kM J (Q0 (Z1 (W0 ?_)))))))))))))))))))))))))))
       exact⟨rfl,_,_,_,(show l.length-(i+2)<l.length-i from oM),(lc 0 J (lc 4 J (lc 3 J fF.nil))),(.q (.cons _ .slnil)),⟨i+2,b18,G++[(i,2)],sM,(by rw[dQ];rfl),rfl,oM,(dZ hG oM (by first|exact dF oM aM|exact dH oM|exact cL aM|exact cH oM aM|exact cW aM)),(by simp;omega)⟩⟩
      ·refine cA J J J (Q0 (U0 J (Q1 (W0 (rS (kM J (kM J (kM J (eG J J (kO (bF J J J (fun b19=>(kO (cO J J (fK.own .here rfl sM) .h1 (by rw[dP]) (.inl ⟨rfl,rfl⟩) dE oM oM (fun b20=>(kM J (Q0 (rI (kM J (kM J (aX J J oM (kM J (Q0 (Z1 (W0 ?_)))))))))))))))))))))))))
       exact⟨rfl,_,_,_,(show l.length-(i+1)<l.length-i from oM),(lc 0 J (lc 4 J (lc 3 J fF.nil))),(.q (.cons _ .slnil)),⟨i+1,b20,G++[(i,1)],sM,(by rw[dQ];rfl),rfl,oM,(dZ hG oM (by first|exact dF oM aM|exact dH oM|exact cL aM|exact cH oM aM|exact cW aM)),(by simp;omega)⟩⟩
     ·refine kM J (V0 (V0 (V0 (V0 (V0 (V0 (V0 (V0 (V0 (V0 (V0 (V0 (V0 (V0 (V0 (V0 (V0 (V0 (V0 (V0 (V0 (V0 (V0 ?_)))))))))))))))))))))))
      refine bK J J J (Q0 (U0 J (Q1 (W0 (rS (kM J (kM J (kM J (eG J J (kO (bF J J J (fun b21=>(kO (cO J J (fK.own .here rfl sM) .h1 (by rw[dP]) (.inl ⟨rfl,rfl⟩) dE oM oM (fun b22=>(kM J (Q0 (rI (kM J (kM J (aX J J oM (kM J (Q0 (Z1 (W0 ?_)))))))))))))))))))))))));exact⟨rfl,_,_,_,(show l.length-(i+1)<l.length-i from oM),(lc 0 J (lc 4 J (lc 3 J fF.nil))),(.q (.cons _ .slnil)),⟨i+1,b22,G++[(i,1)],sM,(by rw[dQ];rfl),rfl,oM,(dZ hG oM (by first|exact dF oM aM|exact dH oM|exact cL aM|exact cH oM aM|exact cW aM)),(by simp;omega)⟩⟩
    ·refine Q0 (U0 J (Y4 (Z2 (Z2 (Q3 (W0 (rS (kM J (kM J (Q0 (V2 ?_)))))))))))
     first
      |exact gH J (.refl _) ⟨b,by rw[iX hG oM],by rw[iX hG oM]⟩
      |(exfalso;omega)
   ·refine cA J J J (Q0 (U0 J (Q1 (W0 (rS (kM J (kM J (kM J (eG J J (kO (bF J J J (fun b23=>(kO (gZ J J (fK.own .here rfl sM) dE oM oM (fun b24=>(kM J (Q0 (rI (kM J (kM J (aX J J dE (kM J (Q0 (Z1 (W0 ?_)))))))))))))))))))))))))
    refine U4 (fun j e A=>∃(i b:Nat) (G:List (Nat×Nat)),e=[(0,.slice a l.length cap),(4,.int .i64 (i:Int)),(3,.slice (some ⟨b,0,none⟩) G.length OPEN)]/\A=(.row b 245 true (jO G)::[])/\j=l.length-i/\i<=l.length/\fW l 0=G++fW l i/\G.length<=i) 160 0 281474976710656 ?_ (j:=_) (env2:=_) (A2:=_) ?_ ?_ ?_ ?_ ⟨1,b24,[(0,1)],rfl,rfl,rfl,oM,(dZ (G:=[]) (i:=0) J oM (by first|exact dF oM aM|exact dH oM|exact cL aM|exact cH oM aM|exact cW aM)),sM⟩
    rotate_left
    ·omega
    ·omega
    ·exact lL
    ·exact(.q (.cons _ .slnil))
    rintro n hn j _ _ ⟨i,b,G,rfl,rfl,rfl,hi,hG,hGl⟩;have z0:=hp.lo (i);have z1:=hp.lo (i+1);have z2:=hp.lo (i+2);have r0:i+1<l.length->l.getD (i) 0<l.getD (i+1) 0:=fun h=>hp.rise _ h
    have r1:i+2<l.length->l.getD (i+1) 0<l.getD (i+2) 0:=fun h=>hp.rise _ h
    have hm9:=hp.hm;have h29:=hp.h2;refine rQ (rS (kM J (aX J J oM (kM J (aJ J hl.spot (dB J J (fun h25=>?_) (fun h25=>?_)))))))
    ·refine Q0 (Y0 J (Q1 (W0 (W1 (rS (kM J (Q0 (rQ (rS (kM J (aX J J oM (kM J (aJ J hl.spot (dB J J (fun h26=>?_) (fun h26=>?_)))))))))))))))
     ·refine kM J (kG (U2 J (kG (U2 J (kG (Y3 J J oM (kG (Q7 (j:=i+1) hl rfl rfl oM (by first|rfl|omega) oM (fun _ _ a27=>(kG (W6 J (hl.at a27 oM) (kG (U2 J (kG (U2 J (kG (Q7 (j:=i) hl rfl rfl oM (by first|rfl|omega) oM (fun _ _ a28=>(kG (W6 J (hl.at a28 oM) (kG (bN J J oM (kG (U2 J (kG (U2 J (kG (Y3 J J oM (kG (Q7 (j:=i+2) hl rfl rfl oM (by first|rfl|omega) oM (fun _ _ a29=>(kG (W6 J (hl.at a29 oM) (kG (U2 J (kG (U2 J (kG (Y3 J J oM (kG (Q7 (j:=i+1) hl rfl rfl oM (by first|rfl|omega) oM (fun _ _ a30=>(kG (W6 J (hl.at a30 oM) (kG (bN J J oM (kG (aI J J (fun s1 h1=>uW _ _ _ s1 h1.wf oM oM) (kG (V3 J J (fun h31=>?_) (fun h31=>?_)))))))))))))))))))))))))))))))))))))))))))))))))))
      ·refine cA J J J (Q0 (Y0 J (rI (kM J (Q0 (W0 (rS (kM J (kM J (kM J (eG J J (kO (bF J J J (fun b32=>(kO (cO J J (fK.own .here rfl sM) .h1 (by rw[dP]) (.inl ⟨rfl,rfl⟩) dE oM oM (fun b33=>(kM J (Q0 (rI (kM J (kM J (aX J J oM (kM J (Q0 (Z1 (W0 ?_)))))))))))))))))))))))))))
       exact⟨rfl,_,_,_,(show l.length-(i+2)<l.length-i from oM),(lc 0 J (lc 4 J (lc 3 J fF.nil))),(.q (.cons _ .slnil)),⟨i+2,b33,G++[(i,2)],sM,(by rw[dQ];rfl),rfl,oM,(dZ hG oM (by first|exact dF oM aM|exact dH oM|exact cL aM|exact cH oM aM|exact cW aM)),(by simp;omega)⟩⟩
      ·refine cA J J J (Q0 (U0 J (Q1 (W0 (rS (kM J (kM J (kM J (eG J J (kO (bF J J J (fun b34=>(kO (cO J J (fK.own .here rfl sM) .h1 (by rw[dP]) (.inl ⟨rfl,rfl⟩) dE oM oM (fun b35=>(kM J (Q0 (rI (kM J (kM J (aX J J oM (kM J (Q0 (Z1 (W0 ?_)))))))))))))))))))))))))
       exact⟨rfl,_,_,_,(show l.length-(i+1)<l.length-i from oM),(lc 0 J (lc 4 J (lc 3 J fF.nil))),(.q (.cons _ .slnil)),⟨i+1,b35,G++[(i,1)],sM,(by rw[dQ];rfl),rfl,oM,(dZ hG oM (by first|exact dF oM aM|exact dH oM|exact cL aM|exact cH oM aM|exact cW aM)),(by simp;omega)⟩⟩
     ·refine kM J (V0 (V0 (V0 (V0 (V0 (V0 (V0 (V0 (V0 (V0 (V0 (V0 (V0 (V0 (V0 (V0 (V0 (V0 (V0 (V0 (V0 (V0 (V0 ?_)))))))))))))))))))))))
      refine bK J J J (Q0 (U0 J (Q1 (W0 (rS (kM J (kM J (kM J (eG J J (kO (bF J J J (fun b36=>(kO (cO J J (fK.own .here rfl sM) .h1 (by rw[dP]) (.inl ⟨rfl,rfl⟩) dE oM oM (fun b37=>(kM J (Q0 (rI (kM J (kM J (aX J J oM (kM J (Q0 (Z1 (W0 ?_)))))))))))))))))))))))));exact⟨rfl,_,_,_,(show l.length-(i+1)<l.length-i from oM),(lc 0 J (lc 4 J (lc 3 J fF.nil))),(.q (.cons _ .slnil)),⟨i+1,b37,G++[(i,1)],sM,(by rw[dQ];rfl),rfl,oM,(dZ hG oM (by first|exact dF oM aM|exact dH oM|exact cL aM|exact cH oM aM|exact cW aM)),(by simp;omega)⟩⟩
    ·refine Q0 (U0 J (Y4 (Z2 (Z2 (Q3 (W0 (rS (kM J (kM J (Q0 (V2 ?_)))))))))))
     first
      |exact gH J (.refl _) ⟨b,by rw[iX hG oM],by rw[iX hG oM]⟩
      |(exfalso;omega)
  ·refine kM J (V0 (V0 (V0 (V0 (V0 (V0 (V0 (V0 (V0 (V0 (V0 (V0 (V0 (V0 (V0 (V0 (V0 (V0 (V0 (V0 (V0 (V0 (V0 ?_)))))))))))))))))))))))
   refine bK J J J (Q0 (U0 J (Q1 (W0 (rS (kM J (kM J (kM J (eG J J (kO (bF J J J (fun b38=>(kO (gZ J J (fK.own .here rfl sM) dE oM oM (fun b39=>(kM J (Q0 (rI (kM J (kM J (aX J J dE (kM J (Q0 (Z1 (W0 ?_)))))))))))))))))))))))));refine U4 (fun j e A=>∃(i b:Nat) (G:List (Nat×Nat)),e=[(0,.slice a l.length cap),(4,.int .i64 (i:Int)),(3,.slice (some ⟨b,0,none⟩) G.length OPEN)]/\A=(.row b 245 true (jO G)::[])/\j=l.length-i/\i<=l.length/\fW l 0=G++fW l i/\G.length<=i) 160 0 281474976710656 ?_ (j:=_) (env2:=_) (A2:=_) ?_ ?_ ?_ ?_ ⟨1,b39,[(0,1)],rfl,rfl,rfl,oM,(dZ (G:=[]) (i:=0) J oM (by first|exact dF oM aM|exact dH oM|exact cL aM|exact cH oM aM|exact cW aM)),sM⟩
   rotate_left
   ·omega
   ·omega
   ·exact lL
   ·exact(.q (.cons _ .slnil))
   rintro n hn j _ _ ⟨i,b,G,rfl,rfl,rfl,hi,hG,hGl⟩;have z0:=hp.lo (i);have z1:=hp.lo (i+1);have z2:=hp.lo (i+2);have r0:i+1<l.length->l.getD (i) 0<l.getD (i+1) 0:=fun h=>hp.rise _ h
   have r1:i+2<l.length->l.getD (i+1) 0<l.getD (i+2) 0:=fun h=>hp.rise _ h
   have hm9:=hp.hm;have h29:=hp.h2;refine rQ (rS (kM J (aX J J oM (kM J (aJ J hl.spot (dB J J (fun h40=>?_) (fun h40=>?_)))))))
   ·refine Q0 (Y0 J (Q1 (W0 (W1 (rS (kM J (Q0 (rQ (rS (kM J (aX J J oM (kM J (aJ J hl.spot (dB J J (fun h41=>?_) (fun h41=>?_)))))))))))))))
    ·refine kM J (kG (U2 J (kG (U2 J (kG (Y3 J J oM (kG (Q7 (j:=i+1) hl rfl rfl oM (by first|rfl|omega) oM (fun _ _ a42=>(kG (W6 J (hl.at a42 oM) (kG (U2 J (kG (U2 J (kG (Q7 (j:=i) hl rfl rfl oM (by first|rfl|omega) oM (fun _ _ a43=>(kG (W6 J (hl.at a43 oM) (kG (bN J J oM (kG (U2 J (kG (U2 J (kG (Y3 J J oM (kG (Q7 (j:=i+2) hl rfl rfl oM (by first|rfl|omega) oM (fun _ _ a44=>(kG (W6 J (hl.at a44 oM) (kG (U2 J (kG (U2 J (kG (Y3 J J oM (kG (Q7 (j:=i+1) hl rfl rfl oM (by first|rfl|omega) oM (fun _ _ a45=>(kG (W6 J (hl.at a45 oM) (kG (bN J J oM (kG (aI J J (fun s1 h1=>uW _ _ _ s1 h1.wf oM oM) (kG (V3 J J (fun h46=>?_) (fun h46=>?_)))))))))))))))))))))))))))))))))))))))))))))))))))
     ·refine cA J J J (Q0 (Y0 J (rI (kM J (Q0 (W0 (rS (kM J (kM J (kM J (eG J J (kO (bF J J J (fun b47=>(kO (cO J J (fK.own .here rfl sM) .h1 (by rw[dP]) (.inl ⟨rfl,rfl⟩) dE oM oM (fun b48=>(kM J (Q0 (rI (kM J (kM J (aX J J oM (kM J (Q0 (Z1 (W0 ?_)))))))))))))))))))))))))))
      exact⟨rfl,_,_,_,(show l.length-(i+2)<l.length-i from oM),(lc 0 J (lc 4 J (lc 3 J fF.nil))),(.q (.cons _ .slnil)),⟨i+2,b48,G++[(i,2)],sM,(by rw[dQ];rfl),rfl,oM,(dZ hG oM (by first|exact dF oM aM|exact dH oM|exact cL aM|exact cH oM aM|exact cW aM)),(by simp;omega)⟩⟩
     ·refine cA J J J (Q0 (U0 J (Q1 (W0 (rS (kM J (kM J (kM J (eG J J (kO (bF J J J (fun b49=>(kO (cO J J (fK.own .here rfl sM) .h1 (by rw[dP]) (.inl ⟨rfl,rfl⟩) dE oM oM (fun b50=>(kM J (Q0 (rI (kM J (kM J (aX J J oM (kM J (Q0 (Z1 (W0 ?_)))))))))))))))))))))))))
      exact⟨rfl,_,_,_,(show l.length-(i+1)<l.length-i from oM),(lc 0 J (lc 4 J (lc 3 J fF.nil))),(.q (.cons _ .slnil)),⟨i+1,b50,G++[(i,1)],sM,(by rw[dQ];rfl),rfl,oM,(dZ hG oM (by first|exact dF oM aM|exact dH oM|exact cL aM|exact cH oM aM|exact cW aM)),(by simp;omega)⟩⟩
    ·refine kM J (V0 (V0 (V0 (V0 (V0 (V0 (V0 (V0 (V0 (V0 (V0 (V0 (V0 (V0 (V0 (V0 (V0 (V0 (V0 (V0 (V0 (V0 (V0 ?_)))))))))))))))))))))))
     refine bK J J J (Q0 (U0 J (Q1 (W0 (rS (kM J (kM J (kM J (eG J J (kO (bF J J J (fun b51=>(kO (cO J J (fK.own .here rfl sM) .h1 (by rw[dP]) (.inl ⟨rfl,rfl⟩) dE oM oM (fun b52=>(kM J (Q0 (rI (kM J (kM J (aX J J oM (kM J (Q0 (Z1 (W0 ?_)))))))))))))))))))))))));exact⟨rfl,_,_,_,(show l.length-(i+1)<l.length-i from oM),(lc 0 J (lc 4 J (lc 3 J fF.nil))),(.q (.cons _ .slnil)),⟨i+1,b52,G++[(i,1)],sM,(by rw[dQ];rfl),rfl,oM,(dZ hG oM (by first|exact dF oM aM|exact dH oM|exact cL aM|exact cH oM aM|exact cW aM)),(by simp;omega)⟩⟩
   ·refine Q0 (U0 J (Y4 (Z2 (Z2 (Q3 (W0 (rS (kM J (kM J (Q0 (V2 ?_)))))))))))
    first
     |exact gH J (.refl _) ⟨b,by rw[iX hG oM],by rw[iX hG oM]⟩
     |(exfalso;omega)
 ·refine Q0 (U0 J (Y4 (Z2 (Z2 (Q3 (W0 (rS (kM J (kM J (Q0 (V2 ?_)))))))))))
  first
   |exact gH J (.refl _) ⟨_,by rw[iX hG oM],by rw[iX hG oM]⟩
   |(exfalso;omega)
theorem Lo(n:Nat)(a:Option Addr)(cap:Nat)(l:List Int)(s:St)(hs:Wf s)(hn:281474976710656<=n)(hl:aN s a l)(hp:tP 9 100000 l):bX Tryz.prog (bZ cB) X (n+300) 192 [.slice a l.length cap] s (fun v A=>∃b,v = .slice (some ⟨b,0,none⟩) (fW l 0).length OPEN/\A=[.row b 245 true (jO (fW l 0))]):=by
 refine enter K6 rfl hs ?_;unfold GE;have hlen:=hl.len;have z0:=hp.lo (0);have z1:=hp.lo (1);have z2:=hp.lo (2);have r0:1<l.length->l.getD (0) 0<l.getD (1) 0:=fun h=>hp.rise _ h
 have r1:2<l.length->l.getD (1) 0<l.getD (2) 0:=fun h=>hp.rise _ h
 have hm9:=hp.hm;have h29:=hp.h2;refine rS (kM J (Q0 (rS (kM J (Q0 (rS (kM J (Q0 (rQ (W1 (bM (rQ (rS (kM J (aX J J dE (kM J (aJ J hl.spot (dB J J (fun h1=>?_) (fun h1=>?_)))))))))))))))))))
 ·refine Q0 (Y0 J (Q1 (W0 (W1 (rS (kM J (Q0 (rQ (rS (kM J (aX J J dE (kM J (aJ J hl.spot (dB J J (fun h2=>?_) (fun h2=>?_)))))))))))))))
  ·refine kM J (kG (U2 J (kG (U2 J (kG (Y3 J J dE (kG (Q7 (j:=1) hl rfl rfl oM (by first|rfl|omega) oM (fun _ _ a3=>(kG (W6 J (hl.at a3 oM) (kG (U2 J (kG (U2 J (kG (Q7 (j:=0) hl rfl rfl oM (by first|rfl|omega) oM (fun _ _ a4=>(kG (W6 J (hl.at a4 oM) (kG (bN J J oM (kG (U2 J (kG (U2 J (kG (Y3 J J dE (kG (Q7 (j:=2) hl rfl rfl oM (by first|rfl|omega) oM (fun _ _ a5=>(kG (W6 J (hl.at a5 oM) (kG (U2 J (kG (U2 J (kG (Y3 J J dE (kG (Q7 (j:=1) hl rfl rfl oM (by first|rfl|omega) oM (fun _ _ a6=>(kG (W6 J (hl.at a6 oM) (kG (bN J J oM (kG (aI J J (fun s1 h1=>uX _ _ _ s1 h1.wf oM oM) (kG (dR J J (fun h7=>?_) (fun h7=>?_)))))))))))))))))))))))))))))))))))))))))))))))))))
   ·refine cA J J J (Q0 (Y0 J (rI (kM J (Q0 (W0 (rS (kM J (kM J (kM J (eG J J (kO (bF J J J (fun b8=>(kO (gZ J J (fK.own .here rfl sM) dE oM oM (fun b9=>(kM J (Q0 (rI (kM J (kM J (aX J J dE (kM J (Q0 (Z1 (W0 ?_)))))))))))))))))))))))))))
    refine U4 (fun j e A=>∃(i b:Nat) (G:List (Nat×Nat)),e=[(0,.slice a l.length cap),(4,.int .i64 (i:Int)),(3,.slice (some ⟨b,0,none⟩) G.length OPEN)]/\A=(.row b 245 true (jO G)::[])/\j=l.length-i/\i<=l.length/\fW l 0=G++fW l i/\G.length<=i) 160 0 281474976710656 ?_ (j:=_) (env2:=_) (A2:=_) ?_ ?_ ?_ ?_ ⟨2,b9,[(0,2)],rfl,rfl,rfl,oM,(dZ (G:=[]) (i:=0) J oM (by first|exact dF oM aM|exact dH oM|exact cL aM|exact cH oM aM|exact cW aM)),sM⟩
    rotate_left
    ·omega
    ·omega
    ·exact lL
    ·exact(.q (.cons _ .slnil))
    rintro n hn j _ _ ⟨i,b,G,rfl,rfl,rfl,hi,hG,hGl⟩;have z0:=hp.lo (i);have z1:=hp.lo (i+1);have z2:=hp.lo (i+2);have r0:i+1<l.length->l.getD (i) 0<l.getD (i+1) 0:=fun h=>hp.rise _ h
    have r1:i+2<l.length->l.getD (i+1) 0<l.getD (i+2) 0:=fun h=>hp.rise _ h
    have hm9:=hp.hm;have h29:=hp.h2;refine rQ (rS (kM J (aX J J oM (kM J (aJ J hl.spot (dB J J (fun h10=>?_) (fun h10=>?_)))))))
    ·refine Q0 (Y0 J (Q1 (W0 (W1 (rS (kM J (Q0 (rQ (rS (kM J (aX J J oM (kM J (aJ J hl.spot (dB J J (fun h11=>?_) (fun h11=>?_)))))))))))))))
     ·refine kM J (kG (U2 J (kG (U2 J (kG (Y3 J J oM (kG (Q7 (j:=i+1) hl rfl rfl oM (by first|rfl|omega) oM (fun _ _ a12=>(kG (W6 J (hl.at a12 oM) (kG (U2 J (kG (U2 J (kG (Q7 (j:=i) hl rfl rfl oM (by first|rfl|omega) oM (fun _ _ a13=>(kG (W6 J (hl.at a13 oM) (kG (bN J J oM (kG (U2 J (kG (U2 J (kG (Y3 J J oM (kG (Q7 (j:=i+2) hl rfl rfl oM (by first|rfl|omega) oM (fun _ _ a14=>(kG (W6 J (hl.at a14 oM) (kG (U2 J (kG (U2 J (kG (Y3 J J oM (kG (Q7 (j:=i+1) hl rfl rfl oM (by first|rfl|omega) oM (fun _ _ a15=>(kG (W6 J (hl.at a15 oM) (kG (bN J J oM (kG (aI J J (fun s1 h1=>uX _ _ _ s1 h1.wf oM oM) (kG (dR J J (fun h16=>?_) (fun h16=>?_)))))))))))))))))))))))))))))))))))))))))))))))))))
      ·refine cA J J J (Q0 (Y0 J (rI (kM J (Q0 (W0 (rS (kM J (kM J (kM J (eG J J (kO (bF J J J (fun b17=>(kO (cO J J (fK.own .here rfl sM) .h1 (by rw[dP]) (.inl ⟨rfl,rfl⟩) dE oM oM (fun b18=>(kM J (Q0 (rI (kM J (kM J (aX J J oM (kM J (Q0 (Z1 (W0 ?_)))))))))))))))))))))))))))
       exact⟨rfl,_,_,_,(show l.length-(i+2)<l.length-i from oM),(lc 0 J (lc 4 J (lc 3 J fF.nil))),(.q (.cons _ .slnil)),⟨i+2,b18,G++[(i,2)],sM,(by rw[dQ];rfl),rfl,oM,(dZ hG oM (by first|exact dF oM aM|exact dH oM|exact cL aM|exact cH oM aM|exact cW aM)),(by simp;omega)⟩⟩
      ·refine cA J J J (Q0 (U0 J (Q1 (W0 (rS (kM J (kM J (kM J (eG J J (kO (bF J J J (fun b19=>(kO (cO J J (fK.own .here rfl sM) .h1 (by rw[dP]) (.inl ⟨rfl,rfl⟩) dE oM oM (fun b20=>(kM J (Q0 (rI (kM J (kM J (aX J J oM (kM J (Q0 (Z1 (W0 ?_)))))))))))))))))))))))))
       exact⟨rfl,_,_,_,(show l.length-(i+1)<l.length-i from oM),(lc 0 J (lc 4 J (lc 3 J fF.nil))),(.q (.cons _ .slnil)),⟨i+1,b20,G++[(i,1)],sM,(by rw[dQ];rfl),rfl,oM,(dZ hG oM (by first|exact dF oM aM|exact dH oM|exact cL aM|exact cH oM aM|exact cW aM)),(by simp;omega)⟩⟩
     ·refine kM J (V0 (V0 (V0 (V0 (V0 (V0 (V0 (V0 (V0 (V0 (V0 (V0 (V0 (V0 (V0 (V0 (V0 (V0 (V0 (V0 (V0 (V0 (V0 ?_)))))))))))))))))))))))
      refine bK J J J (Q0 (U0 J (Q1 (W0 (rS (kM J (kM J (kM J (eG J J (kO (bF J J J (fun b21=>(kO (cO J J (fK.own .here rfl sM) .h1 (by rw[dP]) (.inl ⟨rfl,rfl⟩) dE oM oM (fun b22=>(kM J (Q0 (rI (kM J (kM J (aX J J oM (kM J (Q0 (Z1 (W0 ?_)))))))))))))))))))))))));exact⟨rfl,_,_,_,(show l.length-(i+1)<l.length-i from oM),(lc 0 J (lc 4 J (lc 3 J fF.nil))),(.q (.cons _ .slnil)),⟨i+1,b22,G++[(i,1)],sM,(by rw[dQ];rfl),rfl,oM,(dZ hG oM (by first|exact dF oM aM|exact dH oM|exact cL aM|exact cH oM aM|exact cW aM)),(by simp;omega)⟩⟩
    ·refine Q0 (U0 J (Y4 (Z2 (Z2 (Q3 (W0 (rS (kM J (kM J (Q0 (V2 ?_)))))))))))
     first
      |exact gH J (.refl _) ⟨b,by rw[iX hG oM],by rw[iX hG oM]⟩
      |(exfalso;omega)
   ·refine cA J J J (Q0 (U0 J (Q1 (W0 (rS (kM J (kM J (kM J (eG J J (kO (bF J J J (fun b23=>(kO (gZ J J (fK.own .here rfl sM) dE oM oM (fun b24=>(kM J (Q0 (rI (kM J (kM J (aX J J dE (kM J (Q0 (Z1 (W0 ?_)))))))))))))))))))))))))
    refine U4 (fun j e A=>∃(i b:Nat) (G:List (Nat×Nat)),e=[(0,.slice a l.length cap),(4,.int .i64 (i:Int)),(3,.slice (some ⟨b,0,none⟩) G.length OPEN)]/\A=(.row b 245 true (jO G)::[])/\j=l.length-i/\i<=l.length/\fW l 0=G++fW l i/\G.length<=i) 160 0 281474976710656 ?_ (j:=_) (env2:=_) (A2:=_) ?_ ?_ ?_ ?_ ⟨1,b24,[(0,1)],rfl,rfl,rfl,oM,(dZ (G:=[]) (i:=0) J oM (by first|exact dF oM aM|exact dH oM|exact cL aM|exact cH oM aM|exact cW aM)),sM⟩
    rotate_left
    ·omega
    ·omega
    ·exact lL
    ·exact(.q (.cons _ .slnil))
    rintro n hn j _ _ ⟨i,b,G,rfl,rfl,rfl,hi,hG,hGl⟩;have z0:=hp.lo (i);have z1:=hp.lo (i+1);have z2:=hp.lo (i+2);have r0:i+1<l.length->l.getD (i) 0<l.getD (i+1) 0:=fun h=>hp.rise _ h
    have r1:i+2<l.length->l.getD (i+1) 0<l.getD (i+2) 0:=fun h=>hp.rise _ h
    have hm9:=hp.hm;have h29:=hp.h2;refine rQ (rS (kM J (aX J J oM (kM J (aJ J hl.spot (dB J J (fun h25=>?_) (fun h25=>?_)))))))
    ·refine Q0 (Y0 J (Q1 (W0 (W1 (rS (kM J (Q0 (rQ (rS (kM J (aX J J oM (kM J (aJ J hl.spot (dB J J (fun h26=>?_) (fun h26=>?_)))))))))))))))
     ·refine kM J (kG (U2 J (kG (U2 J (kG (Y3 J J oM (kG (Q7 (j:=i+1) hl rfl rfl oM (by first|rfl|omega) oM (fun _ _ a27=>(kG (W6 J (hl.at a27 oM) (kG (U2 J (kG (U2 J (kG (Q7 (j:=i) hl rfl rfl oM (by first|rfl|omega) oM (fun _ _ a28=>(kG (W6 J (hl.at a28 oM) (kG (bN J J oM (kG (U2 J (kG (U2 J (kG (Y3 J J oM (kG (Q7 (j:=i+2) hl rfl rfl oM (by first|rfl|omega) oM (fun _ _ a29=>(kG (W6 J (hl.at a29 oM) (kG (U2 J (kG (U2 J (kG (Y3 J J oM (kG (Q7 (j:=i+1) hl rfl rfl oM (by first|rfl|omega) oM (fun _ _ a30=>(kG (W6 J (hl.at a30 oM) (kG (bN J J oM (kG (aI J J (fun s1 h1=>uX _ _ _ s1 h1.wf oM oM) (kG (dR J J (fun h31=>?_) (fun h31=>?_)))))))))))))))))))))))))))))))))))))))))))))))))))
      ·refine cA J J J (Q0 (Y0 J (rI (kM J (Q0 (W0 (rS (kM J (kM J (kM J (eG J J (kO (bF J J J (fun b32=>(kO (cO J J (fK.own .here rfl sM) .h1 (by rw[dP]) (.inl ⟨rfl,rfl⟩) dE oM oM (fun b33=>(kM J (Q0 (rI (kM J (kM J (aX J J oM (kM J (Q0 (Z1 (W0 ?_)))))))))))))))))))))))))))
       exact⟨rfl,_,_,_,(show l.length-(i+2)<l.length-i from oM),(lc 0 J (lc 4 J (lc 3 J fF.nil))),(.q (.cons _ .slnil)),⟨i+2,b33,G++[(i,2)],sM,(by rw[dQ];rfl),rfl,oM,(dZ hG oM (by first|exact dF oM aM|exact dH oM|exact cL aM|exact cH oM aM|exact cW aM)),(by simp;omega)⟩⟩
      ·refine cA J J J (Q0 (U0 J (Q1 (W0 (rS (kM J (kM J (kM J (eG J J (kO (bF J J J (fun b34=>(kO (cO J J (fK.own .here rfl sM) .h1 (by rw[dP]) (.inl ⟨rfl,rfl⟩) dE oM oM (fun b35=>(kM J (Q0 (rI (kM J (kM J (aX J J oM (kM J (Q0 (Z1 (W0 ?_)))))))))))))))))))))))))
       exact⟨rfl,_,_,_,(show l.length-(i+1)<l.length-i from oM),(lc 0 J (lc 4 J (lc 3 J fF.nil))),(.q (.cons _ .slnil)),⟨i+1,b35,G++[(i,1)],sM,(by rw[dQ];rfl),rfl,oM,(dZ hG oM (by first|exact dF oM aM|exact dH oM|exact cL aM|exact cH oM aM|exact cW aM)),(by simp;omega)⟩⟩
     ·refine kM J (V0 (V0 (V0 (V0 (V0 (V0 (V0 (V0 (V0 (V0 (V0 (V0 (V0 (V0 (V0 (V0 (V0 (V0 (V0 (V0 (V0 (V0 (V0 ?_)))))))))))))))))))))))
      refine bK J J J (Q0 (U0 J (Q1 (W0 (rS (kM J (kM J (kM J (eG J J (kO (bF J J J (fun b36=>(kO (cO J J (fK.own .here rfl sM) .h1 (by rw[dP]) (.inl ⟨rfl,rfl⟩) dE oM oM (fun b37=>(kM J (Q0 (rI (kM J (kM J (aX J J oM (kM J (Q0 (Z1 (W0 ?_)))))))))))))))))))))))));exact⟨rfl,_,_,_,(show l.length-(i+1)<l.length-i from oM),(lc 0 J (lc 4 J (lc 3 J fF.nil))),(.q (.cons _ .slnil)),⟨i+1,b37,G++[(i,1)],sM,(by rw[dQ];rfl),rfl,oM,(dZ hG oM (by first|exact dF oM aM|exact dH oM|exact cL aM|exact cH oM aM|exact cW aM)),(by simp;omega)⟩⟩
    ·refine Q0 (U0 J (Y4 (Z2 (Z2 (Q3 (W0 (rS (kM J (kM J (Q0 (V2 ?_)))))))))))
     first
      |exact gH J (.refl _) ⟨b,by rw[iX hG oM],by rw[iX hG oM]⟩
      |(exfalso;omega)
  ·refine kM J (V0 (V0 (V0 (V0 (V0 (V0 (V0 (V0 (V0 (V0 (V0 (V0 (V0 (V0 (V0 (V0 (V0 (V0 (V0 (V0 (V0 (V0 (V0 ?_)))))))))))))))))))))))
   refine bK J J J (Q0 (U0 J (Q1 (W0 (rS (kM J (kM J (kM J (eG J J (kO (bF J J J (fun b38=>(kO (gZ J J (fK.own .here rfl sM) dE oM oM (fun b39=>(kM J (Q0 (rI (kM J (kM J (aX J J dE (kM J (Q0 (Z1 (W0 ?_)))))))))))))))))))))))));refine U4 (fun j e A=>∃(i b:Nat) (G:List (Nat×Nat)),e=[(0,.slice a l.length cap),(4,.int .i64 (i:Int)),(3,.slice (some ⟨b,0,none⟩) G.length OPEN)]/\A=(.row b 245 true (jO G)::[])/\j=l.length-i/\i<=l.length/\fW l 0=G++fW l i/\G.length<=i) 160 0 281474976710656 ?_ (j:=_) (env2:=_) (A2:=_) ?_ ?_ ?_ ?_ ⟨1,b39,[(0,1)],rfl,rfl,rfl,oM,(dZ (G:=[]) (i:=0) J oM (by first|exact dF oM aM|exact dH oM|exact cL aM|exact cH oM aM|exact cW aM)),sM⟩
   rotate_left
   ·omega
   ·omega
   ·exact lL
   ·exact(.q (.cons _ .slnil))
   rintro n hn j _ _ ⟨i,b,G,rfl,rfl,rfl,hi,hG,hGl⟩;have z0:=hp.lo (i);have z1:=hp.lo (i+1);have z2:=hp.lo (i+2);have r0:i+1<l.length->l.getD (i) 0<l.getD (i+1) 0:=fun h=>hp.rise _ h
   have r1:i+2<l.length->l.getD (i+1) 0<l.getD (i+2) 0:=fun h=>hp.rise _ h
   have hm9:=hp.hm;have h29:=hp.h2;refine rQ (rS (kM J (aX J J oM (kM J (aJ J hl.spot (dB J J (fun h40=>?_) (fun h40=>?_)))))))
   ·refine Q0 (Y0 J (Q1 (W0 (W1 (rS (kM J (Q0 (rQ (rS (kM J (aX J J oM (kM J (aJ J hl.spot (dB J J (fun h41=>?_) (fun h41=>?_)))))))))))))))
    ·refine kM J (kG (U2 J (kG (U2 J (kG (Y3 J J oM (kG (Q7 (j:=i+1) hl rfl rfl oM (by first|rfl|omega) oM (fun _ _ a42=>(kG (W6 J (hl.at a42 oM) (kG (U2 J (kG (U2 J (kG (Q7 (j:=i) hl rfl rfl oM (by first|rfl|omega) oM (fun _ _ a43=>(kG (W6 J (hl.at a43 oM) (kG (bN J J oM (kG (U2 J (kG (U2 J (kG (Y3 J J oM (kG (Q7 (j:=i+2) hl rfl rfl oM (by first|rfl|omega) oM (fun _ _ a44=>(kG (W6 J (hl.at a44 oM) (kG (U2 J (kG (U2 J (kG (Y3 J J oM (kG (Q7 (j:=i+1) hl rfl rfl oM (by first|rfl|omega) oM (fun _ _ a45=>(kG (W6 J (hl.at a45 oM) (kG (bN J J oM (kG (aI J J (fun s1 h1=>uX _ _ _ s1 h1.wf oM oM) (kG (dR J J (fun h46=>?_) (fun h46=>?_)))))))))))))))))))))))))))))))))))))))))))))))))))
     ·refine cA J J J (Q0 (Y0 J (rI (kM J (Q0 (W0 (rS (kM J (kM J (kM J (eG J J (kO (bF J J J (fun b47=>(kO (cO J J (fK.own .here rfl sM) .h1 (by rw[dP]) (.inl ⟨rfl,rfl⟩) dE oM oM (fun b48=>(kM J (Q0 (rI (kM J (kM J (aX J J oM (kM J (Q0 (Z1 (W0 ?_)))))))))))))))))))))))))))
      exact⟨rfl,_,_,_,(show l.length-(i+2)<l.length-i from oM),(lc 0 J (lc 4 J (lc 3 J fF.nil))),(.q (.cons _ .slnil)),⟨i+2,b48,G++[(i,2)],sM,(by rw[dQ];rfl),rfl,oM,(dZ hG oM (by first|exact dF oM aM|exact dH oM|exact cL aM|exact cH oM aM|exact cW aM)),(by simp;omega)⟩⟩
     ·refine cA J J J (Q0 (U0 J (Q1 (W0 (rS (kM J (kM J (kM J (eG J J (kO (bF J J J (fun b49=>(kO (cO J J (fK.own .here rfl sM) .h1 (by rw[dP]) (.inl ⟨rfl,rfl⟩) dE oM oM (fun b50=>(kM J (Q0 (rI (kM J (kM J (aX J J oM (kM J (Q0 (Z1 (W0 ?_)))))))))))))))))))))))))
      exact⟨rfl,_,_,_,(show l.length-(i+1)<l.length-i from oM),(lc 0 J (lc 4 J (lc 3 J fF.nil))),(.q (.cons _ .slnil)),⟨i+1,b50,G++[(i,1)],sM,(by rw[dQ];rfl),rfl,oM,(dZ hG oM (by first|exact dF oM aM|exact dH oM|exact cL aM|exact cH oM aM|exact cW aM)),(by simp;omega)⟩⟩
    ·refine kM J (V0 (V0 (V0 (V0 (V0 (V0 (V0 (V0 (V0 (V0 (V0 (V0 (V0 (V0 (V0 (V0 (V0 (V0 (V0 (V0 (V0 (V0 (V0 ?_)))))))))))))))))))))))
     refine bK J J J (Q0 (U0 J (Q1 (W0 (rS (kM J (kM J (kM J (eG J J (kO (bF J J J (fun b51=>(kO (cO J J (fK.own .here rfl sM) .h1 (by rw[dP]) (.inl ⟨rfl,rfl⟩) dE oM oM (fun b52=>(kM J (Q0 (rI (kM J (kM J (aX J J oM (kM J (Q0 (Z1 (W0 ?_)))))))))))))))))))))))));exact⟨rfl,_,_,_,(show l.length-(i+1)<l.length-i from oM),(lc 0 J (lc 4 J (lc 3 J fF.nil))),(.q (.cons _ .slnil)),⟨i+1,b52,G++[(i,1)],sM,(by rw[dQ];rfl),rfl,oM,(dZ hG oM (by first|exact dF oM aM|exact dH oM|exact cL aM|exact cH oM aM|exact cW aM)),(by simp;omega)⟩⟩
   ·refine Q0 (U0 J (Y4 (Z2 (Z2 (Q3 (W0 (rS (kM J (kM J (Q0 (V2 ?_)))))))))))
    first
     |exact gH J (.refl _) ⟨b,by rw[iX hG oM],by rw[iX hG oM]⟩
     |(exfalso;omega)
 ·refine Q0 (U0 J (Y4 (Z2 (Z2 (Q3 (W0 (rS (kM J (kM J (Q0 (V2 ?_)))))))))))
  first
   |exact gH J (.refl _) ⟨_,by rw[iX hG oM],by rw[iX hG oM]⟩
   |(exfalso;omega)
end
variable{l w:List Int}{i k m:Nat}{p:Nat×Nat}{G:List (Nat×Nat)}
theorem yS(h:many l i=2):¬pM (l.getD (i+1) 0-l.getD i 0) (l.getD (i+2) 0-l.getD (i+1) 0)=0:=fun q=>by
 rw[cL q] at h;cases h
theorem yT{a b:Int}(h:¬pM a b=0):pM a b=1∨pM a b=2∨pM a b=3:=by
 rcases BN a b with q|q
 ·exact absurd q h
 ·exact q
def xS(l w:List Int)(i:Nat):List Int:=
 (w.set i (w.getD i 0+18*(l.getD (i+1) 0-l.getD i 0))).set (i+1) (w.getD (i+1) 0+18*(l.getD (i+1) 0-l.getD i 0))
def AB(a b k:Int):Int:=Int.tdiv 6 k*(1+k)*min a b
def eB(l w:List Int)(i:Nat)(k:Int):List Int:=
 let c:=AB (l.getD (i+1) 0-l.getD i 0) (l.getD (i+2) 0-l.getD (i+1) 0) k
 if l.getD (i+2) 0-l.getD (i+1) 0<l.getD (i+1) 0-l.getD i 0 then
  ((w.set i (w.getD i 0+c*(2*k-1))).set (i+1) (w.getD (i+1) 0+c*(1+k)*(1+k))).set (i+2) (w.getD (i+2) 0+c*k*(2-k))
 else ((w.set i (w.getD i 0+c*k*(2-k))).set (i+1) (w.getD (i+1) 0+c*(1+k)*(1+k))).set (i+2) (w.getD (i+2) 0+c*(2*k-1))
def mH(l w:List Int)(p:Nat×Nat):List Int:=
 if p.2=1 then xS l w p.1 else eB l w p.1 (pM (l.getD (p.1+1) 0-l.getD p.1 0) (l.getD (p.1+2) 0-l.getD (p.1+1) 0))
def W(l:List Int)(k:Nat):List Int:=((fW l 0).take k).foldl (mH l) (List.replicate l.length 0)
def fG(l:List Int):List Int:=(fW l 0).foldl (mH l) (List.replicate l.length 0)
theorem DD:(mH l w p).length=w.length:=by
 unfold mH xS eB;split
 ·simp
 ·split <;> simp
theorem E0(h:(fW l 0)[k]? = some p):W l (k+1)=mH l (W l k) p:=by
 unfold W;rw[List.take_add_one,h,List.foldl_append];rfl
theorem nX(h:(fW l 0)[k]? = some (i,m))(hm:m=1):W l (k+1)=xS l (W l k) i:=by
 rw[E0 h];unfold mH;rw[if_pos hm]
theorem fU{r:Int}(h:(fW l 0)[k]? = some (i,m))(hm:m=2)(hr:pM (l.getD (i+1) 0-l.getD i 0) (l.getD (i+2) 0-l.getD (i+1) 0)=r):W l (k+1)=eB l (W l k) i r:=by
 rw[E0 h];unfold mH;rw[if_neg (by show ¬m=1;omega)];show eB l (W l k) i (pM _ _)=_;rw[hr]
theorem cI:∀{k:Nat},(W l k).length=l.length:=by
 have key:∀(G:List (Nat×Nat)) (w:List Int),(G.foldl (mH l) w).length=w.length:=by
  intro G
  induction G with
  |nil=>intro w;rfl
  |cons p G ih=>intro w;rw[List.foldl_cons,ih,DD]
 intro k;unfold W;rw[key];simp
theorem G0(h:(fW l 0).length<=k):W l k=fG l:=by unfold W fG;rw[List.take_of_length_le h]
theorem eN:(fG l).length=l.length:=by rw[<-G0 (Nat.le_refl _)];exact cI
def Bd(w:List Int)(M:Int):Prop:=∀j,-M<=w.getD j 0/\w.getD j 0<=M
theorem mE{M:Int}{v:Int}(h:Bd w M)(hv:-M<=v/\v<=M):Bd (w.set i v) M:=by
 intro j;by_cases hij:i=j
 ·subst hij
  by_cases hi:i<w.length
  ·have:(w.set i v).getD i 0=v:=by simp[List.getD_eq_getElem?_getD,hi]
   rw[this];exact hv
  ·rw[List.set_eq_of_length_le oM];exact h i
 ·rw[getD_set_ne hij];exact h j
theorem Pt{M:Int}(hp:tP 9 100000 l)(hin:p.1+p.2<l.length)(hm:many l p.1=p.2)(h0:0<=M)(h:Bd w M):Bd (mH l w p) (M+20000000):=by
 have hN:Bd w (M+20000000):=fun j=>by have:=h j;omega
 obtain⟨i,m⟩:=p;have z0:=hp.lo i;have z1:=hp.lo (i+1);have z2:=hp.lo (i+2);have b0:=h i;have b1:=h (i+1);have b2:=h (i+2);have hm':many l i=m:=hm;have hin':i+m<l.length:=hin;unfold mH;rcases iF l i with q|q
 ·rw[if_pos (by show m=1;omega)]
  show Bd (xS l w i) _;unfold xS;exact mE (mE hN oM) oM
 ·rw[if_neg (by show ¬m=1;omega)]
  have r0:=hp.rise i oM;have r1:=hp.rise (i+1) oM;show Bd (eB l w i (pM _ _)) _;rcases yT (yS q) with hk|hk|hk
  ·rw[hk]
   unfold eB;have hu:AB (l.getD (i+1) 0-l.getD i 0) (l.getD (i+2) 0-l.getD (i+1) 0) 1=12*min (l.getD (i+1) 0-l.getD i 0) (l.getD (i+2) 0-l.getD (i+1) 0):=rfl;rw[hu];split <;> exact mE (mE (mE hN oM) oM) oM
  ·rw[hk]
   unfold eB;have hu:AB (l.getD (i+1) 0-l.getD i 0) (l.getD (i+2) 0-l.getD (i+1) 0) 2=9*min (l.getD (i+1) 0-l.getD i 0) (l.getD (i+2) 0-l.getD (i+1) 0):=rfl;rw[hu];split <;> exact mE (mE (mE hN oM) oM) oM
  ·rw[hk]
   unfold eB;have hu:AB (l.getD (i+1) 0-l.getD i 0) (l.getD (i+2) 0-l.getD (i+1) 0) 3=8*min (l.getD (i+1) 0-l.getD i 0) (l.getD (i+2) 0-l.getD (i+1) 0):=rfl;rw[hu];split <;> exact mE (mE (mE hN oM) oM) oM
theorem E2(h:(fW l 0)[k]? = some p):p.1+p.2<l.length/\many l p.1=p.2:=Qo l.length 0 oM p (List.mem_of_getElem? h)
theorem Cv{l:List Int}(hp:tP 9 100000 l):∀k:Nat,Bd (W l k) (20000000*(k:Int))
 |0=>fun j=>by
  have:(W l 0).getD j 0=0:=by
   show(List.replicate l.length (0:Int)).getD j 0=0;rw[List.getD_eq_getElem?_getD,List.getElem?_replicate];split <;> rfl
  rw[this];omega
 |k+1=>by
  cases hk:(fW l 0)[k]? with
  |none=>
   have h1:W l (k+1)=W l k:=by unfold W;rw[List.take_add_one,hk];simp
   rw[h1];intro j;have:=Cv hp k j;omega
  |some p=>
   rw[E0 hk];obtain⟨h1,h2⟩:=E2 hk;have:=Pt hp h1 h2 oM (Cv hp k);intro j;have:=this j;omega
theorem fI(hp:tP 9 100000 l):Bd (fG l) 200000000:=by
 intro j;have h1:=Cv hp (fW l 0).length j;rw[G0 (Nat.le_refl _)] at h1;have:=wQ (l:=l) l.length 0 oM;have:=hp.hm;omega
theorem AC{α:Type}{l:List α}(h:k<l.length):∃p,l[k]? = some p:=⟨l[k],List.getElem?_eq_getElem h⟩
theorem H0(h:G[k]? = some (i,m)):jD (jO G) (0+k*2) 2=some [.int .i64 (i:Int),.int .i64 (m:Int)]:=by
 obtain⟨h1,h2⟩:=wP h;rw[Nat.zero_add];simp only[jD,h1,h2]
theorem H1(h:G[k]? = some (i,m)):(jO G)[0+k*2+0]? = some (.int .i64 (i:Int)):=by
 rw[Nat.zero_add];exact(wP h).1
theorem H2(h:G[k]? = some (i,m)):(jO G)[0+k*2+1]? = some (.int .i64 (m:Int)):=by
 rw[Nat.zero_add];exact(wP h).2
section
variable{X:FuncId->List Value->St->(Value->St->Bool)->Bool}
theorem rW(n:Nat)(a:Option Addr)(cap:Nat)(l:List Int)(s:St)(hs:Wf s)(hn:562949953421312<=n)(hl:aN s a l)(hp:tP 9 100000 l):bX Tryz.prog (bZ cB) X (n+900) 151 [.slice a l.length cap] s (fun v A=>∃b,v = .slice (some ⟨b,0,none⟩) l.length l.length/\A=[.row b 3 false (ints (fG l))]):=by
 refine enter KJ rfl hs ?_;unfold Gi;have hlen:=hl.len;have hm9:=hp.hm;have hG9:=wQ (l:=l) l.length 0 oM;refine rS (kM J (Q0 (rS (kM J (aJ J hl.spot (kO (oI J J oM oM oM (fun b1=>(eG J J (aY J J (fun b2=>(kZ (Q6 J J .here rfl rfl rfl rfl (Q0 (rS (kM J (kO (lF J J (kG (bI J J K1 rfl ?_))))))))))))))))))));unfold Gz;refine rS (kM J (kO (Z4 J J (fun s1 h1=>EZ _ _ _ _ s1 h1.wf oM (hl.ext hs h1.2.1) hp) (fun v1 A1 q1=>?_))));obtain⟨b3,rfl,rfl⟩:=q1;refine kO (cK J (kM J (Q0 (W1 (U4 (fun j e A=>∃(k:Nat),e=[(0,.slice a l.length cap),(1,.func (.func 187) ⟨[.pointer (some ⟨b2,0,none⟩)]⟩ ⟨[]⟩),(7,.slice (some ⟨b3,0,none⟩) (fW l 0).length OPEN),(8,.int .i64 ((fW l 0).length:Int)),(9,.int .i64 (k:Int))]/\A=(.row b3 245 true (jO (fW l 0))::(.row b2 238 false ([.slice (some ⟨b1,0,none⟩) l.length l.length,.slice none 0 0,.int .i64 0])::(.row b1 3 false (ints (W l k))::[])))/\j=(fW l 0).length-k/\k<=(fW l 0).length) 400 0 281474976710656 ?_ (j:=_) (env2:=_) (A2:=_) ?_ ?_ ?_ ?_ ⟨0,rfl,rfl,rfl,oM⟩)))))
 rotate_left
 ·omega
 ·omega
 ·exact lL
 ·exact(.q (.q (.q .slnil)))
 rintro n hn j _ _ ⟨k,rfl,rfl,rfl,hkl⟩;refine rS (dB J J (fun h4=>?_) (fun h4=>?_))
 ·obtain⟨⟨i,m⟩,hgk⟩:=AC (l:=fW l 0) (k:=k) oM
  obtain⟨hin,hmm⟩:=E2 hgk;simp only at hin hmm;have hmc:=iF l i;have z0:=hp.lo (i);have z1:=hp.lo (i+1);have z2:=hp.lo (i+2);have r0:i+1<l.length->l.getD (i) 0<l.getD (i+1) 0:=fun h=>hp.rise _ h
  have r1:i+2<l.length->l.getD (i+1) 0<l.getD (i+2) 0:=fun h=>hp.rise _ h
  have hm9:=hp.hm;have h29:=hp.h2;have b0:=Cv hp k i;have b1:=Cv hp k (i+1);have b2:=Cv hp k (i+2);have hG9:=wQ (l:=l) l.length 0 oM;refine Q0 (rQ (Y0 J (Q1 (W0 (rQ (W1 (rS (cN (j:=k) J J oM oM (dD J dE .here (H0 hgk) (aY J J (fun b5=>(kZ (Q6 J J .here rfl rfl rfl rfl (Q0 (rS (aH J (aL J .here rfl (kO (bV J J (fun h6=>?_) (fun h6=>?_))))))))))))))))))))
  ·have hm1:m=1:=oM
   refine Q0 (Y0 J (rI (kM J (aH J (aL J .here rfl (kM J (kG (bI J J K9 rfl ?_))))))));unfold GH;refine rS (kM J (kM J (aX J J oM (kO (Q7 (j:=i+1) hl rfl rfl oM (by first|rfl|omega) oM (fun _ _ a7=>(kO (W6 J (hl.at a7 oM) (kM J (kM J (kO (Q7 (j:=i) hl rfl rfl oM (by first|rfl|omega) oM (fun _ _ a8=>(kO (W6 J (hl.at a8 oM) (kO (bN J J oM (aV J J oM (kM J (Q0 (rS (kM J (kM J (kM J (kG (bI J J dW rfl ?_))))))))))))))))))))))))));unfold iD;refine rI (kM J (eT J (aH J (aL J .h2 J (kM J (cN (j:=i) J J oM oM (kO (Q5 (x:=(W l k).getD (i) 0) J .h3 (by simp[cI];omega) (by first|rfl|(rw[getD_set_ne oM,getD_set_ne oM];done)|(rw[getD_set_ne oM];done)) (kM J (aX J J oM (cN (j:=i) J J oM oM (kZ (W7 J J .h3 (by first|omega|(simp;done)|(simp[cI];omega)|(simp;omega)) (Q0 (bH .nil (Q0 (rI (kM J (kM J (aX J J oM (kM J (kG (bI J J dW rfl ?_)))))))))))))))))))))));unfold iD;refine rI (kM J (eT J (aH J (aL J .h2 J (kM J (cN (j:=i+1) J J oM oM (kO (Q5 (x:=(W l k).getD (i+1) 0) J .h3 (by simp[cI];omega) (by first|rfl|(rw[getD_set_ne oM,getD_set_ne oM];done)|(rw[getD_set_ne oM];done)) (kM J (aX J J oM (cN (j:=i+1) J J oM oM (kZ (W7 J J .h3 (by first|omega|(simp;done)|(simp[cI];omega)|(simp;omega)) (Q0 (bH .nil (Q0 (bH .nil (Q0 (Z1 (W0 (rI (aX J J oM (kM J (Q0 (W0 ?_)))))))))))))))))))))))));exact⟨rfl,_,_,_,(show(fW l 0).length-(k+1)<(fW l 0).length-k from oM),lL,(.cons _ (.q (.q (.q .slnil)))),⟨k+1,rfl,(by first
    |(rw[nX hgk hm1];first|done|rfl)
    |(rw[fU hgk hm2 hk];unfold eB;dsimp only;rw[if_pos aM];first|done|rfl)
    |(rw[fU hgk hm2 hk];unfold eB;dsimp only;rw[if_neg aM];first|done|rfl)),rfl,oM⟩⟩
  ·have hm2:m=2:=oM
   have hrat:=yS (hmm.trans hm2);refine Q0 (U0 J (rI (kM J (aH J (aL J .here rfl (kM J (kG (bI J J La rfl ?_))))))));unfold GI;refine rS (kM J (kM J (aX J J oM (kO (Q7 (j:=i+1) hl rfl rfl oM (by first|rfl|omega) oM (fun _ _ a9=>(kO (W6 J (hl.at a9 oM) (kM J (kM J (kO (Q7 (j:=i) hl rfl rfl oM (by first|rfl|omega) oM (fun _ _ a10=>(kO (W6 J (hl.at a10 oM) (kO (bN J J oM (kM J (kM J (aX J J oM (kO (Q7 (j:=i+2) hl rfl rfl oM (by first|rfl|omega) oM (fun _ _ a11=>(kO (W6 J (hl.at a11 oM) (kM J (kM J (aX J J oM (kO (Q7 (j:=i+1) hl rfl rfl oM (by first|rfl|omega) oM (fun _ _ a12=>(kO (W6 J (hl.at a12 oM) (kO (bN J J oM (kM J (kM J ?_)))))))))))))))))))))))))))))))))))));refine Q0 (rS (kM J (kM J (kO (Z4 J J (fun s1 h1=>uW _ _ _ s1 h1.wf oM oM) (fun v1 A1 q1=>?_))))));obtain⟨rfl,rfl⟩:=q1;rcases yT hrat with hk|hk|hk
   ·rw[hk]
    refine kM J (Q0 (rS (kM J (kO (wN (q:=6) J J dE J dE (kM J (aX J J dE (aV J J dE (kM J (kM J (kO (qS J (aV J J oM (kM J (Q0 (rS (kM J (kM J (aV J J oM (kM J (kO (bN J J dE (aV J J oM (kM J (kM J (aV J J dE ?_))))))))))))))))))))))))));refine kO (bN J J dE (aV J J oM (kM J (kM J (Q0 (rQ (rS (kM J (kM J (kO (dR J J (fun h13=>?_) (fun h13=>?_))))))))))))
    ·refine Q0 (Y0 J (rI (kM J (kM J (kM J (kM J (Q0 (W0 (rS (kM J (kM J (kM J (kG (bI J J dW rfl ?_))))))))))))))
     unfold iD;refine rI (kM J (eT J (aH J (aL J .h2 J (kM J (cN (j:=i) J J oM oM (kO (Q5 (x:=(W l k).getD (i) 0) J .h3 (by simp[cI];omega) (by first|rfl|(rw[getD_set_ne oM,getD_set_ne oM];done)|(rw[getD_set_ne oM];done)) (kM J (aX J J oM (cN (j:=i) J J oM oM (kZ (W7 J J .h3 (by first|omega|(simp;done)|(simp[cI];omega)|(simp;omega)) (Q0 (bH .nil (Q0 (rS (kM J (kM J (aX J J oM (kM J (kM J (aX J J dE (aV J J oM (kM J ?_)))))))))))))))))))))))));refine aX J J dE (aV J J oM (kG (bI J J dW rfl ?_)));unfold iD;refine rI (kM J (eT J (aH J (aL J .h2 J (kM J (cN (j:=i+1) J J oM oM (kO (Q5 (x:=(W l k).getD (i+1) 0) J .h3 (by simp[cI];omega) (by first|rfl|(rw[getD_set_ne oM,getD_set_ne oM];done)|(rw[getD_set_ne oM];done)) (kM J (aX J J oM (cN (j:=i+1) J J oM oM (kZ (W7 J J .h3 (by first|omega|(simp;done)|(simp[cI];omega)|(simp;omega)) (Q0 (bH .nil (Q0 (rI (kM J (kM J (aX J J oM (kM J (kG (bI J J dW rfl ?_)))))))))))))))))))))));unfold iD;refine rI (kM J (eT J (aH J (aL J .h2 J (kM J (cN (j:=i+2) J J oM oM (kO (Q5 (x:=(W l k).getD (i+2) 0) J .h3 (by simp[cI];omega) (by first|rfl|(rw[getD_set_ne oM,getD_set_ne oM];done)|(rw[getD_set_ne oM];done)) (kM J (aX J J oM (cN (j:=i+2) J J oM oM (kZ (W7 J J .h3 (by first|omega|(simp;done)|(simp[cI];omega)|(simp;omega)) (Q0 (bH .nil (Q0 (bH .nil (Q0 (Z1 (W0 (rI (aX J J oM (kM J (Q0 (W0 ?_)))))))))))))))))))))))));exact⟨rfl,_,_,_,(show(fW l 0).length-(k+1)<(fW l 0).length-k from oM),lL,(.cons _ (.q (.q (.q .slnil)))),⟨k+1,rfl,(by first
      |(rw[nX hgk hm1];first|done|rfl)
      |(rw[fU hgk hm2 hk];unfold eB;dsimp only;rw[if_pos aM];first|done|rfl)
      |(rw[fU hgk hm2 hk];unfold eB;dsimp only;rw[if_neg aM];first|done|rfl)),rfl,oM⟩⟩
    ·refine Q0 (U0 J (Q1 (W0 (rS (kM J (kM J (kM J (kG (bI J J dW rfl ?_)))))))))
     unfold iD;refine rI (kM J (eT J (aH J (aL J .h2 J (kM J (cN (j:=i) J J oM oM (kO (Q5 (x:=(W l k).getD (i) 0) J .h3 (by simp[cI];omega) (by first|rfl|(rw[getD_set_ne oM,getD_set_ne oM];done)|(rw[getD_set_ne oM];done)) (kM J (aX J J oM (cN (j:=i) J J oM oM (kZ (W7 J J .h3 (by first|omega|(simp;done)|(simp[cI];omega)|(simp;omega)) (Q0 (bH .nil (Q0 (rS (kM J (kM J (aX J J oM (kM J (kM J (aX J J dE (aV J J oM (kM J ?_)))))))))))))))))))))))));refine aX J J dE (aV J J oM (kG (bI J J dW rfl ?_)));unfold iD;refine rI (kM J (eT J (aH J (aL J .h2 J (kM J (cN (j:=i+1) J J oM oM (kO (Q5 (x:=(W l k).getD (i+1) 0) J .h3 (by simp[cI];omega) (by first|rfl|(rw[getD_set_ne oM,getD_set_ne oM];done)|(rw[getD_set_ne oM];done)) (kM J (aX J J oM (cN (j:=i+1) J J oM oM (kZ (W7 J J .h3 (by first|omega|(simp;done)|(simp[cI];omega)|(simp;omega)) (Q0 (bH .nil (Q0 (rI (kM J (kM J (aX J J oM (kM J (kG (bI J J dW rfl ?_)))))))))))))))))))))));unfold iD;refine rI (kM J (eT J (aH J (aL J .h2 J (kM J (cN (j:=i+2) J J oM oM (kO (Q5 (x:=(W l k).getD (i+2) 0) J .h3 (by simp[cI];omega) (by first|rfl|(rw[getD_set_ne oM,getD_set_ne oM];done)|(rw[getD_set_ne oM];done)) (kM J (aX J J oM (cN (j:=i+2) J J oM oM (kZ (W7 J J .h3 (by first|omega|(simp;done)|(simp[cI];omega)|(simp;omega)) (Q0 (bH .nil (Q0 (bH .nil (Q0 (Z1 (W0 (rI (aX J J oM (kM J (Q0 (W0 ?_)))))))))))))))))))))))));exact⟨rfl,_,_,_,(show(fW l 0).length-(k+1)<(fW l 0).length-k from oM),lL,(.cons _ (.q (.q (.q .slnil)))),⟨k+1,rfl,(by first
      |(rw[nX hgk hm1];first|done|rfl)
      |(rw[fU hgk hm2 hk];unfold eB;dsimp only;rw[if_pos aM];first|done|rfl)
      |(rw[fU hgk hm2 hk];unfold eB;dsimp only;rw[if_neg aM];first|done|rfl)),rfl,oM⟩⟩
   ·rw[hk]
    refine kM J (Q0 (rS (kM J (kO (wN (q:=3) J J dE J dE (kM J (aX J J dE (aV J J dE (kM J (kM J (kO (qS J (aV J J oM (kM J (Q0 (rS (kM J (kM J (aV J J oM (kM J (kO (bN J J dE (aV J J oM (kM J (kM J (aV J J dE ?_))))))))))))))))))))))))));refine kO (bN J J dE (aV J J oM (kM J (kM J (Q0 (rQ (rS (kM J (kM J (kO (dR J J (fun h14=>?_) (fun h14=>?_))))))))))))
    ·refine Q0 (Y0 J (rI (kM J (kM J (kM J (kM J (Q0 (W0 (rS (kM J (kM J (kM J (kG (bI J J dW rfl ?_))))))))))))))
     unfold iD;refine rI (kM J (eT J (aH J (aL J .h2 J (kM J (cN (j:=i) J J oM oM (kO (Q5 (x:=(W l k).getD (i) 0) J .h3 (by simp[cI];omega) (by first|rfl|(rw[getD_set_ne oM,getD_set_ne oM];done)|(rw[getD_set_ne oM];done)) (kM J (aX J J oM (cN (j:=i) J J oM oM (kZ (W7 J J .h3 (by first|omega|(simp;done)|(simp[cI];omega)|(simp;omega)) (Q0 (bH .nil (Q0 (rS (kM J (kM J (aX J J oM (kM J (kM J (aX J J dE (aV J J oM (kM J ?_)))))))))))))))))))))))));refine aX J J dE (aV J J oM (kG (bI J J dW rfl ?_)));unfold iD;refine rI (kM J (eT J (aH J (aL J .h2 J (kM J (cN (j:=i+1) J J oM oM (kO (Q5 (x:=(W l k).getD (i+1) 0) J .h3 (by simp[cI];omega) (by first|rfl|(rw[getD_set_ne oM,getD_set_ne oM];done)|(rw[getD_set_ne oM];done)) (kM J (aX J J oM (cN (j:=i+1) J J oM oM (kZ (W7 J J .h3 (by first|omega|(simp;done)|(simp[cI];omega)|(simp;omega)) (Q0 (bH .nil (Q0 (rI (kM J (kM J (aX J J oM (kM J (kG (bI J J dW rfl ?_)))))))))))))))))))))));unfold iD;refine rI (kM J (eT J (aH J (aL J .h2 J (kM J (cN (j:=i+2) J J oM oM (kO (Q5 (x:=(W l k).getD (i+2) 0) J .h3 (by simp[cI];omega) (by first|rfl|(rw[getD_set_ne oM,getD_set_ne oM];done)|(rw[getD_set_ne oM];done)) (kM J (aX J J oM (cN (j:=i+2) J J oM oM (kZ (W7 J J .h3 (by first|omega|(simp;done)|(simp[cI];omega)|(simp;omega)) (Q0 (bH .nil (Q0 (bH .nil (Q0 (Z1 (W0 (rI (aX J J oM (kM J (Q0 (W0 ?_)))))))))))))))))))))))));exact⟨rfl,_,_,_,(show(fW l 0).length-(k+1)<(fW l 0).length-k from oM),lL,(.cons _ (.q (.q (.q .slnil)))),⟨k+1,rfl,(by first
      |(rw[nX hgk hm1];first|done|rfl)
      |(rw[fU hgk hm2 hk];unfold eB;dsimp only;rw[if_pos aM];first|done|rfl)
      |(rw[fU hgk hm2 hk];unfold eB;dsimp only;rw[if_neg aM];first|done|rfl)),rfl,oM⟩⟩
    ·refine Q0 (U0 J (Q1 (W0 (rS (kM J (kM J (kM J (kG (bI J J dW rfl ?_)))))))))
     unfold iD;refine rI (kM J (eT J (aH J (aL J .h2 J (kM J (cN (j:=i) J J oM oM (kO (Q5 (x:=(W l k).getD (i) 0) J .h3 (by simp[cI];omega) (by first|rfl|(rw[getD_set_ne oM,getD_set_ne oM];done)|(rw[getD_set_ne oM];done)) (kM J (aX J J oM (cN (j:=i) J J oM oM (kZ (W7 J J .h3 (by first|omega|(simp;done)|(simp[cI];omega)|(simp;omega)) (Q0 (bH .nil (Q0 (rS (kM J (kM J (aX J J oM (kM J (kM J (aX J J dE (aV J J oM (kM J ?_)))))))))))))))))))))))));refine aX J J dE (aV J J oM (kG (bI J J dW rfl ?_)));unfold iD;refine rI (kM J (eT J (aH J (aL J .h2 J (kM J (cN (j:=i+1) J J oM oM (kO (Q5 (x:=(W l k).getD (i+1) 0) J .h3 (by simp[cI];omega) (by first|rfl|(rw[getD_set_ne oM,getD_set_ne oM];done)|(rw[getD_set_ne oM];done)) (kM J (aX J J oM (cN (j:=i+1) J J oM oM (kZ (W7 J J .h3 (by first|omega|(simp;done)|(simp[cI];omega)|(simp;omega)) (Q0 (bH .nil (Q0 (rI (kM J (kM J (aX J J oM (kM J (kG (bI J J dW rfl ?_)))))))))))))))))))))));unfold iD;refine rI (kM J (eT J (aH J (aL J .h2 J (kM J (cN (j:=i+2) J J oM oM (kO (Q5 (x:=(W l k).getD (i+2) 0) J .h3 (by simp[cI];omega) (by first|rfl|(rw[getD_set_ne oM,getD_set_ne oM];done)|(rw[getD_set_ne oM];done)) (kM J (aX J J oM (cN (j:=i+2) J J oM oM (kZ (W7 J J .h3 (by first|omega|(simp;done)|(simp[cI];omega)|(simp;omega)) (Q0 (bH .nil (Q0 (bH .nil (Q0 (Z1 (W0 (rI (aX J J oM (kM J (Q0 (W0 ?_)))))))))))))))))))))))));exact⟨rfl,_,_,_,(show(fW l 0).length-(k+1)<(fW l 0).length-k from oM),lL,(.cons _ (.q (.q (.q .slnil)))),⟨k+1,rfl,(by first
      |(rw[nX hgk hm1];first|done|rfl)
      |(rw[fU hgk hm2 hk];unfold eB;dsimp only;rw[if_pos aM];first|done|rfl)
      |(rw[fU hgk hm2 hk];unfold eB;dsimp only;rw[if_neg aM];first|done|rfl)),rfl,oM⟩⟩
   ·rw[hk]
    refine kM J (Q0 (rS (kM J (kO (wN (q:=2) J J dE J dE (kM J (aX J J dE (aV J J dE (kM J (kM J (kO (qS J (aV J J oM (kM J (Q0 (rS (kM J (kM J (aV J J oM (kM J (kO (bN J J dE (aV J J oM (kM J (kM J (aV J J dE ?_))))))))))))))))))))))))));refine kO (bN J J dE (aV J J oM (kM J (kM J (Q0 (rQ (rS (kM J (kM J (kO (dR J J (fun h15=>?_) (fun h15=>?_))))))))))))
    ·refine Q0 (Y0 J (rI (kM J (kM J (kM J (kM J (Q0 (W0 (rS (kM J (kM J (kM J (kG (bI J J dW rfl ?_))))))))))))))
     unfold iD;refine rI (kM J (eT J (aH J (aL J .h2 J (kM J (cN (j:=i) J J oM oM (kO (Q5 (x:=(W l k).getD (i) 0) J .h3 (by simp[cI];omega) (by first|rfl|(rw[getD_set_ne oM,getD_set_ne oM];done)|(rw[getD_set_ne oM];done)) (kM J (aX J J oM (cN (j:=i) J J oM oM (kZ (W7 J J .h3 (by first|omega|(simp;done)|(simp[cI];omega)|(simp;omega)) (Q0 (bH .nil (Q0 (rS (kM J (kM J (aX J J oM (kM J (kM J (aX J J dE (aV J J oM (kM J ?_)))))))))))))))))))))))));refine aX J J dE (aV J J oM (kG (bI J J dW rfl ?_)));unfold iD;refine rI (kM J (eT J (aH J (aL J .h2 J (kM J (cN (j:=i+1) J J oM oM (kO (Q5 (x:=(W l k).getD (i+1) 0) J .h3 (by simp[cI];omega) (by first|rfl|(rw[getD_set_ne oM,getD_set_ne oM];done)|(rw[getD_set_ne oM];done)) (kM J (aX J J oM (cN (j:=i+1) J J oM oM (kZ (W7 J J .h3 (by first|omega|(simp;done)|(simp[cI];omega)|(simp;omega)) (Q0 (bH .nil (Q0 (rI (kM J (kM J (aX J J oM (kM J (kG (bI J J dW rfl ?_)))))))))))))))))))))));unfold iD;refine rI (kM J (eT J (aH J (aL J .h2 J (kM J (cN (j:=i+2) J J oM oM (kO (Q5 (x:=(W l k).getD (i+2) 0) J .h3 (by simp[cI];omega) (by first|rfl|(rw[getD_set_ne oM,getD_set_ne oM];done)|(rw[getD_set_ne oM];done)) (kM J (aX J J oM (cN (j:=i+2) J J oM oM (kZ (W7 J J .h3 (by first|omega|(simp;done)|(simp[cI];omega)|(simp;omega)) (Q0 (bH .nil (Q0 (bH .nil (Q0 (Z1 (W0 (rI (aX J J oM (kM J (Q0 (W0 ?_)))))))))))))))))))))))));exact⟨rfl,_,_,_,(show(fW l 0).length-(k+1)<(fW l 0).length-k from oM),lL,(.cons _ (.q (.q (.q .slnil)))),⟨k+1,rfl,(by first
      |(rw[nX hgk hm1];first|done|rfl)
      |(rw[fU hgk hm2 hk];unfold eB;dsimp only;rw[if_pos aM];first|done|rfl)
      |(rw[fU hgk hm2 hk];unfold eB;dsimp only;rw[if_neg aM];first|done|rfl)),rfl,oM⟩⟩
    ·refine Q0 (U0 J (Q1 (W0 (rS (kM J (kM J (kM J (kG (bI J J dW rfl ?_)))))))))
     unfold iD;refine rI (kM J (eT J (aH J (aL J .h2 J (kM J (cN (j:=i) J J oM oM (kO (Q5 (x:=(W l k).getD (i) 0) J .h3 (by simp[cI];omega) (by first|rfl|(rw[getD_set_ne oM,getD_set_ne oM];done)|(rw[getD_set_ne oM];done)) (kM J (aX J J oM (cN (j:=i) J J oM oM (kZ (W7 J J .h3 (by first|omega|(simp;done)|(simp[cI];omega)|(simp;omega)) (Q0 (bH .nil (Q0 (rS (kM J (kM J (aX J J oM (kM J (kM J (aX J J dE (aV J J oM (kM J ?_)))))))))))))))))))))))));refine aX J J dE (aV J J oM (kG (bI J J dW rfl ?_)));unfold iD;refine rI (kM J (eT J (aH J (aL J .h2 J (kM J (cN (j:=i+1) J J oM oM (kO (Q5 (x:=(W l k).getD (i+1) 0) J .h3 (by simp[cI];omega) (by first|rfl|(rw[getD_set_ne oM,getD_set_ne oM];done)|(rw[getD_set_ne oM];done)) (kM J (aX J J oM (cN (j:=i+1) J J oM oM (kZ (W7 J J .h3 (by first|omega|(simp;done)|(simp[cI];omega)|(simp;omega)) (Q0 (bH .nil (Q0 (rI (kM J (kM J (aX J J oM (kM J (kG (bI J J dW rfl ?_)))))))))))))))))))))));unfold iD;refine rI (kM J (eT J (aH J (aL J .h2 J (kM J (cN (j:=i+2) J J oM oM (kO (Q5 (x:=(W l k).getD (i+2) 0) J .h3 (by simp[cI];omega) (by first|rfl|(rw[getD_set_ne oM,getD_set_ne oM];done)|(rw[getD_set_ne oM];done)) (kM J (aX J J oM (cN (j:=i+2) J J oM oM (kZ (W7 J J .h3 (by first|omega|(simp;done)|(simp[cI];omega)|(simp;omega)) (Q0 (bH .nil (Q0 (bH .nil (Q0 (Z1 (W0 (rI (aX J J oM (kM J (Q0 (W0 ?_)))))))))))))))))))))))));exact⟨rfl,_,_,_,(show(fW l 0).length-(k+1)<(fW l 0).length-k from oM),lL,(.cons _ (.q (.q (.q .slnil)))),⟨k+1,rfl,(by first
      |(rw[nX hgk hm1];first|done|rfl)
      |(rw[fU hgk hm2 hk];unfold eB;dsimp only;rw[if_pos aM];first|done|rfl)
      |(rw[fU hgk hm2 hk];unfold eB;dsimp only;rw[if_neg aM];first|done|rfl)),rfl,oM⟩⟩
 ·refine Q0 (rQ (U0 J (Y4 (Z2 (Z2 (Q3 (bH .nil (Q0 (rS (aH J (aL J .h1 J (kM J (Q0 (V2 ?_))))))))))))))
  exact gH J (.cons _ (.cons _ (.q .slnil))) ⟨b1,rfl,by rw[G0 oM]⟩
theorem tQ(n:Nat)(a:Option Addr)(cap:Nat)(l:List Int)(s:St)(hs:Wf s)(hn:562949953421312<=n)(hl:aN s a l)(hp:tP 9 100000 l):bX Tryz.prog (bZ cB) X (n+900) 166 [.slice a l.length cap] s (fun v A=>∃b,v = .slice (some ⟨b,0,none⟩) l.length l.length/\A=[.row b 3 false (ints (fG l))]):=by
 refine enter KX rfl hs ?_;unfold Gw;have hlen:=hl.len;have hm9:=hp.hm;have hG9:=wQ (l:=l) l.length 0 oM;refine rS (kM J (Q0 (rS (kM J (aJ J hl.spot (kO (oI J J oM oM oM (fun b1=>(kM J (Q0 (rS (kM J (kO (Z4 J J (fun s1 h1=>Lo _ _ _ _ s1 h1.wf oM (hl.ext hs h1.2.1) hp) (fun v1 A1 q1=>?_)))))))))))))));obtain⟨b2,rfl,rfl⟩:=q1;refine kM J (Q0 (rQ (rS (kM J (Q0 (W1 (U4 (fun j e A=>∃(k:Nat),e=[(0,.slice a l.length cap),(3,.slice (some ⟨b1,0,none⟩) l.length l.length),(4,.slice (some ⟨b2,0,none⟩) (fW l 0).length OPEN),(5,.int .i64 (k:Int))]/\A=(.row b2 245 true (jO (fW l 0))::(.row b1 3 false (ints (W l k))::[]))/\j=(fW l 0).length-k/\k<=(fW l 0).length) 400 0 281474976710656 ?_ (j:=_) (env2:=_) (A2:=_) ?_ ?_ ?_ ?_ ⟨0,rfl,rfl,rfl,oM⟩)))))))
 rotate_left
 ·omega
 ·omega
 ·exact lL
 ·exact(.q (.q .slnil))
 rintro n hn j _ _ ⟨k,rfl,rfl,rfl,hkl⟩;refine rQ (rS (kM J (kM J (kO (cK J (dB J J (fun h3=>?_) (fun h3=>?_)))))))
 ·obtain⟨⟨i,m⟩,hgk⟩:=AC (l:=fW l 0) (k:=k) oM
  obtain⟨hin,hmm⟩:=E2 hgk;simp only at hin hmm;have hmc:=iF l i;have z0:=hp.lo (i);have z1:=hp.lo (i+1);have z2:=hp.lo (i+2);have r0:i+1<l.length->l.getD (i) 0<l.getD (i+1) 0:=fun h=>hp.rise _ h
  have r1:i+2<l.length->l.getD (i+1) 0<l.getD (i+2) 0:=fun h=>hp.rise _ h
  have hm9:=hp.hm;have h29:=hp.h2;have b0:=Cv hp k i;have b1:=Cv hp k (i+1);have b2:=Cv hp k (i+2);have hG9:=wQ (l:=l) l.length 0 oM;refine Q0 (Y0 J (Q1 (W0 (rQ (W1 (rS (kM J (kM J (cN (j:=k) J J oM oM (aH J (aL J .here (H1 hgk) (kM J (Q0 (rS (kM J (kM J (aX J J oM (kO (Q7 (j:=i+1) hl rfl rfl oM (by first|rfl|omega) oM (fun _ _ a4=>(kO (W6 J (hl.at a4 oM) (kM J (kM J (kO (Q7 (j:=i) hl rfl rfl oM (by first|rfl|omega) oM (fun _ _ a5=>(kO (W6 J (hl.at a5 oM) ?_)))))))))))))))))))))))))))));refine kO (bN J J oM (kM J (Q0 (rQ (rS (kM J (kM J (cN (j:=k) J J oM oM (aH J (aL J .here (H2 hgk) (kO (bV J J (fun h6=>?_) (fun h6=>?_)))))))))))))
  ·have hm1:m=1:=oM
   refine Q0 (Y0 J (rS (kM J (kM J (cN (j:=i) J J oM oM (kO (Q5 (x:=(W l k).getD (i) 0) J .h1 (by simp[cI];omega) (by first|rfl|(rw[getD_set_ne oM,getD_set_ne oM];done)|(rw[getD_set_ne oM];done)) (kM J (aV J J oM (aX J J oM (cN (j:=i) J J oM oM (kZ (W7 J J .h1 (by first|omega|(simp;done)|(simp[cI];omega)|(simp;omega)) (Q0 (rS (kM J (kM J (aX J J oM (cN (j:=i+1) J J oM oM (kO (Q5 (x:=(W l k).getD (i+1) 0) J .h1 (by simp[cI];omega) (by first|rfl|(rw[getD_set_ne oM,getD_set_ne oM];done)|(rw[getD_set_ne oM];done)) (kM J (aV J J oM (aX J J oM (cN (j:=i+1) J J oM oM (kZ (W7 J J .h1 (by first|omega|(simp;done)|(simp[cI];omega)|(simp;omega)) ?_)))))))))))))))))))))))))));refine Q0 (Y4 (Z2 (Q3 (W0 (rI (kM J (aX J J oM (kM J (Q0 (W0 ?_))))))))));exact⟨rfl,_,_,_,(show(fW l 0).length-(k+1)<(fW l 0).length-k from oM),lL,(.q (.q .slnil)),⟨k+1,rfl,(by first
    |(rw[nX hgk hm1];first|done|rfl)
    |(rw[fU hgk hm2 hk];unfold eB;dsimp only;rw[if_pos aM];first|done|rfl)
    |(rw[fU hgk hm2 hk];unfold eB;dsimp only;rw[if_neg aM];first|done|rfl)),rfl,oM⟩⟩
  ·have hm2:m=2:=oM
   have hrat:=yS (hmm.trans hm2);refine Q0 (U0 J (Q1 (W0 (rS (kM J (kM J (aX J J oM (kO (Q7 (j:=i+2) hl rfl rfl oM (by first|rfl|omega) oM (fun _ _ a7=>(kO (W6 J (hl.at a7 oM) (kM J (kM J (aX J J oM (kO (Q7 (j:=i+1) hl rfl rfl oM (by first|rfl|omega) oM (fun _ _ a8=>(kO (W6 J (hl.at a8 oM) (kO (bN J J oM (kM J (Q0 (rS (kM J (kM J (kO (Z4 J J (fun s1 h1=>uX _ _ _ s1 h1.wf oM oM) (fun v1 A1 q1=>?_))))))))))))))))))))))))))))));obtain⟨rfl,rfl⟩:=q1;rcases yT hrat with hk|hk|hk
   ·rw[hk]
    refine kM J (Q0 (rS (kM J (kM J (kO (qS J (kM J (Q0 (rS (kM J (kO (wN (q:=6) J J dE J dE (kM J (aX J J dE (aV J J dE (kM J (aV J J oM (kM J (Q0 (rS (kM J (kM J (aV J J oM (kM J (kO (bN J J dE ?_))))))))))))))))))))))))));refine aV J J oM (kM J (Q0 (rS (kM J (kM J (aV J J dE (kO (bN J J dE (aV J J oM (kM J (Q0 (rQ (rS (kM J (kM J (kO (dR J J (fun h9=>?_) (fun h9=>?_))))))))))))))))))
    ·refine Q0 (Y0 J (rI (kM J (kM J (kM J (kM J (Q0 (W0 (rS (kM J (kM J (cN (j:=i) J J oM oM (kO (Q5 (x:=(W l k).getD (i) 0) J .h1 (by simp[cI];omega) (by first|rfl|(rw[getD_set_ne oM,getD_set_ne oM];done)|(rw[getD_set_ne oM];done)) (kM J (aX J J oM (cN (j:=i) J J oM oM (kZ (W7 J J .h1 (by first|omega|(simp;done)|(simp[cI];omega)|(simp;omega)) (Q0 (rS (kM J (kM J (aX J J oM (cN (j:=i+1) J J oM oM ?_)))))))))))))))))))))))))
     refine kO (Q5 (x:=(W l k).getD (i+1) 0) J .h1 (by simp[cI];omega) (by first|rfl|(rw[getD_set_ne oM,getD_set_ne oM];done)|(rw[getD_set_ne oM];done)) (kM J (kM J (aX J J dE (aV J J oM (kM J (aX J J dE (aV J J oM (aX J J oM (cN (j:=i+1) J J oM oM (kZ (W7 J J .h1 (by first|omega|(simp;done)|(simp[cI];omega)|(simp;omega)) (Q0 (rI (kM J (kM J (aX J J oM (cN (j:=i+2) J J oM oM (kO (Q5 (x:=(W l k).getD (i+2) 0) J .h1 (by simp[cI];omega) (by first|rfl|(rw[getD_set_ne oM,getD_set_ne oM];done)|(rw[getD_set_ne oM];done)) (kM J (aX J J oM (cN (j:=i+2) J J oM oM (kZ (W7 J J .h1 (by first|omega|(simp;done)|(simp[cI];omega)|(simp;omega)) (Q0 (Z1 ?_)))))))))))))))))))))))))));refine W0 (rI (kM J (aX J J oM (kM J (Q0 (W0 ?_))))));exact⟨rfl,_,_,_,(show(fW l 0).length-(k+1)<(fW l 0).length-k from oM),lL,(.q (.q .slnil)),⟨k+1,rfl,(by first
      |(rw[nX hgk hm1];first|done|rfl)
      |(rw[fU hgk hm2 hk];unfold eB;dsimp only;rw[if_pos aM];first|done|rfl)
      |(rw[fU hgk hm2 hk];unfold eB;dsimp only;rw[if_neg aM];first|done|rfl)),rfl,oM⟩⟩
    ·refine Q0 (U0 J (Q1 (W0 (rS (kM J (kM J (cN (j:=i) J J oM oM (kO (Q5 (x:=(W l k).getD (i) 0) J .h1 (by simp[cI];omega) (by first|rfl|(rw[getD_set_ne oM,getD_set_ne oM];done)|(rw[getD_set_ne oM];done)) (kM J (aX J J oM (cN (j:=i) J J oM oM (kZ (W7 J J .h1 (by first|omega|(simp;done)|(simp[cI];omega)|(simp;omega)) (Q0 (rS (kM J (kM J (aX J J oM (cN (j:=i+1) J J oM oM (kO (Q5 (x:=(W l k).getD (i+1) 0) J .h1 (by simp[cI];omega) (by first|rfl|(rw[getD_set_ne oM,getD_set_ne oM];done)|(rw[getD_set_ne oM];done)) (kM J (kM J (aX J J dE (aV J J oM ?_))))))))))))))))))))))))))
     refine kM J (aX J J dE (aV J J oM (aX J J oM (cN (j:=i+1) J J oM oM (kZ (W7 J J .h1 (by first|omega|(simp;done)|(simp[cI];omega)|(simp;omega)) (Q0 (rI (kM J (kM J (aX J J oM (cN (j:=i+2) J J oM oM (kO (Q5 (x:=(W l k).getD (i+2) 0) J .h1 (by simp[cI];omega) (by first|rfl|(rw[getD_set_ne oM,getD_set_ne oM];done)|(rw[getD_set_ne oM];done)) (kM J (aX J J oM (cN (j:=i+2) J J oM oM (kZ (W7 J J .h1 (by first|omega|(simp;done)|(simp[cI];omega)|(simp;omega)) (Q0 (Z1 (W0 (rI (kM J (aX J J oM (kM J ?_))))))))))))))))))))))))));refine Q0 (W0 ?_);exact⟨rfl,_,_,_,(show(fW l 0).length-(k+1)<(fW l 0).length-k from oM),lL,(.q (.q .slnil)),⟨k+1,rfl,(by first
      |(rw[nX hgk hm1];first|done|rfl)
      |(rw[fU hgk hm2 hk];unfold eB;dsimp only;rw[if_pos aM];first|done|rfl)
      |(rw[fU hgk hm2 hk];unfold eB;dsimp only;rw[if_neg aM];first|done|rfl)),rfl,oM⟩⟩
   ·rw[hk]
    refine kM J (Q0 (rS (kM J (kM J (kO (qS J (kM J (Q0 (rS (kM J (kO (wN (q:=3) J J dE J dE (kM J (aX J J dE (aV J J dE (kM J (aV J J oM (kM J (Q0 (rS (kM J (kM J (aV J J oM (kM J (kO (bN J J dE ?_))))))))))))))))))))))))));refine aV J J oM (kM J (Q0 (rS (kM J (kM J (aV J J dE (kO (bN J J dE (aV J J oM (kM J (Q0 (rQ (rS (kM J (kM J (kO (dR J J (fun h10=>?_) (fun h10=>?_))))))))))))))))))
    ·refine Q0 (Y0 J (rI (kM J (kM J (kM J (kM J (Q0 (W0 (rS (kM J (kM J (cN (j:=i) J J oM oM (kO (Q5 (x:=(W l k).getD (i) 0) J .h1 (by simp[cI];omega) (by first|rfl|(rw[getD_set_ne oM,getD_set_ne oM];done)|(rw[getD_set_ne oM];done)) (kM J (aX J J oM (cN (j:=i) J J oM oM (kZ (W7 J J .h1 (by first|omega|(simp;done)|(simp[cI];omega)|(simp;omega)) (Q0 (rS (kM J (kM J (aX J J oM (cN (j:=i+1) J J oM oM ?_)))))))))))))))))))))))))
     refine kO (Q5 (x:=(W l k).getD (i+1) 0) J .h1 (by simp[cI];omega) (by first|rfl|(rw[getD_set_ne oM,getD_set_ne oM];done)|(rw[getD_set_ne oM];done)) (kM J (kM J (aX J J dE (aV J J oM (kM J (aX J J dE (aV J J oM (aX J J oM (cN (j:=i+1) J J oM oM (kZ (W7 J J .h1 (by first|omega|(simp;done)|(simp[cI];omega)|(simp;omega)) (Q0 (rI (kM J (kM J (aX J J oM (cN (j:=i+2) J J oM oM (kO (Q5 (x:=(W l k).getD (i+2) 0) J .h1 (by simp[cI];omega) (by first|rfl|(rw[getD_set_ne oM,getD_set_ne oM];done)|(rw[getD_set_ne oM];done)) (kM J (aX J J oM (cN (j:=i+2) J J oM oM (kZ (W7 J J .h1 (by first|omega|(simp;done)|(simp[cI];omega)|(simp;omega)) (Q0 (Z1 ?_)))))))))))))))))))))))))));refine W0 (rI (kM J (aX J J oM (kM J (Q0 (W0 ?_))))));exact⟨rfl,_,_,_,(show(fW l 0).length-(k+1)<(fW l 0).length-k from oM),lL,(.q (.q .slnil)),⟨k+1,rfl,(by first
      |(rw[nX hgk hm1];first|done|rfl)
      |(rw[fU hgk hm2 hk];unfold eB;dsimp only;rw[if_pos aM];first|done|rfl)
      |(rw[fU hgk hm2 hk];unfold eB;dsimp only;rw[if_neg aM];first|done|rfl)),rfl,oM⟩⟩
    ·refine Q0 (U0 J (Q1 (W0 (rS (kM J (kM J (cN (j:=i) J J oM oM (kO (Q5 (x:=(W l k).getD (i) 0) J .h1 (by simp[cI];omega) (by first|rfl|(rw[getD_set_ne oM,getD_set_ne oM];done)|(rw[getD_set_ne oM];done)) (kM J (aX J J oM (cN (j:=i) J J oM oM (kZ (W7 J J .h1 (by first|omega|(simp;done)|(simp[cI];omega)|(simp;omega)) (Q0 (rS (kM J (kM J (aX J J oM (cN (j:=i+1) J J oM oM (kO (Q5 (x:=(W l k).getD (i+1) 0) J .h1 (by simp[cI];omega) (by first|rfl|(rw[getD_set_ne oM,getD_set_ne oM];done)|(rw[getD_set_ne oM];done)) (kM J (kM J (aX J J dE (aV J J oM ?_))))))))))))))))))))))))))
     refine kM J (aX J J dE (aV J J oM (aX J J oM (cN (j:=i+1) J J oM oM (kZ (W7 J J .h1 (by first|omega|(simp;done)|(simp[cI];omega)|(simp;omega)) (Q0 (rI (kM J (kM J (aX J J oM (cN (j:=i+2) J J oM oM (kO (Q5 (x:=(W l k).getD (i+2) 0) J .h1 (by simp[cI];omega) (by first|rfl|(rw[getD_set_ne oM,getD_set_ne oM];done)|(rw[getD_set_ne oM];done)) (kM J (aX J J oM (cN (j:=i+2) J J oM oM (kZ (W7 J J .h1 (by first|omega|(simp;done)|(simp[cI];omega)|(simp;omega)) (Q0 (Z1 (W0 (rI (kM J (aX J J oM (kM J ?_))))))))))))))))))))))))));refine Q0 (W0 ?_);exact⟨rfl,_,_,_,(show(fW l 0).length-(k+1)<(fW l 0).length-k from oM),lL,(.q (.q .slnil)),⟨k+1,rfl,(by first
      |(rw[nX hgk hm1];first|done|rfl)
      |(rw[fU hgk hm2 hk];unfold eB;dsimp only;rw[if_pos aM];first|done|rfl)
      |(rw[fU hgk hm2 hk];unfold eB;dsimp only;rw[if_neg aM];first|done|rfl)),rfl,oM⟩⟩
   ·rw[hk]
    refine kM J (Q0 (rS (kM J (kM J (kO (qS J (kM J (Q0 (rS (kM J (kO (wN (q:=2) J J dE J dE (kM J (aX J J dE (aV J J dE (kM J (aV J J oM (kM J (Q0 (rS (kM J (kM J (aV J J oM (kM J (kO (bN J J dE ?_))))))))))))))))))))))))));refine aV J J oM (kM J (Q0 (rS (kM J (kM J (aV J J dE (kO (bN J J dE (aV J J oM (kM J (Q0 (rQ (rS (kM J (kM J (kO (dR J J (fun h11=>?_) (fun h11=>?_))))))))))))))))))
    ·refine Q0 (Y0 J (rI (kM J (kM J (kM J (kM J (Q0 (W0 (rS (kM J (kM J (cN (j:=i) J J oM oM (kO (Q5 (x:=(W l k).getD (i) 0) J .h1 (by simp[cI];omega) (by first|rfl|(rw[getD_set_ne oM,getD_set_ne oM];done)|(rw[getD_set_ne oM];done)) (kM J (aX J J oM (cN (j:=i) J J oM oM (kZ (W7 J J .h1 (by first|omega|(simp;done)|(simp[cI];omega)|(simp;omega)) (Q0 (rS (kM J (kM J (aX J J oM (cN (j:=i+1) J J oM oM ?_)))))))))))))))))))))))))
     refine kO (Q5 (x:=(W l k).getD (i+1) 0) J .h1 (by simp[cI];omega) (by first|rfl|(rw[getD_set_ne oM,getD_set_ne oM];done)|(rw[getD_set_ne oM];done)) (kM J (kM J (aX J J dE (aV J J oM (kM J (aX J J dE (aV J J oM (aX J J oM (cN (j:=i+1) J J oM oM (kZ (W7 J J .h1 (by first|omega|(simp;done)|(simp[cI];omega)|(simp;omega)) (Q0 (rI (kM J (kM J (aX J J oM (cN (j:=i+2) J J oM oM (kO (Q5 (x:=(W l k).getD (i+2) 0) J .h1 (by simp[cI];omega) (by first|rfl|(rw[getD_set_ne oM,getD_set_ne oM];done)|(rw[getD_set_ne oM];done)) (kM J (aX J J oM (cN (j:=i+2) J J oM oM (kZ (W7 J J .h1 (by first|omega|(simp;done)|(simp[cI];omega)|(simp;omega)) (Q0 (Z1 ?_)))))))))))))))))))))))))));refine W0 (rI (kM J (aX J J oM (kM J (Q0 (W0 ?_))))));exact⟨rfl,_,_,_,(show(fW l 0).length-(k+1)<(fW l 0).length-k from oM),lL,(.q (.q .slnil)),⟨k+1,rfl,(by first
      |(rw[nX hgk hm1];first|done|rfl)
      |(rw[fU hgk hm2 hk];unfold eB;dsimp only;rw[if_pos aM];first|done|rfl)
      |(rw[fU hgk hm2 hk];unfold eB;dsimp only;rw[if_neg aM];first|done|rfl)),rfl,oM⟩⟩
    ·refine Q0 (U0 J (Q1 (W0 (rS (kM J (kM J (cN (j:=i) J J oM oM (kO (Q5 (x:=(W l k).getD (i) 0) J .h1 (by simp[cI];omega) (by first|rfl|(rw[getD_set_ne oM,getD_set_ne oM];done)|(rw[getD_set_ne oM];done)) (kM J (aX J J oM (cN (j:=i) J J oM oM (kZ (W7 J J .h1 (by first|omega|(simp;done)|(simp[cI];omega)|(simp;omega)) (Q0 (rS (kM J (kM J (aX J J oM (cN (j:=i+1) J J oM oM (kO (Q5 (x:=(W l k).getD (i+1) 0) J .h1 (by simp[cI];omega) (by first|rfl|(rw[getD_set_ne oM,getD_set_ne oM];done)|(rw[getD_set_ne oM];done)) (kM J (kM J (aX J J dE (aV J J oM ?_))))))))))))))))))))))))))
     refine kM J (aX J J dE (aV J J oM (aX J J oM (cN (j:=i+1) J J oM oM (kZ (W7 J J .h1 (by first|omega|(simp;done)|(simp[cI];omega)|(simp;omega)) (Q0 (rI (kM J (kM J (aX J J oM (cN (j:=i+2) J J oM oM (kO (Q5 (x:=(W l k).getD (i+2) 0) J .h1 (by simp[cI];omega) (by first|rfl|(rw[getD_set_ne oM,getD_set_ne oM];done)|(rw[getD_set_ne oM];done)) (kM J (aX J J oM (cN (j:=i+2) J J oM oM (kZ (W7 J J .h1 (by first|omega|(simp;done)|(simp[cI];omega)|(simp;omega)) (Q0 (Z1 (W0 (rI (kM J (aX J J oM (kM J ?_))))))))))))))))))))))))));refine Q0 (W0 ?_);exact⟨rfl,_,_,_,(show(fW l 0).length-(k+1)<(fW l 0).length-k from oM),lL,(.q (.q .slnil)),⟨k+1,rfl,(by first
      |(rw[nX hgk hm1];first|done|rfl)
      |(rw[fU hgk hm2 hk];unfold eB;dsimp only;rw[if_pos aM];first|done|rfl)
      |(rw[fU hgk hm2 hk];unfold eB;dsimp only;rw[if_neg aM];first|done|rfl)),rfl,oM⟩⟩
 ·refine Q0 (U0 J (Y4 (Z2 (Z2 (Q3 (W0 (rS (kM J (kM J (Q0 (V2 ?_)))))))))))
  exact gH J (.cons _ (.q .slnil)) ⟨b1,rfl,by rw[G0 oM]⟩
end
variable{l1 l2:List Int}
theorem qD{x y:Int}(hx:-200000000<=x/\x<=200000000)(hy:-200000000<=y/\y<=200000000):-9223372036854775808<=x*y/\x*y<9223372036854775808:=by
 have h1:(x*y).natAbs<=200000000*200000000:=by
  rw[Int.natAbs_mul];exact Nat.mul_le_mul oM oM
 omega
theorem fZ(h:cJ l1 l2=true):tP 9 100000 l1:=by
 unfold cJ at h;rw[Bool.and_eq_true] at h;exact Cu dE h.1
theorem yU(h:cJ l1 l2=true):tP 7 15000 l2:=by
 unfold cJ at h;rw[Bool.and_eq_true] at h;exact Cu dE h.2
theorem gO(h:cJ l1 l2=true):tP 9 100000 l2:=by
 have q:=yU h;exact⟨q.h2,by have:=q.hm;omega,fun k=>by have:=q.lo k;omega,q.rise⟩
section
variable{X:FuncId->List Value->St->(Value->St->Bool)->Bool}
theorem Lp(n:Nat)(a1 a2:Option Addr)(c1 c2:Nat)(l1 l2:List Int)(s:St)(hs:Wf s)(hn:1125899906842624<=n)(hl1:aN s a1 l1)(hl2:aN s a2 l2)(hp1:tP 9 100000 l1)(hp2:tP 9 100000 l2):bX Tryz.prog (bZ cB) X (n+1500) 102 [.slice a1 l1.length c1,.slice a2 l2.length c2] s (fun v A=>A=[]):=by
 refine enter Kj rfl hs ?_;unfold FQ;have hlen1:=hl1.len;have hlen2:=hl2.len;have hm1:=hp1.hm;have hm2:=hp2.hm;have hw1:=eN (l:=l1);have hw2:=eN (l:=l2);refine rS (kM J (Q0 (rS (kM J (kO (Z4 J J (fun s1 h1=>rW _ _ _ _ s1 h1.wf oM (hl2.ext hs h1.2.1) hp2) (fun v1 A1 q1=>?_)))))));obtain⟨b1,rfl,rfl⟩:=q1;refine kM J (Q0 (rS (kM J (aJ J hl1.spot (kO (EX (m:=0) J J oM oM oM (fun b2=>(kM J (Q0 (rQ (rS (kM J (kO (Z4 J J (fun s1 h1=>rW _ _ _ _ s1 h1.wf oM (hl1.ext hs h1.2.1) hp1) (fun v1 A1 q1=>?_)))))))))))))));obtain⟨b3,rfl,rfl⟩:=q1;refine kO (cK J (kM J (Q0 (W1 (U4 (fun j e A=>∃(k:Nat) (R:List Value),e=[(5,.slice (some ⟨b1,0,none⟩) l2.length l2.length),(6,.slice (some ⟨b2,0,none⟩) k l1.length),(18,.slice (some ⟨b3,0,none⟩) l1.length l1.length),(19,.int .i64 (l1.length:Int)),(20,.int .i64 (k:Int))]/\A=(.row b3 3 false (ints (fG l1))::(.row b2 22 false (R)::(.row b1 3 false (ints (fG l2))::[])))/\j=l1.length-k/\k<=l1.length/\R.length=l1.length) 500 281474976710656 281474976710656 ?_ (j:=_) (env2:=_) (A2:=_) ?_ ?_ ?_ ?_ ⟨0,List.replicate l1.length (.slice none 0 0),rfl,rfl,rfl,oM,sM⟩)))))
 rotate_left
 ·omega
 ·omega
 ·exact lL
 ·exact(.q (.q (.q .slnil)))
 rintro n hn j _ _ ⟨k,R,rfl,rfl,rfl,hkl,hR⟩;refine rS (dB J J (fun h4=>?_) (fun h4=>?_))
 ·refine Q0 (rQ (Y0 J (Q1 (W0 (rQ (W1 (rS (cN (j:=k) J J oM oM (kO (dM J .here (by first|omega|(simp;done)|(simp;omega)) (kM J (Q0 (rS (kM J (kO (cK J (kO (oI (m:=0) J J oM oM oM (fun b5=>(kM J (Q0 (rQ (rS (kM J (kO (cK J (kM J (Q0 ?_))))))))))))))))))))))))))))
  refine W1 (U4 (fun j e A=>∃(y:Nat) (S:List Value),e=[(5,.slice (some ⟨b1,0,none⟩) l2.length l2.length),(6,.slice (some ⟨b2,0,none⟩) k l1.length),(18,.slice (some ⟨b3,0,none⟩) l1.length l1.length),(19,.int .i64 (l1.length:Int)),(20,.int .i64 (k:Int)),(8,.int .i64 ((fG l1).getD k 0)),(9,.slice (some ⟨b5,0,none⟩) y l2.length),(27,.slice (some ⟨b1,0,none⟩) l2.length l2.length),(28,.int .i64 (l2.length:Int)),(29,.int .i64 (y:Int))]/\A=(.row b5 3 false (S)::(.row b3 3 false (ints (fG l1))::(.row b2 22 false (R)::(.row b1 3 false (ints (fG l2))::[]))))/\j=l2.length-y/\y<=l2.length/\S.length=l2.length) 300 0 281474976710656 ?_ (j:=_) (env2:=_) (A2:=_) ?_ ?_ ?_ ?_ ⟨0,ints (List.replicate l2.length 0),rfl,rfl,rfl,oM,(by simp[ints])⟩)
  rotate_left
  ·omega
  ·omega
  ·exact lL
  ·exact(.q (.q (.q (.q .slnil))))
  rintro n hn j _ _ ⟨y,S,rfl,rfl,rfl,hjl,hS⟩;refine rS (dB J J (fun h6=>?_) (fun h6=>?_))
  ·refine Q0 (rQ (Y0 J (Q1 (W0 (rQ (W1 (rS (cN (j:=y) J J oM oM (kO (dM J .h3 (by first|omega|(simp;done)|(simp;omega)) (kM J (Q0 (rI (kM J (kM J (kM J (aV J J (qD (fI hp1 k) (fI hp2 y)) (kO (bF J J J (fun b7=>(kO (wO J J (fK.own .here rfl sM) .h1 oM oM (by show _<18446744073709551616;omega) oM oM (kM J (Q0 (Z1 (W0 (rI ?_)))))))))))))))))))))))))))
   refine aX J J oM (kM J (Q0 (W0 ?_)));exact⟨rfl,_,_,_,(show l2.length-(y+1)<l2.length-y from oM),lL,(.cons _ (.q (.q (.q (.q .slnil))))),⟨y+1,_,rfl,rfl,rfl,oM,(by simp[over];omega)⟩⟩
  ·refine Q0 (rQ (U0 J (Y4 (Z2 (Z2 (Q3 (W0 (rI (kM J (kM J (kO (bF J J J (fun b9=>(kO (wO J J (fK.own .here rfl sM) .h3 oM oM (by show _<18446744073709551616;omega) oM oM (kM J (Q0 (Z1 (W0 (rI (aX J J oM (kM J (Q0 (W0 ?_))))))))))))))))))))))))
   exact⟨rfl,_,_,_,(show l1.length-(k+1)<l1.length-k from oM),lL,(.cons _ (.cons _ (.q (.q (.q .slnil))))),⟨k+1,_,rfl,rfl,rfl,oM,(by simp[over];omega)⟩⟩
 ·refine Q0 (rQ (U0 J (Y4 (Z2 (Z2 (Q3 (W0 (rS (kM J (kM J (Q0 (V2 ?_))))))))))))
  exact gH J (List.nil_sublist _) rfl
theorem RG(n:Nat)(a1 a2:Option Addr)(c1 c2:Nat)(l1 l2:List Int)(s:St)(hs:Wf s)(hn:1407374883553280<=n)(hl1:aN s a1 l1)(hl2:aN s a2 l2):bX Tryz.prog (bZ cB) X (n+1600) 50 [.slice a1 l1.length c1,.slice a2 l2.length c2] s (fun v A=>∃x,v = .tuple #[x,.int .i64 (if cJ l1 l2=true then 0 else 12)]/\A=[]):=by
 refine enter OW rfl hs ?_;unfold NA;have hlen1:=hl1.len;have hlen2:=hl2.len;refine rS (kM J (kM J (Q0 (rQ (rS (kM J (kM J (kO (iQ J J (fun s1 h1=>DC _ _ _ _ _ _ _ s1 h1.wf oM (hl1.ext hs h1.2.1) (hl2.ext hs h1.2.1)) (fun h1=>?_) (fun h1=>?_))))))))))
 ·have hp1:=fZ h1
  have hp2:=gO h1;refine kM J (Q0 (rS (kM J (kO (V3 J J (fun h=>absurd h dE) (fun _=>(Q0 (U0 J (Q1 (W0 (rS (kM J (kM J (kO (Z4 J J (fun s1 h1=>Lp _ _ _ _ _ _ _ s1 h1.wf oM (hl1.ext hs h1.2.1) (hl2.ext hs h1.2.1) hp1 hp2) (fun v1 A1 q1=>?_))))))))))))))));subst q1;refine kM J (kM J (Q0 (V2 ?_)))
  first
   |exact kE J J (List.nil_sublist _) ⟨_,by rw[if_pos aM],rfl⟩
   |exact kE J J (List.nil_sublist _) ⟨_,by rw[if_neg aM],rfl⟩
 ·refine kM J (Q0 (rS (kM J (kO (V3 J J (fun _=>(Q0 (Y0 J (rS (kM J (kM J (kM J (Q0 (V2 (W3 ?_)))))))))) (fun h=>absurd h dE))))))
  first
   |exact kE J J (List.nil_sublist _) ⟨_,by rw[if_pos aM],rfl⟩
   |exact kE J J (List.nil_sublist _) ⟨_,by rw[if_neg aM],rfl⟩
end
end Ev
end Go.Proofs.YtjkdkpckjgaplaaGreat
