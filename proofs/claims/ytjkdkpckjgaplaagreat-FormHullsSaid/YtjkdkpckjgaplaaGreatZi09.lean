import Derived.Test.YtjkdkpckjgaplaaGreatZi08
set_option linter.unusedVariables false
set_option linter.unusedSimpArgs false
namespace Go.Proofs.YtjkdkpckjgaplaaGreat
open Go Go.RowKit
namespace Ev
variable{l1 l2:List Int}
theorem QK{lo hi hi2:Int}(h:hi<=hi2){l:List Int}(hi':jQ lo hi l=true):jQ lo hi2 l=true:=by
 unfold jQ at *;rw[List.all_eq_true] at *;intro x hx;have:=hi' x hx;simp at this ⊢;omega
def bW(l1 l2:List Int):Bool:=gG 9 100000 l1 && gG 7 15000 l2
theorem pW(h:gG 9 100000 l1=false):bW l1 l2=false:=by unfold bW;rw[h];rfl
theorem pX(h:gG 9 100000 l2=false):bW l1 l2=false:=by
 unfold bW;rw[Bool.and_eq_false_iff];refine .inr ?_;cases hb:gG 7 15000 l2 with
 |false=>rfl
 |true=>
  unfold gG at h hb;rw[Bool.and_eq_true,Bool.and_eq_true] at hb;obtain⟨⟨h1,h2⟩,h3⟩:=hb;have h1:=of_decide_eq_true h1;rw[decide_eq_true oM,QK dE h2,h3] at h;exact h
theorem dS(h:¬(l2.length:Int)<=7):bW l1 l2=false:=by
 unfold bW;rw[jR (m:=7) oM];simp
theorem sU(h:jQ 0 15000 l2=false):bW l1 l2=false:=by
 unfold bW;rw[jU (hi:=15000) h];simp
theorem oD(h:gG 9 100000 l1=true)(h2:gG 9 100000 l2=true)(h3:(l2.length:Int)<=7)(h4:jQ 0 15000 l2=true):bW l1 l2=true:=by
 unfold bW;rw[h];unfold gG at h2 ⊢;rw[Bool.and_eq_true,Bool.and_eq_true] at h2;obtain⟨⟨h1,_⟩,h5⟩:=h2;have h1:=of_decide_eq_true h1;rw[decide_eq_true oM,h4,h5];rfl
def qG(a b:Int):Int:=if max a b=1*min a b then 1 else if max a b=2*min a b then 2 else if max a b=3*min a b then 3 else 0
theorem Ce(a b:Int):qG a b=0∨qG a b=1∨qG a b=2∨qG a b=3:=by
 unfold qG;(repeat' split) <;> decide
section
variable{X:FuncId->List Value->St->(Value->St->Bool)->Bool}
theorem Eb(n:Nat)(a1 a2:Option Addr)(c1 c2:Nat)(l1 l2:List Int)(s:St)(hs:Wf s)(hn:844424930131968<=n)(hl1:aN s a1 l1)(hl2:aN s a2 l2):bS Tryz.prog (bX bZ) X (n+300) 101 [.slice a1 l1.length c1,.slice a2 l2.length c2] s (fun v A=>v = .int .i64 (if bW l1 l2=true then 0 else 12)/\A=[]):=by
 refine enter KO rfl hs ?_;unfold Gf;have hlen1:=hl1.len;have hlen2:=hl2.len;refine rS (kM J (Q0 (rQ (rS (kM J (kO (fQ J J (fun s1 h1=>pG _ _ _ _ s1 h1.wf oM (hl1.ext hs h1.2.1)) (fun h1=>?_) (fun h1=>?_))))))))
 ·refine kM J (Q0 (rS (kM J (kO (V3 J J (fun h=>absurd h dE) (fun _=>(Q0 (U0 J (Q1 (W0 (rQ (rS (kM J (kO (fQ J J (fun s1 h1=>pG _ _ _ _ s1 h1.wf oM (hl2.ext hs h1.2.1)) (fun h3=>?_) (fun h3=>?_))))))))))))))))
  ·refine kM J (Q0 (rS (kM J (kO (V3 J J (fun h=>absurd h dE) (fun _=>(Q0 (U0 J (Q1 (W0 (rQ (rS (kM J (aJ J hl2.spot (kO (dL J J (fun h5=>?_) (fun h5=>?_)))))))))))))))))
   ·refine kM J (V0 (V0 (V0 (cB J J J (Q0 (Y0 J (rS (kM J (Q0 (V2 (W3 (aU J ⟨congrArg (Value.int .i64) ?_,rfl⟩))))))))))))
    first
     |(rw[pW (by simpa using (by assumption:¬gG 9 100000 l1=true))];rfl)
     |(rw[pX (by simpa using (by assumption:¬gG 9 100000 l2=true))];rfl)
     |(rw[dS oM];rfl)
     |(rw[sU aM];rfl)
     |(rw[oD aM aM oM aM];rfl)
   ·refine kM J (kG (U2 J (kG (gB J J (fun s1 h1=>Ea _ _ _ _ _ _ s1 h1.wf oM (hl2.ext hs h1.2.1)) (fun h6=>?_) (fun h6=>?_)))))
    ·refine kG (U6 J (bP J J J (Q0 (U0 J (Q1 (W0 (rS (kM J (Q0 (V2 (aU J ⟨congrArg (Value.int .i64) ?_,rfl⟩)))))))))))
     first
      |(rw[pW (by simpa using (by assumption:¬gG 9 100000 l1=true))];rfl)
      |(rw[pX (by simpa using (by assumption:¬gG 9 100000 l2=true))];rfl)
      |(rw[dS oM];rfl)
      |(rw[sU aM];rfl)
      |(rw[oD aM aM oM aM];rfl)
    ·refine kG (U6 J (bP J J J (Q0 (Y0 J (rS (kM J (Q0 (V2 (W3 (aU J ⟨congrArg (Value.int .i64) ?_,rfl⟩))))))))))
     first
      |(rw[pW (by simpa using (by assumption:¬gG 9 100000 l1=true))];rfl)
      |(rw[pX (by simpa using (by assumption:¬gG 9 100000 l2=true))];rfl)
      |(rw[dS oM];rfl)
      |(rw[sU aM];rfl)
      |(rw[oD aM aM oM aM];rfl)
  ·refine kM J (Q0 (rS (kM J (kO (V3 J J (fun _=>(Q0 (Y0 J (rS (kM J (kM J (Q0 (V2 (W3 (aU J ⟨congrArg (Value.int .i64) ?_,rfl⟩)))))))))) (fun h=>absurd h dE))))))
   first
    |(rw[pW (by simpa using (by assumption:¬gG 9 100000 l1=true))];rfl)
    |(rw[pX (by simpa using (by assumption:¬gG 9 100000 l2=true))];rfl)
    |(rw[dS oM];rfl)
    |(rw[sU aM];rfl)
    |(rw[oD aM aM oM aM];rfl)
 ·refine kM J (Q0 (rS (kM J (kO (V3 J J (fun _=>(Q0 (Y0 J (rS (kM J (kM J (Q0 (V2 (W3 (aU J ⟨congrArg (Value.int .i64) ?_,rfl⟩)))))))))) (fun h=>absurd h dE))))))
  first
   |(rw[pW (by simpa using (by assumption:¬gG 9 100000 l1=true))];rfl)
   |(rw[pX (by simpa using (by assumption:¬gG 9 100000 l2=true))];rfl)
   |(rw[dS oM];rfl)
   |(rw[sU aM];rfl)
   |(rw[oD aM aM oM aM];rfl)
theorem oE(n:Nat)(a:Option Addr)(cap:Nat)(l:List Int)(s:St)(hs:Wf s)(hn:562949953421312<=n)(hl:aN s a l):bS Tryz.prog (bX bZ) X (n+300) 53 [.slice a l.length cap] s (fun v A=>v = .int .i64 (if gG 9 100000 l=true then 0 else 12)/\A=[]):=by
 refine enter Qf rfl hs ?_;unfold OM;have hlen:=hl.len;refine rS (kM J (Q0 (rQ (rS (kM J (kO (gB J J (fun s1 h1=>Ba _ _ _ _ _ _ s1 h1.wf oM dE (hl.ext hs h1.2.1)) (fun h1=>?_) (fun h1=>?_))))))))
 ·refine eC J (Q0 (U0 J (Q1 (W0 (rS (kM J (Q0 (V2 (aU J ⟨congrArg (Value.int .i64) ?_,rfl⟩)))))))))
  first
   |exact(if_pos aM).symm
   |exact(if_neg (by simp[*])).symm
 ·refine eC J (Q0 (Y0 J (rS (kM J (Q0 (V2 (W3 (aU J ⟨congrArg (Value.int .i64) ?_,rfl⟩))))))))
  first
   |exact(if_pos aM).symm
   |exact(if_neg (by simp[*])).symm
theorem Ip(n:Nat)(a1 a2:Option Addr)(c1 c2:Nat)(l1 l2:List Int)(s:St)(hs:Wf s)(hn:562949953421312<=n)(hl1:aN s a1 l1)(hl2:aN s a2 l2):bS Tryz.prog (bX bZ) X (n+300) 165 [.slice a1 l1.length c1,.slice a2 l2.length c2] s (fun v A=>v = .bool (bW l1 l2)/\A=[]):=by
 refine enter Lq rfl hs ?_;unfold GR;have hlen1:=hl1.len;have hlen2:=hl2.len;refine rS (kM J (Q0 (rS (kM J (kO (gB J J (fun s1 h1=>Ba _ _ _ _ _ _ s1 h1.wf oM dE (hl1.ext hs h1.2.1)) (fun h1=>?_) (fun h1=>?_)))))))
 ·refine kM J (kG (U2 J (kG (gB J J (fun s1 h1=>Ba _ _ _ _ _ _ s1 h1.wf oM dE (hl2.ext hs h1.2.1)) (fun h2=>?_) (fun h2=>?_)))))
  ·refine cB J J J (kM J (Q0 (V2 (aU J ⟨congrArg Value.bool ?_,rfl⟩))))
   unfold bW;simp[*]
  ·refine cB J J J (kM J (Q0 (V2 (aU J ⟨congrArg Value.bool ?_,rfl⟩))))
   unfold bW;simp[*]
 ·refine kM J (V0 (V0 (bP J J J (kM J (Q0 (V2 (aU J ⟨congrArg Value.bool ?_,rfl⟩)))))))
  unfold bW;simp[*]
theorem wB(n:Nat)(a b:Int)(s:St)(hs:Wf s)(ha:0<a/\a<=100000)(hb:0<b/\b<=100000):bS Tryz.prog (bX bZ) X (n+100) 213 [.int .i64 a,.int .i64 b] s (fun v A=>v = .int .i64 (qG a b)/\A=[]):=by
 refine enter LF rfl hs ?_;unfold G6;refine rS (kM J (Q0 (rS (kM J (kM J (kO (oB J (kM J (kM J (kO (A8 J (kM J (kM J (Q0 (rQ (rS (kM J (Q0 (W1 (bH (rQ (rS (kM J (kO (fA J J (fun _=>(Q0 ?_)) (fun h=>absurd h dE))))))))))))))))))))))))));refine Y0 J (Q1 (W0 (rQ (W1 (rS (kM J (kM J (kM J (aY J J oM (kO (bJ J J (fun h2=>?_) (fun h2=>?_))))))))))))
 ·refine Q0 (Y0 J (rS (kM J (kM J (Q0 (V2 (Y6 (W3 (W3 (Y6 (W3 (aU J ⟨congrArg (Value.int .i64) ?_,rfl⟩))))))))))))
  unfold qG
  first
   |exact(if_pos oM).symm
   |(rw[if_neg oM];exact(if_pos oM).symm)
   |(rw[if_neg oM,if_neg oM];exact(if_pos oM).symm)
   |(rw[if_neg oM,if_neg oM];exact(if_neg oM).symm)
 ·refine Q0 (U0 J (Q1 (Z1 (W0 (rI (kM J (aW J J dE (kM J (Q0 (W0 (bH (rQ (rS (kM J (kO (fA J J (fun _=>(Q0 (Y0 J (Q1 (W0 (rQ (W1 (rS (kM J ?_))))))))) (fun h=>absurd h dE)))))))))))))))))
  refine kM J (kM J (aY J J oM (kO (bJ J J (fun h4=>?_) (fun h4=>?_)))))
  ·refine Q0 (Y0 J (rS (kM J (kM J (Q0 (V2 (Y6 (W3 (W3 (Y6 (W3 (aU J ⟨congrArg (Value.int .i64) ?_,rfl⟩))))))))))))
   unfold qG
   first
    |exact(if_pos oM).symm
    |(rw[if_neg oM];exact(if_pos oM).symm)
    |(rw[if_neg oM,if_neg oM];exact(if_pos oM).symm)
    |(rw[if_neg oM,if_neg oM];exact(if_neg oM).symm)
  ·refine Q0 (U0 J (Q1 (Z1 (W0 (rI (kM J (aW J J dE (kM J (Q0 (W0 (bH (rQ (rS (kM J (kO (fA J J (fun _=>(Q0 (Y0 J (Q1 (W0 (rQ (W1 (rS (kM J ?_))))))))) (fun h=>absurd h dE)))))))))))))))))
   refine kM J (kM J (aY J J oM (kO (bJ J J (fun h6=>?_) (fun h6=>?_)))))
   ·refine Q0 (Y0 J (rS (kM J (kM J (Q0 (V2 (Y6 (W3 (W3 (Y6 (W3 (aU J ⟨congrArg (Value.int .i64) ?_,rfl⟩))))))))))))
    unfold qG
    first
     |exact(if_pos oM).symm
     |(rw[if_neg oM];exact(if_pos oM).symm)
     |(rw[if_neg oM,if_neg oM];exact(if_pos oM).symm)
     |(rw[if_neg oM,if_neg oM];exact(if_neg oM).symm)
   ·refine Q0 (U0 J (Q1 (Z1 (W0 (rI (kM J (aW J J dE (kM J (Q0 (W0 (bH (rQ (rS (kM J (kO (fA J J (fun h=>absurd h dE) (fun _=>(Q0 (U0 J (Y4 (Z2 (Z2 (Q3 (W0 (rS ?_)))))))))))))))))))))))))
    refine kM J (Q0 (V2 (aU J ⟨congrArg (Value.int .i64) ?_,rfl⟩)));unfold qG
    first
     |exact(if_pos oM).symm
     |(rw[if_neg oM];exact(if_pos oM).symm)
     |(rw[if_neg oM,if_neg oM];exact(if_pos oM).symm)
     |(rw[if_neg oM,if_neg oM];exact(if_neg oM).symm)
theorem wC(n:Nat)(a b:Int)(s:St)(hs:Wf s)(ha:0<a/\a<=100000)(hb:0<b/\b<=100000):bS Tryz.prog (bX bZ) X (n+100) 193 [.int .i64 a,.int .i64 b] s (fun v A=>v = .int .i64 (qG a b)/\A=[]):=by
 refine enter LA rfl hs ?_;unfold G1;refine rS (kM J (Q0 (rQ (rS (kM J (Q0 (W1 (bH (rQ (rS (kM J (kO (fA J J (fun _=>(Q0 (Y0 J (Q1 (W0 (rQ (W1 (rS (kM J (kM J (aY J J oM (kM J ?_)))))))))))) (fun h=>absurd h dE))))))))))))));refine kO (bJ J J (fun h2=>?_) (fun h2=>?_))
 ·refine kM J (V0 (V0 (V0 (V0 (V0 (cB J J J (Q0 (Y0 J (rS (kM J (kM J (Q0 (V2 (Y6 (W3 (W3 (Y6 (W3 (aU J ⟨congrArg (Value.int .i64) ?_,rfl⟩)))))))))))))))))))
  unfold qG
  first
   |exact(if_pos oM).symm
   |(rw[if_neg oM];exact(if_pos oM).symm)
   |(rw[if_neg oM,if_neg oM];exact(if_pos oM).symm)
   |(rw[if_neg oM,if_neg oM];exact(if_neg oM).symm)
 ·refine kM J (kG (U2 J (kG (U2 J (kG (Ge J J oM (kG (U2 J (kG (bJ J J (fun h3=>?_) (fun h3=>?_)))))))))))
  ·refine bP J J J (Q0 (Y0 J (rS (kM J (kM J (Q0 (V2 (Y6 (W3 (W3 (Y6 (W3 (aU J ⟨congrArg (Value.int .i64) ?_,rfl⟩)))))))))))))
   unfold qG
   first
    |exact(if_pos oM).symm
    |(rw[if_neg oM];exact(if_pos oM).symm)
    |(rw[if_neg oM,if_neg oM];exact(if_pos oM).symm)
    |(rw[if_neg oM,if_neg oM];exact(if_neg oM).symm)
  ·refine bP J J J (Q0 (U0 J (Q1 (Z1 (W0 (rI (kM J (aW J J dE (kM J (Q0 (W0 (bH (rQ (rS (kM J (kO (fA J J (fun _=>(Q0 (Y0 J (Q1 (W0 (rQ (W1 (rS ?_)))))))) (fun h=>absurd h dE))))))))))))))))))
   refine kM J (kM J (aY J J oM (kM J (kO (bJ J J (fun h5=>?_) (fun h5=>?_))))))
   ·refine kM J (V0 (V0 (V0 (V0 (V0 (cB J J J (Q0 (Y0 J (rS (kM J (kM J (Q0 (V2 (Y6 (W3 (W3 (Y6 (W3 (aU J ⟨congrArg (Value.int .i64) ?_,rfl⟩)))))))))))))))))))
    unfold qG
    first
     |exact(if_pos oM).symm
     |(rw[if_neg oM];exact(if_pos oM).symm)
     |(rw[if_neg oM,if_neg oM];exact(if_pos oM).symm)
     |(rw[if_neg oM,if_neg oM];exact(if_neg oM).symm)
   ·refine kM J (kG (U2 J (kG (U2 J (kG (Ge J J oM (kG (U2 J (kG (bJ J J (fun h6=>?_) (fun h6=>?_)))))))))))
    ·refine bP J J J (Q0 (Y0 J (rS (kM J (kM J (Q0 (V2 (Y6 (W3 (W3 (Y6 (W3 (aU J ⟨congrArg (Value.int .i64) ?_,rfl⟩)))))))))))))
     unfold qG
     first
      |exact(if_pos oM).symm
      |(rw[if_neg oM];exact(if_pos oM).symm)
      |(rw[if_neg oM,if_neg oM];exact(if_pos oM).symm)
      |(rw[if_neg oM,if_neg oM];exact(if_neg oM).symm)
    ·refine bP J J J (Q0 (U0 J (Q1 (Z1 (W0 (rI (kM J (aW J J dE (kM J (Q0 (W0 (bH (rQ (rS (kM J (kO (fA J J (fun _=>(Q0 (Y0 J (Q1 (W0 (rQ (W1 (rS ?_)))))))) (fun h=>absurd h dE))))))))))))))))))
     refine kM J (kM J (aY J J oM (kM J (kO (bJ J J (fun h8=>?_) (fun h8=>?_))))))
     ·refine kM J (V0 (V0 (V0 (V0 (V0 (cB J J J (Q0 (Y0 J (rS (kM J (kM J (Q0 (V2 (Y6 (W3 (W3 (Y6 (W3 (aU J ⟨congrArg (Value.int .i64) ?_,rfl⟩)))))))))))))))))))
      unfold qG
      first
       |exact(if_pos oM).symm
       |(rw[if_neg oM];exact(if_pos oM).symm)
       |(rw[if_neg oM,if_neg oM];exact(if_pos oM).symm)
       |(rw[if_neg oM,if_neg oM];exact(if_neg oM).symm)
     ·refine kM J (kG (U2 J (kG (U2 J (kG (Ge J J oM (kG (U2 J (kG (bJ J J (fun h9=>?_) (fun h9=>?_)))))))))))
      ·refine bP J J J (Q0 (Y0 J (rS (kM J (kM J (Q0 (V2 (Y6 (W3 (W3 (Y6 (W3 (aU J ⟨congrArg (Value.int .i64) ?_,rfl⟩)))))))))))))
       unfold qG
       first
        |exact(if_pos oM).symm
        |(rw[if_neg oM];exact(if_pos oM).symm)
        |(rw[if_neg oM,if_neg oM];exact(if_pos oM).symm)
        |(rw[if_neg oM,if_neg oM];exact(if_neg oM).symm)
      ·refine bP J J J (Q0 (U0 J (Q1 (Z1 (W0 (rI (kM J (aW J J dE (kM J (Q0 (W0 (bH (rQ (rS (kM J (kO (fA J J (fun h=>absurd h dE) (fun _=>(Q0 (U0 J (Y4 (Z2 (Z2 (Q3 (W0 ?_)))))))))))))))))))))))))
       refine rS (kM J (Q0 (V2 (aU J ⟨congrArg (Value.int .i64) ?_,rfl⟩))));unfold qG
       first
        |exact(if_pos oM).symm
        |(rw[if_neg oM];exact(if_pos oM).symm)
        |(rw[if_neg oM,if_neg oM];exact(if_pos oM).symm)
        |(rw[if_neg oM,if_neg oM];exact(if_neg oM).symm)
end
variable{l:List Int}{i:Nat}{G:List (Nat×Nat)}
def many(l:List Int)(i:Nat):Nat:=if i+2<l.length/\qG (l.getD (i+1) 0-l.getD i 0) (l.getD (i+2) 0-l.getD (i+1) 0)≠0 then 2 else 1
theorem dG(h:i+2<l.length)(h2:¬qG (l.getD (i+1) 0-l.getD i 0) (l.getD (i+2) 0-l.getD (i+1) 0)=0):many l i=2:=if_pos ⟨h,h2⟩
theorem dI(h:¬i+2<l.length):many l i=1:=if_neg (fun q=>h q.1)
theorem cN(h:qG (l.getD (i+1) 0-l.getD i 0) (l.getD (i+2) 0-l.getD (i+1) 0)=0):many l i=1:=if_neg (fun q=>q.2 h)
theorem cJ(h:i+2<l.length)(h2:0<qG (l.getD (i+1) 0-l.getD i 0) (l.getD (i+2) 0-l.getD (i+1) 0)):many l i=2:=dG h oM
theorem cZ(h:¬0<qG (l.getD (i+1) 0-l.getD i 0) (l.getD (i+2) 0-l.getD (i+1) 0)):many l i=1:=cN (by have:=Ce (l.getD (i+1) 0-l.getD i 0) (l.getD (i+2) 0-l.getD (i+1) 0);omega)
theorem iI(l:List Int)(i:Nat):many l i=1∨many l i=2:=by unfold many;split <;> simp
def fZ(l:List Int)(i:Nat):List (Nat×Nat):=if h:i+1<l.length then (i,many l i)::fZ l (i+many l i) else []
termination_by l.length-i
decreasing_by have:=iI l i;omega
theorem RO(hi:i+1<l.length):fZ l i=(i,many l i)::fZ l (i+many l i):=by rw[fZ,dif_pos hi]
theorem LQ(hi:l.length<=i+1):fZ l i=[]:=by rw[fZ,dif_neg oM]
theorem dU{i m:Nat}(h:fZ l 0=G++fZ l i)(hi:i+1<l.length)(hm:many l i=m):fZ l 0=(G++[(i,m)])++fZ l (i+m):=by
 rw[h,RO hi,hm];simp
theorem iZ(h:fZ l 0=G++fZ l i)(hi:l.length<=i+1):fZ l 0=G:=by
 rw[h,LQ hi];simp
def jO(G:List (Nat×Nat)):List Value:=G.flatMap fun p=>[.int .i64 (p.1:Int),.int .i64 (p.2:Int)]
theorem dN:(jO G).length=G.length*2:=by
 induction G with
 |nil=>rfl
 |cons p G ih=>simp[jO] at ih ⊢;omega
theorem dO{G H:List (Nat×Nat)}:jO (G++H)=jO G++jO H:=by simp[jO]
theorem xU:∀{k:Nat} {p:Nat×Nat},G[k]? = some p->(jO G)[k*2]? = some (.int .i64 (p.1:Int))/\(jO G)[k*2+1]? = some (.int .i64 (p.2:Int)):=by
 induction G with
 |nil=>intro k p h;simp at h
 |cons q G ih=>
  intro k p h;cases k with
  |zero=>simp at h;subst h;exact⟨rfl,rfl⟩
  |succ k=>
   have:=ih (k:=k) (p:=p) (by simpa using h);rw[show(k+1)*2=k*2+2 by omega];exact this
theorem RP{l:List Int}:∀(f i:Nat),l.length<=i+f->∀p∈fZ l i,p.1+p.2<l.length/\many l p.1=p.2
 |0,i,hf,p,hp=>by rw[fZ,dif_neg oM] at hp;cases hp
 |f+1,i,hf,p,hp=>by
  rw[fZ] at hp;by_cases hi:i+1<l.length
  ·rw[dif_pos hi] at hp
   have hm:=iI l i;rcases List.mem_cons.1 hp with rfl|hp
   ·refine⟨?_,rfl⟩
    show i+many l i<l.length;unfold many;split <;> omega
   ·exact RP f (i+many l i) oM p hp
  ·rw[dif_neg hi] at hp;cases hp
theorem xV{l:List Int}:∀(f i:Nat),l.length<=i+f->(fZ l i).length<=f
 |0,i,hf=>by rw[fZ,dif_neg oM];simp
 |f+1,i,hf=>by
  rw[fZ];by_cases hi:i+1<l.length
  ·rw[dif_pos hi]
   have hm:=iI l i;have:=xV (l:=l) f (i+many l i) oM;simp;omega
  ·rw[dif_neg hi];simp
section
variable{X:FuncId->List Value->St->(Value->St->Bool)->Bool}
theorem Fw(n:Nat)(a:Option Addr)(cap:Nat)(l:List Int)(s:St)(hs:Wf s)(hn:281474976710656<=n)(hl:aN s a l)(hp:uC 9 100000 l):bS Tryz.prog (bX bZ) X (n+300) 203 [.slice a l.length cap] s (fun v A=>∃b,v = .slice (some ⟨b,0,none⟩) (fZ l 0).length OPEN/\A=[.row b 245 true (jO (fZ l 0))]):=by
 refine enter LB rfl hs ?_;unfold G2;have hlen:=hl.len;have z0:=hp.lo (0);have z1:=hp.lo (1);have z2:=hp.lo (2);have r0:1<l.length->l.getD (0) 0<l.getD (1) 0:=fun h=>hp.rise _ h
 have r1:2<l.length->l.getD (1) 0<l.getD (2) 0:=fun h=>hp.rise _ h
 have hm9:=hp.hm;have h29:=hp.h2;refine rS (kM J (Q0 (rS (kM J (Q0 (rQ (rS (kM J (Q0 (W1 (bH (rQ (rS (kM J (aW J J dE (kM J (aJ J hl.spot (cX J J (fun h1=>?_) (fun h1=>?_)))))))))))))))))))
 ·refine Q0 (Y0 J (Q1 (W0 (W1 (rS (kM J (Q0 (rQ (rS (kM J (aW J J dE (kM J (aJ J hl.spot (cX J J (fun h2=>?_) (fun h2=>?_)))))))))))))))
  ·refine kM J (kG (U2 J (kG (U2 J (kG (Y3 J J dE (kG (Q7 (j:=1) hl rfl rfl oM (by first|rfl|omega) oM (fun _ _ a3=>(kG (W6 J (hl.at a3 oM) (kG (U2 J (kG (U2 J (kG (Q7 (j:=0) hl rfl rfl oM (by first|rfl|omega) oM (fun _ _ a4=>(kG (W6 J (hl.at a4 oM) (kG (bN J J oM (kG (U2 J (kG (U2 J (kG (Y3 J J dE (kG (Q7 (j:=2) hl rfl rfl oM (by first|rfl|omega) oM (fun _ _ a5=>(kG (W6 J (hl.at a5 oM) (kG (U2 J (kG (U2 J (kG (Y3 J J dE (kG (Q7 (j:=1) hl rfl rfl oM (by first|rfl|omega) oM (fun _ _ a6=>(kG (W6 J (hl.at a6 oM) (kG (bN J J oM (kG (gP J J (fun s1 h1=>wB _ _ _ s1 h1.wf oM oM) (kG (V3 J J (fun h7=>?_) (fun h7=>?_)))))))))))))))))))))))))))))))))))))))))))))))))))
   ·refine cB J J J (Q0 (Y0 J (rI (kM J (Q0 (W0 (rS (kM J (kM J (kM J (eI J J (bB J J J (fun b8=>(kO (fV J J (fH.own .here rfl sM) dE oM oM (fun b9=>(kM J (Q0 (rI (kM J (kM J (aW J J dE (kM J (Q0 (Z1 (W0 ?_))))))))))))))))))))))))))
    refine U4 (fun j e A=>∃(i b:Nat) (G:List (Nat×Nat)),e=[(0,.slice a l.length cap),(4,.int .i64 (i:Int)),(3,.slice (some ⟨b,0,none⟩) G.length OPEN)]/\A=(.row b 245 true (jO G)::[])/\j=l.length-i/\i<=l.length/\fZ l 0=G++fZ l i/\G.length<=i) 160 0 281474976710656 ?_ (j:=_) (env2:=_) (A2:=_) ?_ ?_ ?_ ?_ ⟨2,b9,[(0,2)],rfl,rfl,rfl,oM,(dU (G:=[]) (i:=0) J oM (by first|exact dG oM aM|exact dI oM|exact cN aM|exact cJ oM aM|exact cZ aM)),sM⟩
    rotate_left
    ·omega
    ·omega
    ·exact lL
    ·exact(.q (.cons _ .slnil))
    rintro n hn j _ _ ⟨i,b,G,rfl,rfl,rfl,hi,hG,hGl⟩;have z0:=hp.lo (i);have z1:=hp.lo (i+1);have z2:=hp.lo (i+2);have r0:i+1<l.length->l.getD (i) 0<l.getD (i+1) 0:=fun h=>hp.rise _ h
    have r1:i+2<l.length->l.getD (i+1) 0<l.getD (i+2) 0:=fun h=>hp.rise _ h
    have hm9:=hp.hm;have h29:=hp.h2;refine rQ (rS (kM J (aW J J oM (kM J (aJ J hl.spot (cX J J (fun h10=>?_) (fun h10=>?_)))))))
    ·refine Q0 (Y0 J (Q1 (W0 (W1 (rS (kM J (Q0 (rQ (rS (kM J (aW J J oM (kM J (aJ J hl.spot (cX J J (fun h11=>?_) (fun h11=>?_)))))))))))))))
     ·refine kM J (kG (U2 J (kG (U2 J (kG (Y3 J J oM (kG (Q7 (j:=i+1) hl rfl rfl oM (by first|rfl|omega) oM (fun _ _ a12=>(kG (W6 J (hl.at a12 oM) (kG (U2 J (kG (U2 J (kG (Q7 (j:=i) hl rfl rfl oM (by first|rfl|omega) oM (fun _ _ a13=>(kG (W6 J (hl.at a13 oM) (kG (bN J J oM (kG (U2 J (kG (U2 J (kG (Y3 J J oM (kG (Q7 (j:=i+2) hl rfl rfl oM (by first|rfl|omega) oM (fun _ _ a14=>(kG (W6 J (hl.at a14 oM) (kG (U2 J (kG (U2 J (kG (Y3 J J oM (kG (Q7 (j:=i+1) hl rfl rfl oM (by first|rfl|omega) oM (fun _ _ a15=>(kG (W6 J (hl.at a15 oM) (kG (bN J J oM (kG (gP J J (fun s1 h1=>wB _ _ _ s1 h1.wf oM oM) (kG (V3 J J (fun h16=>?_) (fun h16=>?_)))))))))))))))))))))))))))))))))))))))))))))))))))
      ·refine cB J J J (Q0 (Y0 J (rI (kM J (Q0 (W0 (rS (kM J (kM J (kM J (eI J J (bB J J J (fun b17=>(kO (cK J J (fH.own .here rfl sM) .h1 (by rw[dN]) (.inl ⟨rfl,rfl⟩) dE oM oM (fun b18=>(kM J (Q0 (rI (kM J (kM J (aW J J oM (kM J (Q0 (Z1 (W0 ?_))))))))))))))))))))))))))
       exact⟨rfl,_,_,_,(show l.length-(i+2)<l.length-i from oM),(lc 0 J (lc 4 J (lc 3 J eU.nil))),(.q (.cons _ .slnil)),⟨i+2,b18,G++[(i,2)],sM,(by rw[dO];rfl),rfl,oM,(dU hG oM (by first|exact dG oM aM|exact dI oM|exact cN aM|exact cJ oM aM|exact cZ aM)),(by simp;omega)⟩⟩
      ·refine cB J J J (Q0 (U0 J (Q1 (W0 (rS (kM J (kM J (kM J (eI J J (bB J J J (fun b19=>(kO (cK J J (fH.own .here rfl sM) .h1 (by rw[dN]) (.inl ⟨rfl,rfl⟩) dE oM oM (fun b20=>(kM J (Q0 (rI (kM J (kM J (aW J J oM (kM J (Q0 (Z1 (W0 ?_))))))))))))))))))))))))
       exact⟨rfl,_,_,_,(show l.length-(i+1)<l.length-i from oM),(lc 0 J (lc 4 J (lc 3 J eU.nil))),(.q (.cons _ .slnil)),⟨i+1,b20,G++[(i,1)],sM,(by rw[dO];rfl),rfl,oM,(dU hG oM (by first|exact dG oM aM|exact dI oM|exact cN aM|exact cJ oM aM|exact cZ aM)),(by simp;omega)⟩⟩
     ·refine kM J (V0 (V0 (V0 (V0 (V0 (V0 (V0 (V0 (V0 (V0 (V0 (V0 (V0 (V0 (V0 (V0 (V0 (V0 (V0 (V0 (V0 (V0 (V0 ?_)))))))))))))))))))))))
      refine bP J J J (Q0 (U0 J (Q1 (W0 (rS (kM J (kM J (kM J (eI J J (bB J J J (fun b21=>(kO (cK J J (fH.own .here rfl sM) .h1 (by rw[dN]) (.inl ⟨rfl,rfl⟩) dE oM oM (fun b22=>(kM J (Q0 (rI (kM J (kM J (aW J J oM (kM J (Q0 (Z1 (W0 ?_))))))))))))))))))))))));exact⟨rfl,_,_,_,(show l.length-(i+1)<l.length-i from oM),(lc 0 J (lc 4 J (lc 3 J eU.nil))),(.q (.cons _ .slnil)),⟨i+1,b22,G++[(i,1)],sM,(by rw[dO];rfl),rfl,oM,(dU hG oM (by first|exact dG oM aM|exact dI oM|exact cN aM|exact cJ oM aM|exact cZ aM)),(by simp;omega)⟩⟩
    ·refine Q0 (U0 J (Y4 (Z2 (Z2 (Q3 (W0 (rS (kM J (kM J (Q0 (V2 ?_)))))))))))
     first
      |exact fX J (.refl _) ⟨b,by rw[iZ hG oM],by rw[iZ hG oM]⟩
      |(exfalso;omega)
   ·refine cB J J J (Q0 (U0 J (Q1 (W0 (rS (kM J (kM J (kM J (eI J J (bB J J J (fun b23=>(kO (fV J J (fH.own .here rfl sM) dE oM oM (fun b24=>(kM J (Q0 (rI (kM J (kM J (aW J J dE (kM J (Q0 (Z1 (W0 ?_))))))))))))))))))))))))
    refine U4 (fun j e A=>∃(i b:Nat) (G:List (Nat×Nat)),e=[(0,.slice a l.length cap),(4,.int .i64 (i:Int)),(3,.slice (some ⟨b,0,none⟩) G.length OPEN)]/\A=(.row b 245 true (jO G)::[])/\j=l.length-i/\i<=l.length/\fZ l 0=G++fZ l i/\G.length<=i) 160 0 281474976710656 ?_ (j:=_) (env2:=_) (A2:=_) ?_ ?_ ?_ ?_ ⟨1,b24,[(0,1)],rfl,rfl,rfl,oM,(dU (G:=[]) (i:=0) J oM (by first|exact dG oM aM|exact dI oM|exact cN aM|exact cJ oM aM|exact cZ aM)),sM⟩
    rotate_left
    ·omega
    ·omega
    ·exact lL
    ·exact(.q (.cons _ .slnil))
    rintro n hn j _ _ ⟨i,b,G,rfl,rfl,rfl,hi,hG,hGl⟩;have z0:=hp.lo (i);have z1:=hp.lo (i+1);have z2:=hp.lo (i+2);have r0:i+1<l.length->l.getD (i) 0<l.getD (i+1) 0:=fun h=>hp.rise _ h
    have r1:i+2<l.length->l.getD (i+1) 0<l.getD (i+2) 0:=fun h=>hp.rise _ h
    have hm9:=hp.hm;have h29:=hp.h2;refine rQ (rS (kM J (aW J J oM (kM J (aJ J hl.spot (cX J J (fun h25=>?_) (fun h25=>?_)))))))
    ·refine Q0 (Y0 J (Q1 (W0 (W1 (rS (kM J (Q0 (rQ (rS (kM J (aW J J oM (kM J (aJ J hl.spot (cX J J (fun h26=>?_) (fun h26=>?_)))))))))))))))
     ·refine kM J (kG (U2 J (kG (U2 J (kG (Y3 J J oM (kG (Q7 (j:=i+1) hl rfl rfl oM (by first|rfl|omega) oM (fun _ _ a27=>(kG (W6 J (hl.at a27 oM) (kG (U2 J (kG (U2 J (kG (Q7 (j:=i) hl rfl rfl oM (by first|rfl|omega) oM (fun _ _ a28=>(kG (W6 J (hl.at a28 oM) (kG (bN J J oM (kG (U2 J (kG (U2 J (kG (Y3 J J oM (kG (Q7 (j:=i+2) hl rfl rfl oM (by first|rfl|omega) oM (fun _ _ a29=>(kG (W6 J (hl.at a29 oM) (kG (U2 J (kG (U2 J (kG (Y3 J J oM (kG (Q7 (j:=i+1) hl rfl rfl oM (by first|rfl|omega) oM (fun _ _ a30=>(kG (W6 J (hl.at a30 oM) (kG (bN J J oM (kG (gP J J (fun s1 h1=>wB _ _ _ s1 h1.wf oM oM) (kG (V3 J J (fun h31=>?_) (fun h31=>?_)))))))))))))))))))))))))))))))))))))))))))))))))))
      ·refine cB J J J (Q0 (Y0 J (rI (kM J (Q0 (W0 (rS (kM J (kM J (kM J (eI J J (bB J J J (fun b32=>(kO (cK J J (fH.own .here rfl sM) .h1 (by rw[dN]) (.inl ⟨rfl,rfl⟩) dE oM oM (fun b33=>(kM J (Q0 (rI (kM J (kM J (aW J J oM (kM J (Q0 (Z1 (W0 ?_))))))))))))))))))))))))))
       exact⟨rfl,_,_,_,(show l.length-(i+2)<l.length-i from oM),(lc 0 J (lc 4 J (lc 3 J eU.nil))),(.q (.cons _ .slnil)),⟨i+2,b33,G++[(i,2)],sM,(by rw[dO];rfl),rfl,oM,(dU hG oM (by first|exact dG oM aM|exact dI oM|exact cN aM|exact cJ oM aM|exact cZ aM)),(by simp;omega)⟩⟩
      ·refine cB J J J (Q0 (U0 J (Q1 (W0 (rS (kM J (kM J (kM J (eI J J (bB J J J (fun b34=>(kO (cK J J (fH.own .here rfl sM) .h1 (by rw[dN]) (.inl ⟨rfl,rfl⟩) dE oM oM (fun b35=>(kM J (Q0 (rI (kM J (kM J (aW J J oM (kM J (Q0 (Z1 (W0 ?_))))))))))))))))))))))))
       exact⟨rfl,_,_,_,(show l.length-(i+1)<l.length-i from oM),(lc 0 J (lc 4 J (lc 3 J eU.nil))),(.q (.cons _ .slnil)),⟨i+1,b35,G++[(i,1)],sM,(by rw[dO];rfl),rfl,oM,(dU hG oM (by first|exact dG oM aM|exact dI oM|exact cN aM|exact cJ oM aM|exact cZ aM)),(by simp;omega)⟩⟩
     ·refine kM J (V0 (V0 (V0 (V0 (V0 (V0 (V0 (V0 (V0 (V0 (V0 (V0 (V0 (V0 (V0 (V0 (V0 (V0 (V0 (V0 (V0 (V0 (V0 ?_)))))))))))))))))))))))
      refine bP J J J (Q0 (U0 J (Q1 (W0 (rS (kM J (kM J (kM J (eI J J (bB J J J (fun b36=>(kO (cK J J (fH.own .here rfl sM) .h1 (by rw[dN]) (.inl ⟨rfl,rfl⟩) dE oM oM (fun b37=>(kM J (Q0 (rI (kM J (kM J (aW J J oM (kM J (Q0 (Z1 (W0 ?_))))))))))))))))))))))));exact⟨rfl,_,_,_,(show l.length-(i+1)<l.length-i from oM),(lc 0 J (lc 4 J (lc 3 J eU.nil))),(.q (.cons _ .slnil)),⟨i+1,b37,G++[(i,1)],sM,(by rw[dO];rfl),rfl,oM,(dU hG oM (by first|exact dG oM aM|exact dI oM|exact cN aM|exact cJ oM aM|exact cZ aM)),(by simp;omega)⟩⟩
    ·refine Q0 (U0 J (Y4 (Z2 (Z2 (Q3 (W0 (rS (kM J (kM J (Q0 (V2 ?_)))))))))))
     first
      |exact fX J (.refl _) ⟨b,by rw[iZ hG oM],by rw[iZ hG oM]⟩
      |(exfalso;omega)
  ·refine kM J (V0 (V0 (V0 (V0 (V0 (V0 (V0 (V0 (V0 (V0 (V0 (V0 (V0 (V0 (V0 (V0 (V0 (V0 (V0 (V0 (V0 (V0 (V0 ?_)))))))))))))))))))))))
   refine bP J J J (Q0 (U0 J (Q1 (W0 (rS (kM J (kM J (kM J (eI J J (bB J J J (fun b38=>(kO (fV J J (fH.own .here rfl sM) dE oM oM (fun b39=>(kM J (Q0 (rI (kM J (kM J (aW J J dE (kM J (Q0 (Z1 (W0 ?_))))))))))))))))))))))));refine U4 (fun j e A=>∃(i b:Nat) (G:List (Nat×Nat)),e=[(0,.slice a l.length cap),(4,.int .i64 (i:Int)),(3,.slice (some ⟨b,0,none⟩) G.length OPEN)]/\A=(.row b 245 true (jO G)::[])/\j=l.length-i/\i<=l.length/\fZ l 0=G++fZ l i/\G.length<=i) 160 0 281474976710656 ?_ (j:=_) (env2:=_) (A2:=_) ?_ ?_ ?_ ?_ ⟨1,b39,[(0,1)],rfl,rfl,rfl,oM,(dU (G:=[]) (i:=0) J oM (by first|exact dG oM aM|exact dI oM|exact cN aM|exact cJ oM aM|exact cZ aM)),sM⟩
   rotate_left
   ·omega
   ·omega
   ·exact lL
   ·exact(.q (.cons _ .slnil))
   rintro n hn j _ _ ⟨i,b,G,rfl,rfl,rfl,hi,hG,hGl⟩;have z0:=hp.lo (i);have z1:=hp.lo (i+1);have z2:=hp.lo (i+2);have r0:i+1<l.length->l.getD (i) 0<l.getD (i+1) 0:=fun h=>hp.rise _ h
   have r1:i+2<l.length->l.getD (i+1) 0<l.getD (i+2) 0:=fun h=>hp.rise _ h
   have hm9:=hp.hm;have h29:=hp.h2;refine rQ (rS (kM J (aW J J oM (kM J (aJ J hl.spot (cX J J (fun h40=>?_) (fun h40=>?_)))))))
   ·refine Q0 (Y0 J (Q1 (W0 (W1 (rS (kM J (Q0 (rQ (rS (kM J (aW J J oM (kM J (aJ J hl.spot (cX J J (fun h41=>?_) (fun h41=>?_)))))))))))))))
    ·refine kM J (kG (U2 J (kG (U2 J (kG (Y3 J J oM (kG (Q7 (j:=i+1) hl rfl rfl oM (by first|rfl|omega) oM (fun _ _ a42=>(kG (W6 J (hl.at a42 oM) (kG (U2 J (kG (U2 J (kG (Q7 (j:=i) hl rfl rfl oM (by first|rfl|omega) oM (fun _ _ a43=>(kG (W6 J (hl.at a43 oM) (kG (bN J J oM (kG (U2 J (kG (U2 J (kG (Y3 J J oM (kG (Q7 (j:=i+2) hl rfl rfl oM (by first|rfl|omega) oM (fun _ _ a44=>(kG (W6 J (hl.at a44 oM) (kG (U2 J (kG (U2 J (kG (Y3 J J oM (kG (Q7 (j:=i+1) hl rfl rfl oM (by first|rfl|omega) oM (fun _ _ a45=>(kG (W6 J (hl.at a45 oM) (kG (bN J J oM (kG (gP J J (fun s1 h1=>wB _ _ _ s1 h1.wf oM oM) (kG (V3 J J (fun h46=>?_) (fun h46=>?_)))))))))))))))))))))))))))))))))))))))))))))))))))
     ·refine cB J J J (Q0 (Y0 J (rI (kM J (Q0 (W0 (rS (kM J (kM J (kM J (eI J J (bB J J J (fun b47=>(kO (cK J J (fH.own .here rfl sM) .h1 (by rw[dN]) (.inl ⟨rfl,rfl⟩) dE oM oM (fun b48=>(kM J (Q0 (rI (kM J (kM J (aW J J oM (kM J (Q0 (Z1 (W0 ?_))))))))))))))))))))))))))
      exact⟨rfl,_,_,_,(show l.length-(i+2)<l.length-i from oM),(lc 0 J (lc 4 J (lc 3 J eU.nil))),(.q (.cons _ .slnil)),⟨i+2,b48,G++[(i,2)],sM,(by rw[dO];rfl),rfl,oM,(dU hG oM (by first|exact dG oM aM|exact dI oM|exact cN aM|exact cJ oM aM|exact cZ aM)),(by simp;omega)⟩⟩
     ·refine cB J J J (Q0 (U0 J (Q1 (W0 (rS (kM J (kM J (kM J (eI J J (bB J J J (fun b49=>(kO (cK J J (fH.own .here rfl sM) .h1 (by rw[dN]) (.inl ⟨rfl,rfl⟩) dE oM oM (fun b50=>(kM J (Q0 (rI (kM J (kM J (aW J J oM (kM J (Q0 (Z1 (W0 ?_))))))))))))))))))))))))
      exact⟨rfl,_,_,_,(show l.length-(i+1)<l.length-i from oM),(lc 0 J (lc 4 J (lc 3 J eU.nil))),(.q (.cons _ .slnil)),⟨i+1,b50,G++[(i,1)],sM,(by rw[dO];rfl),rfl,oM,(dU hG oM (by first|exact dG oM aM|exact dI oM|exact cN aM|exact cJ oM aM|exact cZ aM)),(by simp;omega)⟩⟩
    ·refine kM J (V0 (V0 (V0 (V0 (V0 (V0 (V0 (V0 (V0 (V0 (V0 (V0 (V0 (V0 (V0 (V0 (V0 (V0 (V0 (V0 (V0 (V0 (V0 ?_)))))))))))))))))))))))
     refine bP J J J (Q0 (U0 J (Q1 (W0 (rS (kM J (kM J (kM J (eI J J (bB J J J (fun b51=>(kO (cK J J (fH.own .here rfl sM) .h1 (by rw[dN]) (.inl ⟨rfl,rfl⟩) dE oM oM (fun b52=>(kM J (Q0 (rI (kM J (kM J (aW J J oM (kM J (Q0 (Z1 (W0 ?_))))))))))))))))))))))));exact⟨rfl,_,_,_,(show l.length-(i+1)<l.length-i from oM),(lc 0 J (lc 4 J (lc 3 J eU.nil))),(.q (.cons _ .slnil)),⟨i+1,b52,G++[(i,1)],sM,(by rw[dO];rfl),rfl,oM,(dU hG oM (by first|exact dG oM aM|exact dI oM|exact cN aM|exact cJ oM aM|exact cZ aM)),(by simp;omega)⟩⟩
   ·refine Q0 (U0 J (Y4 (Z2 (Z2 (Q3 (W0 (rS (kM J (kM J (Q0 (V2 ?_)))))))))))
    first
     |exact fX J (.refl _) ⟨b,by rw[iZ hG oM],by rw[iZ hG oM]⟩
     |(exfalso;omega)
 ·refine Q0 (U0 J (Y4 (Z2 (Z2 (Q3 (W0 (rS (kM J (kM J (Q0 (V2 ?_)))))))))))
  first
   |exact fX J (.refl _) ⟨_,by rw[iZ hG oM],by rw[iZ hG oM]⟩
   |(exfalso;omega)
theorem LS(n:Nat)(a:Option Addr)(cap:Nat)(l:List Int)(s:St)(hs:Wf s)(hn:281474976710656<=n)(hl:aN s a l)(hp:uC 9 100000 l):bS Tryz.prog (bX bZ) X (n+300) 192 [.slice a l.length cap] s (fun v A=>∃b,v = .slice (some ⟨b,0,none⟩) (fZ l 0).length OPEN/\A=[.row b 245 true (jO (fZ l 0))]):=by
 refine enter Lz rfl hs ?_;unfold G0;have hlen:=hl.len;have z0:=hp.lo (0);have z1:=hp.lo (1);have z2:=hp.lo (2);have r0:1<l.length->l.getD (0) 0<l.getD (1) 0:=fun h=>hp.rise _ h
 have r1:2<l.length->l.getD (1) 0<l.getD (2) 0:=fun h=>hp.rise _ h
 have hm9:=hp.hm;have h29:=hp.h2;refine rS (kM J (Q0 (rS (kM J (Q0 (rS (kM J (Q0 (rQ (W1 (bH (rQ (rS (kM J (aW J J dE (kM J (aJ J hl.spot (cX J J (fun h1=>?_) (fun h1=>?_)))))))))))))))))))
 ·refine Q0 (Y0 J (Q1 (W0 (W1 (rS (kM J (Q0 (rQ (rS (kM J (aW J J dE (kM J (aJ J hl.spot (cX J J (fun h2=>?_) (fun h2=>?_)))))))))))))))
  ·refine kM J (kG (U2 J (kG (U2 J (kG (Y3 J J dE (kG (Q7 (j:=1) hl rfl rfl oM (by first|rfl|omega) oM (fun _ _ a3=>(kG (W6 J (hl.at a3 oM) (kG (U2 J (kG (U2 J (kG (Q7 (j:=0) hl rfl rfl oM (by first|rfl|omega) oM (fun _ _ a4=>(kG (W6 J (hl.at a4 oM) (kG (bN J J oM (kG (U2 J (kG (U2 J (kG (Y3 J J dE (kG (Q7 (j:=2) hl rfl rfl oM (by first|rfl|omega) oM (fun _ _ a5=>(kG (W6 J (hl.at a5 oM) (kG (U2 J (kG (U2 J (kG (Y3 J J dE (kG (Q7 (j:=1) hl rfl rfl oM (by first|rfl|omega) oM (fun _ _ a6=>(kG (W6 J (hl.at a6 oM) (kG (bN J J oM (kG (gP J J (fun s1 h1=>wC _ _ _ s1 h1.wf oM oM) (kG (dL J J (fun h7=>?_) (fun h7=>?_)))))))))))))))))))))))))))))))))))))))))))))))))))
   ·refine cB J J J (Q0 (Y0 J (rI (kM J (Q0 (W0 (rS (kM J (kM J (kM J (eI J J (bB J J J (fun b8=>(kO (fV J J (fH.own .here rfl sM) dE oM oM (fun b9=>(kM J (Q0 (rI (kM J (kM J (aW J J dE (kM J (Q0 (Z1 (W0 ?_))))))))))))))))))))))))))
    refine U4 (fun j e A=>∃(i b:Nat) (G:List (Nat×Nat)),e=[(0,.slice a l.length cap),(4,.int .i64 (i:Int)),(3,.slice (some ⟨b,0,none⟩) G.length OPEN)]/\A=(.row b 245 true (jO G)::[])/\j=l.length-i/\i<=l.length/\fZ l 0=G++fZ l i/\G.length<=i) 160 0 281474976710656 ?_ (j:=_) (env2:=_) (A2:=_) ?_ ?_ ?_ ?_ ⟨2,b9,[(0,2)],rfl,rfl,rfl,oM,(dU (G:=[]) (i:=0) J oM (by first|exact dG oM aM|exact dI oM|exact cN aM|exact cJ oM aM|exact cZ aM)),sM⟩
    rotate_left
    ·omega
    ·omega
    ·exact lL
    ·exact(.q (.cons _ .slnil))
    rintro n hn j _ _ ⟨i,b,G,rfl,rfl,rfl,hi,hG,hGl⟩;have z0:=hp.lo (i);have z1:=hp.lo (i+1);have z2:=hp.lo (i+2);have r0:i+1<l.length->l.getD (i) 0<l.getD (i+1) 0:=fun h=>hp.rise _ h
    have r1:i+2<l.length->l.getD (i+1) 0<l.getD (i+2) 0:=fun h=>hp.rise _ h
    have hm9:=hp.hm;have h29:=hp.h2;refine rQ (rS (kM J (aW J J oM (kM J (aJ J hl.spot (cX J J (fun h10=>?_) (fun h10=>?_)))))))
    ·refine Q0 (Y0 J (Q1 (W0 (W1 (rS (kM J (Q0 (rQ (rS (kM J (aW J J oM (kM J (aJ J hl.spot (cX J J (fun h11=>?_) (fun h11=>?_)))))))))))))))
     ·refine kM J (kG (U2 J (kG (U2 J (kG (Y3 J J oM (kG (Q7 (j:=i+1) hl rfl rfl oM (by first|rfl|omega) oM (fun _ _ a12=>(kG (W6 J (hl.at a12 oM) (kG (U2 J (kG (U2 J (kG (Q7 (j:=i) hl rfl rfl oM (by first|rfl|omega) oM (fun _ _ a13=>(kG (W6 J (hl.at a13 oM) (kG (bN J J oM (kG (U2 J (kG (U2 J (kG (Y3 J J oM (kG (Q7 (j:=i+2) hl rfl rfl oM (by first|rfl|omega) oM (fun _ _ a14=>(kG (W6 J (hl.at a14 oM) (kG (U2 J (kG (U2 J (kG (Y3 J J oM (kG (Q7 (j:=i+1) hl rfl rfl oM (by first|rfl|omega) oM (fun _ _ a15=>(kG (W6 J (hl.at a15 oM) (kG (bN J J oM (kG (gP J J (fun s1 h1=>wC _ _ _ s1 h1.wf oM oM) (kG (dL J J (fun h16=>?_) (fun h16=>?_)))))))))))))))))))))))))))))))))))))))))))))))))))
      ·refine cB J J J (Q0 (Y0 J (rI (kM J (Q0 (W0 (rS (kM J (kM J (kM J (eI J J (bB J J J (fun b17=>(kO (cK J J (fH.own .here rfl sM) .h1 (by rw[dN]) (.inl ⟨rfl,rfl⟩) dE oM oM (fun b18=>(kM J (Q0 (rI (kM J (kM J (aW J J oM (kM J (Q0 (Z1 (W0 ?_))))))))))))))))))))))))))
       exact⟨rfl,_,_,_,(show l.length-(i+2)<l.length-i from oM),(lc 0 J (lc 4 J (lc 3 J eU.nil))),(.q (.cons _ .slnil)),⟨i+2,b18,G++[(i,2)],sM,(by rw[dO];rfl),rfl,oM,(dU hG oM (by first|exact dG oM aM|exact dI oM|exact cN aM|exact cJ oM aM|exact cZ aM)),(by simp;omega)⟩⟩
      ·refine cB J J J (Q0 (U0 J (Q1 (W0 (rS (kM J (kM J (kM J (eI J J (bB J J J (fun b19=>(kO (cK J J (fH.own .here rfl sM) .h1 (by rw[dN]) (.inl ⟨rfl,rfl⟩) dE oM oM (fun b20=>(kM J (Q0 (rI (kM J (kM J (aW J J oM (kM J (Q0 (Z1 (W0 ?_))))))))))))))))))))))))
       exact⟨rfl,_,_,_,(show l.length-(i+1)<l.length-i from oM),(lc 0 J (lc 4 J (lc 3 J eU.nil))),(.q (.cons _ .slnil)),⟨i+1,b20,G++[(i,1)],sM,(by rw[dO];rfl),rfl,oM,(dU hG oM (by first|exact dG oM aM|exact dI oM|exact cN aM|exact cJ oM aM|exact cZ aM)),(by simp;omega)⟩⟩
     ·refine kM J (V0 (V0 (V0 (V0 (V0 (V0 (V0 (V0 (V0 (V0 (V0 (V0 (V0 (V0 (V0 (V0 (V0 (V0 (V0 (V0 (V0 (V0 (V0 ?_)))))))))))))))))))))))
      refine bP J J J (Q0 (U0 J (Q1 (W0 (rS (kM J (kM J (kM J (eI J J (bB J J J (fun b21=>(kO (cK J J (fH.own .here rfl sM) .h1 (by rw[dN]) (.inl ⟨rfl,rfl⟩) dE oM oM (fun b22=>(kM J (Q0 (rI (kM J (kM J (aW J J oM (kM J (Q0 (Z1 (W0 ?_))))))))))))))))))))))));exact⟨rfl,_,_,_,(show l.length-(i+1)<l.length-i from oM),(lc 0 J (lc 4 J (lc 3 J eU.nil))),(.q (.cons _ .slnil)),⟨i+1,b22,G++[(i,1)],sM,(by rw[dO];rfl),rfl,oM,(dU hG oM (by first|exact dG oM aM|exact dI oM|exact cN aM|exact cJ oM aM|exact cZ aM)),(by simp;omega)⟩⟩
    ·refine Q0 (U0 J (Y4 (Z2 (Z2 (Q3 (W0 (rS (kM J (kM J (Q0 (V2 ?_)))))))))))
     first
      |exact fX J (.refl _) ⟨b,by rw[iZ hG oM],by rw[iZ hG oM]⟩
      |(exfalso;omega)
   ·refine cB J J J (Q0 (U0 J (Q1 (W0 (rS (kM J (kM J (kM J (eI J J (bB J J J (fun b23=>(kO (fV J J (fH.own .here rfl sM) dE oM oM (fun b24=>(kM J (Q0 (rI (kM J (kM J (aW J J dE (kM J (Q0 (Z1 (W0 ?_))))))))))))))))))))))))
    refine U4 (fun j e A=>∃(i b:Nat) (G:List (Nat×Nat)),e=[(0,.slice a l.length cap),(4,.int .i64 (i:Int)),(3,.slice (some ⟨b,0,none⟩) G.length OPEN)]/\A=(.row b 245 true (jO G)::[])/\j=l.length-i/\i<=l.length/\fZ l 0=G++fZ l i/\G.length<=i) 160 0 281474976710656 ?_ (j:=_) (env2:=_) (A2:=_) ?_ ?_ ?_ ?_ ⟨1,b24,[(0,1)],rfl,rfl,rfl,oM,(dU (G:=[]) (i:=0) J oM (by first|exact dG oM aM|exact dI oM|exact cN aM|exact cJ oM aM|exact cZ aM)),sM⟩
    rotate_left
    ·omega
    ·omega
    ·exact lL
    ·exact(.q (.cons _ .slnil))
    rintro n hn j _ _ ⟨i,b,G,rfl,rfl,rfl,hi,hG,hGl⟩;have z0:=hp.lo (i);have z1:=hp.lo (i+1);have z2:=hp.lo (i+2);have r0:i+1<l.length->l.getD (i) 0<l.getD (i+1) 0:=fun h=>hp.rise _ h
    have r1:i+2<l.length->l.getD (i+1) 0<l.getD (i+2) 0:=fun h=>hp.rise _ h
    have hm9:=hp.hm;have h29:=hp.h2;refine rQ (rS (kM J (aW J J oM (kM J (aJ J hl.spot (cX J J (fun h25=>?_) (fun h25=>?_)))))))
    ·refine Q0 (Y0 J (Q1 (W0 (W1 (rS (kM J (Q0 (rQ (rS (kM J (aW J J oM (kM J (aJ J hl.spot (cX J J (fun h26=>?_) (fun h26=>?_)))))))))))))))
     ·refine kM J (kG (U2 J (kG (U2 J (kG (Y3 J J oM (kG (Q7 (j:=i+1) hl rfl rfl oM (by first|rfl|omega) oM (fun _ _ a27=>(kG (W6 J (hl.at a27 oM) (kG (U2 J (kG (U2 J (kG (Q7 (j:=i) hl rfl rfl oM (by first|rfl|omega) oM (fun _ _ a28=>(kG (W6 J (hl.at a28 oM) (kG (bN J J oM (kG (U2 J (kG (U2 J (kG (Y3 J J oM (kG (Q7 (j:=i+2) hl rfl rfl oM (by first|rfl|omega) oM (fun _ _ a29=>(kG (W6 J (hl.at a29 oM) (kG (U2 J (kG (U2 J (kG (Y3 J J oM (kG (Q7 (j:=i+1) hl rfl rfl oM (by first|rfl|omega) oM (fun _ _ a30=>(kG (W6 J (hl.at a30 oM) (kG (bN J J oM (kG (gP J J (fun s1 h1=>wC _ _ _ s1 h1.wf oM oM) (kG (dL J J (fun h31=>?_) (fun h31=>?_)))))))))))))))))))))))))))))))))))))))))))))))))))
      ·refine cB J J J (Q0 (Y0 J (rI (kM J (Q0 (W0 (rS (kM J (kM J (kM J (eI J J (bB J J J (fun b32=>(kO (cK J J (fH.own .here rfl sM) .h1 (by rw[dN]) (.inl ⟨rfl,rfl⟩) dE oM oM (fun b33=>(kM J (Q0 (rI (kM J (kM J (aW J J oM (kM J (Q0 (Z1 (W0 ?_))))))))))))))))))))))))))
       exact⟨rfl,_,_,_,(show l.length-(i+2)<l.length-i from oM),(lc 0 J (lc 4 J (lc 3 J eU.nil))),(.q (.cons _ .slnil)),⟨i+2,b33,G++[(i,2)],sM,(by rw[dO];rfl),rfl,oM,(dU hG oM (by first|exact dG oM aM|exact dI oM|exact cN aM|exact cJ oM aM|exact cZ aM)),(by simp;omega)⟩⟩
      ·refine cB J J J (Q0 (U0 J (Q1 (W0 (rS (kM J (kM J (kM J (eI J J (bB J J J (fun b34=>(kO (cK J J (fH.own .here rfl sM) .h1 (by rw[dN]) (.inl ⟨rfl,rfl⟩) dE oM oM (fun b35=>(kM J (Q0 (rI (kM J (kM J (aW J J oM (kM J (Q0 (Z1 (W0 ?_))))))))))))))))))))))))
       exact⟨rfl,_,_,_,(show l.length-(i+1)<l.length-i from oM),(lc 0 J (lc 4 J (lc 3 J eU.nil))),(.q (.cons _ .slnil)),⟨i+1,b35,G++[(i,1)],sM,(by rw[dO];rfl),rfl,oM,(dU hG oM (by first|exact dG oM aM|exact dI oM|exact cN aM|exact cJ oM aM|exact cZ aM)),(by simp;omega)⟩⟩
     ·refine kM J (V0 (V0 (V0 (V0 (V0 (V0 (V0 (V0 (V0 (V0 (V0 (V0 (V0 (V0 (V0 (V0 (V0 (V0 (V0 (V0 (V0 (V0 (V0 ?_)))))))))))))))))))))))
      refine bP J J J (Q0 (U0 J (Q1 (W0 (rS (kM J (kM J (kM J (eI J J (bB J J J (fun b36=>(kO (cK J J (fH.own .here rfl sM) .h1 (by rw[dN]) (.inl ⟨rfl,rfl⟩) dE oM oM (fun b37=>(kM J (Q0 (rI (kM J (kM J (aW J J oM (kM J (Q0 (Z1 (W0 ?_))))))))))))))))))))))));exact⟨rfl,_,_,_,(show l.length-(i+1)<l.length-i from oM),(lc 0 J (lc 4 J (lc 3 J eU.nil))),(.q (.cons _ .slnil)),⟨i+1,b37,G++[(i,1)],sM,(by rw[dO];rfl),rfl,oM,(dU hG oM (by first|exact dG oM aM|exact dI oM|exact cN aM|exact cJ oM aM|exact cZ aM)),(by simp;omega)⟩⟩
    ·refine Q0 (U0 J (Y4 (Z2 (Z2 (Q3 (W0 (rS (kM J (kM J (Q0 (V2 ?_)))))))))))
     first
      |exact fX J (.refl _) ⟨b,by rw[iZ hG oM],by rw[iZ hG oM]⟩
      |(exfalso;omega)
  ·refine kM J (V0 (V0 (V0 (V0 (V0 (V0 (V0 (V0 (V0 (V0 (V0 (V0 (V0 (V0 (V0 (V0 (V0 (V0 (V0 (V0 (V0 (V0 (V0 ?_)))))))))))))))))))))))
   refine bP J J J (Q0 (U0 J (Q1 (W0 (rS (kM J (kM J (kM J (eI J J (bB J J J (fun b38=>(kO (fV J J (fH.own .here rfl sM) dE oM oM (fun b39=>(kM J (Q0 (rI (kM J (kM J (aW J J dE (kM J (Q0 (Z1 (W0 ?_))))))))))))))))))))))));refine U4 (fun j e A=>∃(i b:Nat) (G:List (Nat×Nat)),e=[(0,.slice a l.length cap),(4,.int .i64 (i:Int)),(3,.slice (some ⟨b,0,none⟩) G.length OPEN)]/\A=(.row b 245 true (jO G)::[])/\j=l.length-i/\i<=l.length/\fZ l 0=G++fZ l i/\G.length<=i) 160 0 281474976710656 ?_ (j:=_) (env2:=_) (A2:=_) ?_ ?_ ?_ ?_ ⟨1,b39,[(0,1)],rfl,rfl,rfl,oM,(dU (G:=[]) (i:=0) J oM (by first|exact dG oM aM|exact dI oM|exact cN aM|exact cJ oM aM|exact cZ aM)),sM⟩
   rotate_left
   ·omega
   ·omega
   ·exact lL
   ·exact(.q (.cons _ .slnil))
   rintro n hn j _ _ ⟨i,b,G,rfl,rfl,rfl,hi,hG,hGl⟩;have z0:=hp.lo (i);have z1:=hp.lo (i+1);have z2:=hp.lo (i+2);have r0:i+1<l.length->l.getD (i) 0<l.getD (i+1) 0:=fun h=>hp.rise _ h
   have r1:i+2<l.length->l.getD (i+1) 0<l.getD (i+2) 0:=fun h=>hp.rise _ h
   have hm9:=hp.hm;have h29:=hp.h2;refine rQ (rS (kM J (aW J J oM (kM J (aJ J hl.spot (cX J J (fun h40=>?_) (fun h40=>?_)))))))
   ·refine Q0 (Y0 J (Q1 (W0 (W1 (rS (kM J (Q0 (rQ (rS (kM J (aW J J oM (kM J (aJ J hl.spot (cX J J (fun h41=>?_) (fun h41=>?_)))))))))))))))
    ·refine kM J (kG (U2 J (kG (U2 J (kG (Y3 J J oM (kG (Q7 (j:=i+1) hl rfl rfl oM (by first|rfl|omega) oM (fun _ _ a42=>(kG (W6 J (hl.at a42 oM) (kG (U2 J (kG (U2 J (kG (Q7 (j:=i) hl rfl rfl oM (by first|rfl|omega) oM (fun _ _ a43=>(kG (W6 J (hl.at a43 oM) (kG (bN J J oM (kG (U2 J (kG (U2 J (kG (Y3 J J oM (kG (Q7 (j:=i+2) hl rfl rfl oM (by first|rfl|omega) oM (fun _ _ a44=>(kG (W6 J (hl.at a44 oM) (kG (U2 J (kG (U2 J (kG (Y3 J J oM (kG (Q7 (j:=i+1) hl rfl rfl oM (by first|rfl|omega) oM (fun _ _ a45=>(kG (W6 J (hl.at a45 oM) (kG (bN J J oM (kG (gP J J (fun s1 h1=>wC _ _ _ s1 h1.wf oM oM) (kG (dL J J (fun h46=>?_) (fun h46=>?_)))))))))))))))))))))))))))))))))))))))))))))))))))
     ·refine cB J J J (Q0 (Y0 J (rI (kM J (Q0 (W0 (rS (kM J (kM J (kM J (eI J J (bB J J J (fun b47=>(kO (cK J J (fH.own .here rfl sM) .h1 (by rw[dN]) (.inl ⟨rfl,rfl⟩) dE oM oM (fun b48=>(kM J (Q0 (rI (kM J (kM J (aW J J oM (kM J (Q0 (Z1 (W0 ?_))))))))))))))))))))))))))
      exact⟨rfl,_,_,_,(show l.length-(i+2)<l.length-i from oM),(lc 0 J (lc 4 J (lc 3 J eU.nil))),(.q (.cons _ .slnil)),⟨i+2,b48,G++[(i,2)],sM,(by rw[dO];rfl),rfl,oM,(dU hG oM (by first|exact dG oM aM|exact dI oM|exact cN aM|exact cJ oM aM|exact cZ aM)),(by simp;omega)⟩⟩
     ·refine cB J J J (Q0 (U0 J (Q1 (W0 (rS (kM J (kM J (kM J (eI J J (bB J J J (fun b49=>(kO (cK J J (fH.own .here rfl sM) .h1 (by rw[dN]) (.inl ⟨rfl,rfl⟩) dE oM oM (fun b50=>(kM J (Q0 (rI (kM J (kM J (aW J J oM (kM J (Q0 (Z1 (W0 ?_))))))))))))))))))))))))
      exact⟨rfl,_,_,_,(show l.length-(i+1)<l.length-i from oM),(lc 0 J (lc 4 J (lc 3 J eU.nil))),(.q (.cons _ .slnil)),⟨i+1,b50,G++[(i,1)],sM,(by rw[dO];rfl),rfl,oM,(dU hG oM (by first|exact dG oM aM|exact dI oM|exact cN aM|exact cJ oM aM|exact cZ aM)),(by simp;omega)⟩⟩
    ·refine kM J (V0 (V0 (V0 (V0 (V0 (V0 (V0 (V0 (V0 (V0 (V0 (V0 (V0 (V0 (V0 (V0 (V0 (V0 (V0 (V0 (V0 (V0 (V0 ?_)))))))))))))))))))))))
     refine bP J J J (Q0 (U0 J (Q1 (W0 (rS (kM J (kM J (kM J (eI J J (bB J J J (fun b51=>(kO (cK J J (fH.own .here rfl sM) .h1 (by rw[dN]) (.inl ⟨rfl,rfl⟩) dE oM oM (fun b52=>(kM J (Q0 (rI (kM J (kM J (aW J J oM (kM J (Q0 (Z1 (W0 ?_))))))))))))))))))))))));exact⟨rfl,_,_,_,(show l.length-(i+1)<l.length-i from oM),(lc 0 J (lc 4 J (lc 3 J eU.nil))),(.q (.cons _ .slnil)),⟨i+1,b52,G++[(i,1)],sM,(by rw[dO];rfl),rfl,oM,(dU hG oM (by first|exact dG oM aM|exact dI oM|exact cN aM|exact cJ oM aM|exact cZ aM)),(by simp;omega)⟩⟩
   ·refine Q0 (U0 J (Y4 (Z2 (Z2 (Q3 (W0 (rS (kM J (kM J (Q0 (V2 ?_)))))))))))
    first
     |exact fX J (.refl _) ⟨b,by rw[iZ hG oM],by rw[iZ hG oM]⟩
     |(exfalso;omega)
 ·refine Q0 (U0 J (Y4 (Z2 (Z2 (Q3 (W0 (rS (kM J (kM J (Q0 (V2 ?_)))))))))))
  first
   |exact fX J (.refl _) ⟨_,by rw[iZ hG oM],by rw[iZ hG oM]⟩
   |(exfalso;omega)
end
variable{l w:List Int}{i k m:Nat}{p:Nat×Nat}{G:List (Nat×Nat)}
theorem Ab(h:many l i=2):¬qG (l.getD (i+1) 0-l.getD i 0) (l.getD (i+2) 0-l.getD (i+1) 0)=0:=fun q=>by
 rw[cN q] at h;cases h
theorem Ac{a b:Int}(h:¬qG a b=0):qG a b=1∨qG a b=2∨qG a b=3:=by
 rcases Ce a b with q|q
 ·exact absurd q h
 ·exact q
def zF(l w:List Int)(i:Nat):List Int:=
 (w.set i (w.getD i 0+18*(l.getD (i+1) 0-l.getD i 0))).set (i+1) (w.getD (i+1) 0+18*(l.getD (i+1) 0-l.getD i 0))
def Bb(a b k:Int):Int:=Int.tdiv 6 k*(1+k)*min a b
def dX(l w:List Int)(i:Nat)(k:Int):List Int:=
 let c:=Bb (l.getD (i+1) 0-l.getD i 0) (l.getD (i+2) 0-l.getD (i+1) 0) k
 if l.getD (i+2) 0-l.getD (i+1) 0<l.getD (i+1) 0-l.getD i 0 then
  ((w.set i (w.getD i 0+c*(2*k-1))).set (i+1) (w.getD (i+1) 0+c*(1+k)*(1+k))).set (i+2) (w.getD (i+2) 0+c*k*(2-k))
 else ((w.set i (w.getD i 0+c*k*(2-k))).set (i+1) (w.getD (i+1) 0+c*(1+k)*(1+k))).set (i+2) (w.getD (i+2) 0+c*(2*k-1))
def mX(l w:List Int)(p:Nat×Nat):List Int:=
 if p.2=1 then zF l w p.1 else dX l w p.1 (qG (l.getD (p.1+1) 0-l.getD p.1 0) (l.getD (p.1+2) 0-l.getD (p.1+1) 0))
def W(l:List Int)(k:Nat):List Int:=((fZ l 0).take k).foldl (mX l) (List.replicate l.length 0)
def fI(l:List Int):List Int:=(fZ l 0).foldl (mX l) (List.replicate l.length 0)
theorem Ec:(mX l w p).length=w.length:=by
 unfold mX zF dX;split
 ·simp
 ·split <;> simp
theorem Fx(h:(fZ l 0)[k]? = some p):W l (k+1)=mX l (W l k) p:=by
 unfold W;rw[List.take_add_one,h,List.foldl_append];rfl
theorem oW(h:(fZ l 0)[k]? = some (i,m))(hm:m=1):W l (k+1)=zF l (W l k) i:=by
 rw[Fx h];unfold mX;rw[if_pos hm]
theorem fY{r:Int}(h:(fZ l 0)[k]? = some (i,m))(hm:m=2)(hr:qG (l.getD (i+1) 0-l.getD i 0) (l.getD (i+2) 0-l.getD (i+1) 0)=r):W l (k+1)=dX l (W l k) i r:=by
 rw[Fx h];unfold mX;rw[if_neg (by show ¬m=1;omega)];show dX l (W l k) i (qG _ _)=_;rw[hr]
theorem cU:∀{k:Nat},(W l k).length=l.length:=by
 have key:∀(G:List (Nat×Nat)) (w:List Int),(G.foldl (mX l) w).length=w.length:=by
  intro G
  induction G with
  |nil=>intro w;rfl
  |cons p G ih=>intro w;rw[List.foldl_cons,ih,Ec]
 intro k;unfold W;rw[key];simp
theorem Hn(h:(fZ l 0).length<=k):W l k=fI l:=by unfold W fI;rw[List.take_of_length_le h]
theorem eJ:(fI l).length=l.length:=by rw[<-Hn (Nat.le_refl _)];exact cU
def Bd(w:List Int)(M:Int):Prop:=∀j,-M<=w.getD j 0/\w.getD j 0<=M
theorem mQ{M:Int}{v:Int}(h:Bd w M)(hv:-M<=v/\v<=M):Bd (w.set i v) M:=by
 intro j;by_cases hij:i=j
 ·subst hij
  by_cases hi:i<w.length
  ·have:(w.set i v).getD i 0=v:=by simp[List.getD_eq_getElem?_getD,hi]
   rw[this];exact hv
  ·rw[List.set_eq_of_length_le oM];exact h i
 ·rw[getD_set_ne hij];exact h j
theorem QL{M:Int}(hp:uC 9 100000 l)(hin:p.1+p.2<l.length)(hm:many l p.1=p.2)(h0:0<=M)(h:Bd w M):Bd (mX l w p) (M+20000000):=by
 have hN:Bd w (M+20000000):=fun j=>by have:=h j;omega
 obtain⟨i,m⟩:=p;have z0:=hp.lo i;have z1:=hp.lo (i+1);have z2:=hp.lo (i+2);have b0:=h i;have b1:=h (i+1);have b2:=h (i+2);have hm':many l i=m:=hm;have hin':i+m<l.length:=hin;unfold mX;rcases iI l i with q|q
 ·rw[if_pos (by show m=1;omega)]
  show Bd (zF l w i) _;unfold zF;exact mQ (mQ hN oM) oM
 ·rw[if_neg (by show ¬m=1;omega)]
  have r0:=hp.rise i oM;have r1:=hp.rise (i+1) oM;show Bd (dX l w i (qG _ _)) _;rcases Ac (Ab q) with hk|hk|hk
  ·rw[hk]
   unfold dX;have hu:Bb (l.getD (i+1) 0-l.getD i 0) (l.getD (i+2) 0-l.getD (i+1) 0) 1=12*min (l.getD (i+1) 0-l.getD i 0) (l.getD (i+2) 0-l.getD (i+1) 0):=rfl;rw[hu];split <;> exact mQ (mQ (mQ hN oM) oM) oM
  ·rw[hk]
   unfold dX;have hu:Bb (l.getD (i+1) 0-l.getD i 0) (l.getD (i+2) 0-l.getD (i+1) 0) 2=9*min (l.getD (i+1) 0-l.getD i 0) (l.getD (i+2) 0-l.getD (i+1) 0):=rfl;rw[hu];split <;> exact mQ (mQ (mQ hN oM) oM) oM
  ·rw[hk]
   unfold dX;have hu:Bb (l.getD (i+1) 0-l.getD i 0) (l.getD (i+2) 0-l.getD (i+1) 0) 3=8*min (l.getD (i+1) 0-l.getD i 0) (l.getD (i+2) 0-l.getD (i+1) 0):=rfl;rw[hu];split <;> exact mQ (mQ (mQ hN oM) oM) oM
theorem Fy(h:(fZ l 0)[k]? = some p):p.1+p.2<l.length/\many l p.1=p.2:=RP l.length 0 oM p (List.mem_of_getElem? h)
theorem CS{l:List Int}(hp:uC 9 100000 l):∀k:Nat,Bd (W l k) (20000000*(k:Int))
 |0=>fun j=>by
  have:(W l 0).getD j 0=0:=by
   show(List.replicate l.length (0:Int)).getD j 0=0;rw[List.getD_eq_getElem?_getD,List.getElem?_replicate];split <;> rfl
  rw[this];omega
 |k+1=>by
  cases hk:(fZ l 0)[k]? with
  |none=>
   have h1:W l (k+1)=W l k:=by unfold W;rw[List.take_add_one,hk];simp
   rw[h1];intro j;have:=CS hp k j;omega
  |some p=>
   rw[Fx hk];obtain⟨h1,h2⟩:=Fy hk;have:=QL hp h1 h2 oM (CS hp k);intro j;have:=this j;omega
theorem fK(hp:uC 9 100000 l):Bd (fI l) 200000000:=by
 intro j;have h1:=CS hp (fZ l 0).length j;rw[Hn (Nat.le_refl _)] at h1;have:=xV (l:=l) l.length 0 oM;have:=hp.hm;omega
theorem Bc{α:Type}{l:List α}(h:k<l.length):∃p,l[k]? = some p:=⟨l[k],List.getElem?_eq_getElem h⟩
theorem Iq(h:G[k]? = some (i,m)):iA (jO G) (0+k*2) 2=some [.int .i64 (i:Int),.int .i64 (m:Int)]:=by
 obtain⟨h1,h2⟩:=xU h;rw[Nat.zero_add];simp only[iA,h1,h2]
theorem Ir(h:G[k]? = some (i,m)):(jO G)[0+k*2+0]? = some (.int .i64 (i:Int)):=by
 rw[Nat.zero_add];exact(xU h).1
theorem It(h:G[k]? = some (i,m)):(jO G)[0+k*2+1]? = some (.int .i64 (m:Int)):=by
 rw[Nat.zero_add];exact(xU h).2
section
variable{X:FuncId->List Value->St->(Value->St->Bool)->Bool}
theorem sV(n:Nat)(a:Option Addr)(cap:Nat)(l:List Int)(s:St)(hs:Wf s)(hn:562949953421312<=n)(hl:aN s a l)(hp:uC 9 100000 l):bS Tryz.prog (bX bZ) X (n+900) 151 [.slice a l.length cap] s (fun v A=>∃b,v = .slice (some ⟨b,0,none⟩) l.length l.length/\A=[.row b 3 false (ints (fI l))]):=by
 refine enter Lf rfl hs ?_;unfold GG;have hlen:=hl.len;have hm9:=hp.hm;have hG9:=xV (l:=l) l.length 0 oM;refine rS (kM J (Q0 (rS (kM J (aJ J hl.spot (kO (sS J J oM oM oM (fun b1=>(eI J J (bA J J (fun b2=>(kZ (Q6 J J .here rfl rfl rfl rfl (Q0 (rS (kM J (kO (nD J J (kG (cA J J Lv rfl ?_))))))))))))))))))));unfold GW;refine rS (kM J (kO (Z4 J J (fun s1 h1=>Fw _ _ _ _ s1 h1.wf oM (hl.ext hs h1.2.1) hp) (fun v1 A1 q1=>?_))));obtain⟨b3,rfl,rfl⟩:=q1;refine kO (cO J (kM J (Q0 (W1 (U4 (fun j e A=>∃(k:Nat),e=[(0,.slice a l.length cap),(1,.func (.func 187) ⟨[.pointer (some ⟨b2,0,none⟩)]⟩ ⟨[]⟩),(7,.slice (some ⟨b3,0,none⟩) (fZ l 0).length OPEN),(8,.int .i64 ((fZ l 0).length:Int)),(9,.int .i64 (k:Int))]/\A=(.row b3 245 true (jO (fZ l 0))::(.row b2 238 false ([.slice (some ⟨b1,0,none⟩) l.length l.length,.slice none 0 0,.int .i64 0])::(.row b1 3 false (ints (W l k))::[])))/\j=(fZ l 0).length-k/\k<=(fZ l 0).length) 400 0 281474976710656 ?_ (j:=_) (env2:=_) (A2:=_) ?_ ?_ ?_ ?_ ⟨0,rfl,rfl,rfl,oM⟩)))))
 rotate_left
 ·omega
 ·omega
 ·exact lL
 ·exact(.q (.q (.q .slnil)))
 rintro n hn j _ _ ⟨k,rfl,rfl,rfl,hkl⟩;refine rS (cX J J (fun h4=>?_) (fun h4=>?_))
 ·obtain⟨⟨i,m⟩,hgk⟩:=Bc (l:=fZ l 0) (k:=k) oM
  obtain⟨hin,hmm⟩:=Fy hgk;simp only at hin hmm;have hmc:=iI l i;have z0:=hp.lo (i);have z1:=hp.lo (i+1);have z2:=hp.lo (i+2);have r0:i+1<l.length->l.getD (i) 0<l.getD (i+1) 0:=fun h=>hp.rise _ h
  have r1:i+2<l.length->l.getD (i+1) 0<l.getD (i+2) 0:=fun h=>hp.rise _ h
  have hm9:=hp.hm;have h29:=hp.h2;have b0:=CS hp k i;have b1:=CS hp k (i+1);have b2:=CS hp k (i+2);have hG9:=xV (l:=l) l.length 0 oM;refine Q0 (rQ (Y0 J (Q1 (W0 (rQ (W1 (rS (cL (j:=k) J J oM oM (cI J dE .here (Iq hgk) (bA J J (fun b5=>(kZ (Q6 J J .here rfl rfl rfl rfl (Q0 (rS (aK J (aO J .here rfl (kO (bJ J J (fun h6=>?_) (fun h6=>?_))))))))))))))))))))
  ·have hm1:m=1:=oM
   refine Q0 (Y0 J (rI (kM J (aK J (aO J .here rfl (kM J (kG (cA J J LC rfl ?_))))))));unfold G3;refine rS (kM J (kM J (aW J J oM (kO (Q7 (j:=i+1) hl rfl rfl oM (by first|rfl|omega) oM (fun _ _ a7=>(kO (W6 J (hl.at a7 oM) (kM J (kM J (kO (Q7 (j:=i) hl rfl rfl oM (by first|rfl|omega) oM (fun _ _ a8=>(kO (W6 J (hl.at a8 oM) (kO (bN J J oM (aY J J oM (kM J (Q0 (rS (kM J (kM J (kM J (kG (cA J J dR rfl ?_))))))))))))))))))))))))));unfold iD;refine rI (kM J (eQ J (aK J (aO J .h2 J (kM J (cL (j:=i) J J oM oM (kO (Q5 (x:=(W l k).getD (i) 0) J .h3 (by simp[cU];omega) (by first|rfl|(rw[getD_set_ne oM,getD_set_ne oM];done)|(rw[getD_set_ne oM];done)) (kM J (aW J J oM (cL (j:=i) J J oM oM (kZ (W7 J J .h3 (by first|omega|(simp;done)|(simp[cU];omega)|(simp;omega)) (Q0 (bI .nil (Q0 (rI (kM J (kM J (aW J J oM (kM J (kG (cA J J dR rfl ?_)))))))))))))))))))))));unfold iD;refine rI (kM J (eQ J (aK J (aO J .h2 J (kM J (cL (j:=i+1) J J oM oM (kO (Q5 (x:=(W l k).getD (i+1) 0) J .h3 (by simp[cU];omega) (by first|rfl|(rw[getD_set_ne oM,getD_set_ne oM];done)|(rw[getD_set_ne oM];done)) (kM J (aW J J oM (cL (j:=i+1) J J oM oM (kZ (W7 J J .h3 (by first|omega|(simp;done)|(simp[cU];omega)|(simp;omega)) (Q0 (bI .nil (Q0 (bI .nil (Q0 (Z1 (W0 (rI (aW J J oM (kM J (Q0 (W0 ?_)))))))))))))))))))))))));exact⟨rfl,_,_,_,(show(fZ l 0).length-(k+1)<(fZ l 0).length-k from oM),lL,(.cons _ (.q (.q (.q .slnil)))),⟨k+1,rfl,(by first
    |(rw[oW hgk hm1];first|done|rfl)
    |(rw[fY hgk hm2 hk];unfold dX;dsimp only;rw[if_pos aM];first|done|rfl)
    |(rw[fY hgk hm2 hk];unfold dX;dsimp only;rw[if_neg aM];first|done|rfl)),rfl,oM⟩⟩
  ·have hm2:m=2:=oM
   have hrat:=Ab (hmm.trans hm2);refine Q0 (U0 J (rI (kM J (aK J (aO J .here rfl (kM J (kG (cA J J LD rfl ?_))))))));unfold G4;refine rS (kM J (kM J (aW J J oM (kO (Q7 (j:=i+1) hl rfl rfl oM (by first|rfl|omega) oM (fun _ _ a9=>(kO (W6 J (hl.at a9 oM) (kM J (kM J (kO (Q7 (j:=i) hl rfl rfl oM (by first|rfl|omega) oM (fun _ _ a10=>(kO (W6 J (hl.at a10 oM) (kO (bN J J oM (kM J (kM J (aW J J oM (kO (Q7 (j:=i+2) hl rfl rfl oM (by first|rfl|omega) oM (fun _ _ a11=>(kO (W6 J (hl.at a11 oM) (kM J (kM J (aW J J oM (kO (Q7 (j:=i+1) hl rfl rfl oM (by first|rfl|omega) oM (fun _ _ a12=>(kO (W6 J (hl.at a12 oM) (kO (bN J J oM (kM J (kM J ?_)))))))))))))))))))))))))))))))))))));refine Q0 (rS (kM J (kM J (kO (Z4 J J (fun s1 h1=>wB _ _ _ s1 h1.wf oM oM) (fun v1 A1 q1=>?_))))));obtain⟨rfl,rfl⟩:=q1;rcases Ac hrat with hk|hk|hk
   ·rw[hk]
    refine kM J (Q0 (rS (kM J (kO (xR (q:=6) J J dE J dE (kM J (aW J J dE (aY J J dE (kM J (kM J (kO (oB J (aY J J oM (kM J (Q0 (rS (kM J (kM J (aY J J oM (kM J (kO (bN J J dE (aY J J oM (kM J (kM J (aY J J dE ?_))))))))))))))))))))))))));refine kO (bN J J dE (aY J J oM (kM J (kM J (Q0 (rQ (rS (kM J (kM J (kO (dL J J (fun h13=>?_) (fun h13=>?_))))))))))))
    ·refine Q0 (Y0 J (rI (kM J (kM J (kM J (kM J (Q0 (W0 (rS (kM J (kM J (kM J (kG (cA J J dR rfl ?_))))))))))))))
     unfold iD;refine rI (kM J (eQ J (aK J (aO J .h2 J (kM J (cL (j:=i) J J oM oM (kO (Q5 (x:=(W l k).getD (i) 0) J .h3 (by simp[cU];omega) (by first|rfl|(rw[getD_set_ne oM,getD_set_ne oM];done)|(rw[getD_set_ne oM];done)) (kM J (aW J J oM (cL (j:=i) J J oM oM (kZ (W7 J J .h3 (by first|omega|(simp;done)|(simp[cU];omega)|(simp;omega)) (Q0 (bI .nil (Q0 (rS (kM J (kM J (aW J J oM (kM J (kM J (aW J J dE (aY J J oM (kM J ?_)))))))))))))))))))))))));refine aW J J dE (aY J J oM (kG (cA J J dR rfl ?_)));unfold iD;refine rI (kM J (eQ J (aK J (aO J .h2 J (kM J (cL (j:=i+1) J J oM oM (kO (Q5 (x:=(W l k).getD (i+1) 0) J .h3 (by simp[cU];omega) (by first|rfl|(rw[getD_set_ne oM,getD_set_ne oM];done)|(rw[getD_set_ne oM];done)) (kM J (aW J J oM (cL (j:=i+1) J J oM oM (kZ (W7 J J .h3 (by first|omega|(simp;done)|(simp[cU];omega)|(simp;omega)) (Q0 (bI .nil (Q0 (rI (kM J (kM J (aW J J oM (kM J (kG (cA J J dR rfl ?_)))))))))))))))))))))));unfold iD;refine rI (kM J (eQ J (aK J (aO J .h2 J (kM J (cL (j:=i+2) J J oM oM (kO (Q5 (x:=(W l k).getD (i+2) 0) J .h3 (by simp[cU];omega) (by first|rfl|(rw[getD_set_ne oM,getD_set_ne oM];done)|(rw[getD_set_ne oM];done)) (kM J (aW J J oM (cL (j:=i+2) J J oM oM (kZ (W7 J J .h3 (by first|omega|(simp;done)|(simp[cU];omega)|(simp;omega)) (Q0 (bI .nil (Q0 (bI .nil (Q0 (Z1 (W0 (rI (aW J J oM (kM J (Q0 (W0 ?_)))))))))))))))))))))))));exact⟨rfl,_,_,_,(show(fZ l 0).length-(k+1)<(fZ l 0).length-k from oM),lL,(.cons _ (.q (.q (.q .slnil)))),⟨k+1,rfl,(by first
      |(rw[oW hgk hm1];first|done|rfl)
      |(rw[fY hgk hm2 hk];unfold dX;dsimp only;rw[if_pos aM];first|done|rfl)
      |(rw[fY hgk hm2 hk];unfold dX;dsimp only;rw[if_neg aM];first|done|rfl)),rfl,oM⟩⟩
    ·refine Q0 (U0 J (Q1 (W0 (rS (kM J (kM J (kM J (kG (cA J J dR rfl ?_)))))))))
     unfold iD;refine rI (kM J (eQ J (aK J (aO J .h2 J (kM J (cL (j:=i) J J oM oM (kO (Q5 (x:=(W l k).getD (i) 0) J .h3 (by simp[cU];omega) (by first|rfl|(rw[getD_set_ne oM,getD_set_ne oM];done)|(rw[getD_set_ne oM];done)) (kM J (aW J J oM (cL (j:=i) J J oM oM (kZ (W7 J J .h3 (by first|omega|(simp;done)|(simp[cU];omega)|(simp;omega)) (Q0 (bI .nil (Q0 (rS (kM J (kM J (aW J J oM (kM J (kM J (aW J J dE (aY J J oM (kM J ?_)))))))))))))))))))))))));refine aW J J dE (aY J J oM (kG (cA J J dR rfl ?_)));unfold iD;refine rI (kM J (eQ J (aK J (aO J .h2 J (kM J (cL (j:=i+1) J J oM oM (kO (Q5 (x:=(W l k).getD (i+1) 0) J .h3 (by simp[cU];omega) (by first|rfl|(rw[getD_set_ne oM,getD_set_ne oM];done)|(rw[getD_set_ne oM];done)) (kM J (aW J J oM (cL (j:=i+1) J J oM oM (kZ (W7 J J .h3 (by first|omega|(simp;done)|(simp[cU];omega)|(simp;omega)) (Q0 (bI .nil (Q0 (rI (kM J (kM J (aW J J oM (kM J (kG (cA J J dR rfl ?_)))))))))))))))))))))));unfold iD;refine rI (kM J (eQ J (aK J (aO J .h2 J (kM J (cL (j:=i+2) J J oM oM (kO (Q5 (x:=(W l k).getD (i+2) 0) J .h3 (by simp[cU];omega) (by first|rfl|(rw[getD_set_ne oM,getD_set_ne oM];done)|(rw[getD_set_ne oM];done)) (kM J (aW J J oM (cL (j:=i+2) J J oM oM (kZ (W7 J J .h3 (by first|omega|(simp;done)|(simp[cU];omega)|(simp;omega)) (Q0 (bI .nil (Q0 (bI .nil (Q0 (Z1 (W0 (rI (aW J J oM (kM J (Q0 (W0 ?_)))))))))))))))))))))))));exact⟨rfl,_,_,_,(show(fZ l 0).length-(k+1)<(fZ l 0).length-k from oM),lL,(.cons _ (.q (.q (.q .slnil)))),⟨k+1,rfl,(by first
      |(rw[oW hgk hm1];first|done|rfl)
      |(rw[fY hgk hm2 hk];unfold dX;dsimp only;rw[if_pos aM];first|done|rfl)
      |(rw[fY hgk hm2 hk];unfold dX;dsimp only;rw[if_neg aM];first|done|rfl)),rfl,oM⟩⟩
   ·rw[hk]
    refine kM J (Q0 (rS (kM J (kO (xR (q:=3) J J dE J dE (kM J (aW J J dE (aY J J dE (kM J (kM J (kO (oB J (aY J J oM (kM J (Q0 (rS (kM J (kM J (aY J J oM (kM J (kO (bN J J dE (aY J J oM (kM J (kM J (aY J J dE ?_))))))))))))))))))))))))));refine kO (bN J J dE (aY J J oM (kM J (kM J (Q0 (rQ (rS (kM J (kM J (kO (dL J J (fun h14=>?_) (fun h14=>?_))))))))))))
    ·refine Q0 (Y0 J (rI (kM J (kM J (kM J (kM J (Q0 (W0 (rS (kM J (kM J (kM J (kG (cA J J dR rfl ?_))))))))))))))
     unfold iD;refine rI (kM J (eQ J (aK J (aO J .h2 J (kM J (cL (j:=i) J J oM oM (kO (Q5 (x:=(W l k).getD (i) 0) J .h3 (by simp[cU];omega) (by first|rfl|(rw[getD_set_ne oM,getD_set_ne oM];done)|(rw[getD_set_ne oM];done)) (kM J (aW J J oM (cL (j:=i) J J oM oM (kZ (W7 J J .h3 (by first|omega|(simp;done)|(simp[cU];omega)|(simp;omega)) (Q0 (bI .nil (Q0 (rS (kM J (kM J (aW J J oM (kM J (kM J (aW J J dE (aY J J oM (kM J ?_)))))))))))))))))))))))));refine aW J J dE (aY J J oM (kG (cA J J dR rfl ?_)));unfold iD;refine rI (kM J (eQ J (aK J (aO J .h2 J (kM J (cL (j:=i+1) J J oM oM (kO (Q5 (x:=(W l k).getD (i+1) 0) J .h3 (by simp[cU];omega) (by first|rfl|(rw[getD_set_ne oM,getD_set_ne oM];done)|(rw[getD_set_ne oM];done)) (kM J (aW J J oM (cL (j:=i+1) J J oM oM (kZ (W7 J J .h3 (by first|omega|(simp;done)|(simp[cU];omega)|(simp;omega)) (Q0 (bI .nil (Q0 (rI (kM J (kM J (aW J J oM (kM J (kG (cA J J dR rfl ?_)))))))))))))))))))))));unfold iD;refine rI (kM J (eQ J (aK J (aO J .h2 J (kM J (cL (j:=i+2) J J oM oM (kO (Q5 (x:=(W l k).getD (i+2) 0) J .h3 (by simp[cU];omega) (by first|rfl|(rw[getD_set_ne oM,getD_set_ne oM];done)|(rw[getD_set_ne oM];done)) (kM J (aW J J oM (cL (j:=i+2) J J oM oM (kZ (W7 J J .h3 (by first|omega|(simp;done)|(simp[cU];omega)|(simp;omega)) (Q0 (bI .nil (Q0 (bI .nil (Q0 (Z1 (W0 (rI (aW J J oM (kM J (Q0 (W0 ?_)))))))))))))))))))))))));exact⟨rfl,_,_,_,(show(fZ l 0).length-(k+1)<(fZ l 0).length-k from oM),lL,(.cons _ (.q (.q (.q .slnil)))),⟨k+1,rfl,(by first
      |(rw[oW hgk hm1];first|done|rfl)
      |(rw[fY hgk hm2 hk];unfold dX;dsimp only;rw[if_pos aM];first|done|rfl)
      |(rw[fY hgk hm2 hk];unfold dX;dsimp only;rw[if_neg aM];first|done|rfl)),rfl,oM⟩⟩
    ·refine Q0 (U0 J (Q1 (W0 (rS (kM J (kM J (kM J (kG (cA J J dR rfl ?_)))))))))
     unfold iD;refine rI (kM J (eQ J (aK J (aO J .h2 J (kM J (cL (j:=i) J J oM oM (kO (Q5 (x:=(W l k).getD (i) 0) J .h3 (by simp[cU];omega) (by first|rfl|(rw[getD_set_ne oM,getD_set_ne oM];done)|(rw[getD_set_ne oM];done)) (kM J (aW J J oM (cL (j:=i) J J oM oM (kZ (W7 J J .h3 (by first|omega|(simp;done)|(simp[cU];omega)|(simp;omega)) (Q0 (bI .nil (Q0 (rS (kM J (kM J (aW J J oM (kM J (kM J (aW J J dE (aY J J oM (kM J ?_)))))))))))))))))))))))));refine aW J J dE (aY J J oM (kG (cA J J dR rfl ?_)));unfold iD;refine rI (kM J (eQ J (aK J (aO J .h2 J (kM J (cL (j:=i+1) J J oM oM (kO (Q5 (x:=(W l k).getD (i+1) 0) J .h3 (by simp[cU];omega) (by first|rfl|(rw[getD_set_ne oM,getD_set_ne oM];done)|(rw[getD_set_ne oM];done)) (kM J (aW J J oM (cL (j:=i+1) J J oM oM (kZ (W7 J J .h3 (by first|omega|(simp;done)|(simp[cU];omega)|(simp;omega)) (Q0 (bI .nil (Q0 (rI (kM J (kM J (aW J J oM (kM J (kG (cA J J dR rfl ?_)))))))))))))))))))))));unfold iD;refine rI (kM J (eQ J (aK J (aO J .h2 J (kM J (cL (j:=i+2) J J oM oM (kO (Q5 (x:=(W l k).getD (i+2) 0) J .h3 (by simp[cU];omega) (by first|rfl|(rw[getD_set_ne oM,getD_set_ne oM];done)|(rw[getD_set_ne oM];done)) (kM J (aW J J oM (cL (j:=i+2) J J oM oM (kZ (W7 J J .h3 (by first|omega|(simp;done)|(simp[cU];omega)|(simp;omega)) (Q0 (bI .nil (Q0 (bI .nil (Q0 (Z1 (W0 (rI (aW J J oM (kM J (Q0 (W0 ?_)))))))))))))))))))))))));exact⟨rfl,_,_,_,(show(fZ l 0).length-(k+1)<(fZ l 0).length-k from oM),lL,(.cons _ (.q (.q (.q .slnil)))),⟨k+1,rfl,(by first
      |(rw[oW hgk hm1];first|done|rfl)
      |(rw[fY hgk hm2 hk];unfold dX;dsimp only;rw[if_pos aM];first|done|rfl)
      |(rw[fY hgk hm2 hk];unfold dX;dsimp only;rw[if_neg aM];first|done|rfl)),rfl,oM⟩⟩
   ·rw[hk]
    refine kM J (Q0 (rS (kM J (kO (xR (q:=2) J J dE J dE (kM J (aW J J dE (aY J J dE (kM J (kM J (kO (oB J (aY J J oM (kM J (Q0 (rS (kM J (kM J (aY J J oM (kM J (kO (bN J J dE (aY J J oM (kM J (kM J (aY J J dE ?_))))))))))))))))))))))))));refine kO (bN J J dE (aY J J oM (kM J (kM J (Q0 (rQ (rS (kM J (kM J (kO (dL J J (fun h15=>?_) (fun h15=>?_))))))))))))
    ·refine Q0 (Y0 J (rI (kM J (kM J (kM J (kM J (Q0 (W0 (rS (kM J (kM J (kM J (kG (cA J J dR rfl ?_))))))))))))))
     unfold iD;refine rI (kM J (eQ J (aK J (aO J .h2 J (kM J (cL (j:=i) J J oM oM (kO (Q5 (x:=(W l k).getD (i) 0) J .h3 (by simp[cU];omega) (by first|rfl|(rw[getD_set_ne oM,getD_set_ne oM];done)|(rw[getD_set_ne oM];done)) (kM J (aW J J oM (cL (j:=i) J J oM oM (kZ (W7 J J .h3 (by first|omega|(simp;done)|(simp[cU];omega)|(simp;omega)) (Q0 (bI .nil (Q0 (rS (kM J (kM J (aW J J oM (kM J (kM J (aW J J dE (aY J J oM (kM J ?_)))))))))))))))))))))))));refine aW J J dE (aY J J oM (kG (cA J J dR rfl ?_)));unfold iD;refine rI (kM J (eQ J (aK J (aO J .h2 J (kM J (cL (j:=i+1) J J oM oM (kO (Q5 (x:=(W l k).getD (i+1) 0) J .h3 (by simp[cU];omega) (by first|rfl|(rw[getD_set_ne oM,getD_set_ne oM];done)|(rw[getD_set_ne oM];done)) (kM J (aW J J oM (cL (j:=i+1) J J oM oM (kZ (W7 J J .h3 (by first|omega|(simp;done)|(simp[cU];omega)|(simp;omega)) (Q0 (bI .nil (Q0 (rI (kM J (kM J (aW J J oM (kM J (kG (cA J J dR rfl ?_)))))))))))))))))))))));unfold iD;refine rI (kM J (eQ J (aK J (aO J .h2 J (kM J (cL (j:=i+2) J J oM oM (kO (Q5 (x:=(W l k).getD (i+2) 0) J .h3 (by simp[cU];omega) (by first|rfl|(rw[getD_set_ne oM,getD_set_ne oM];done)|(rw[getD_set_ne oM];done)) (kM J (aW J J oM (cL (j:=i+2) J J oM oM (kZ (W7 J J .h3 (by first|omega|(simp;done)|(simp[cU];omega)|(simp;omega)) (Q0 (bI .nil (Q0 (bI .nil (Q0 (Z1 (W0 (rI (aW J J oM (kM J (Q0 (W0 ?_)))))))))))))))))))))))));exact⟨rfl,_,_,_,(show(fZ l 0).length-(k+1)<(fZ l 0).length-k from oM),lL,(.cons _ (.q (.q (.q .slnil)))),⟨k+1,rfl,(by first
      |(rw[oW hgk hm1];first|done|rfl)
      |(rw[fY hgk hm2 hk];unfold dX;dsimp only;rw[if_pos aM];first|done|rfl)
      |(rw[fY hgk hm2 hk];unfold dX;dsimp only;rw[if_neg aM];first|done|rfl)),rfl,oM⟩⟩
    ·refine Q0 (U0 J (Q1 (W0 (rS (kM J (kM J (kM J (kG (cA J J dR rfl ?_)))))))))
     unfold iD;refine rI (kM J (eQ J (aK J (aO J .h2 J (kM J (cL (j:=i) J J oM oM (kO (Q5 (x:=(W l k).getD (i) 0) J .h3 (by simp[cU];omega) (by first|rfl|(rw[getD_set_ne oM,getD_set_ne oM];done)|(rw[getD_set_ne oM];done)) (kM J (aW J J oM (cL (j:=i) J J oM oM (kZ (W7 J J .h3 (by first|omega|(simp;done)|(simp[cU];omega)|(simp;omega)) (Q0 (bI .nil (Q0 (rS (kM J (kM J (aW J J oM (kM J (kM J (aW J J dE (aY J J oM (kM J ?_)))))))))))))))))))))))));refine aW J J dE (aY J J oM (kG (cA J J dR rfl ?_)));unfold iD;refine rI (kM J (eQ J (aK J (aO J .h2 J (kM J (cL (j:=i+1) J J oM oM (kO (Q5 (x:=(W l k).getD (i+1) 0) J .h3 (by simp[cU];omega) (by first|rfl|(rw[getD_set_ne oM,getD_set_ne oM];done)|(rw[getD_set_ne oM];done)) (kM J (aW J J oM (cL (j:=i+1) J J oM oM (kZ (W7 J J .h3 (by first|omega|(simp;done)|(simp[cU];omega)|(simp;omega)) (Q0 (bI .nil (Q0 (rI (kM J (kM J (aW J J oM (kM J (kG (cA J J dR rfl ?_)))))))))))))))))))))));unfold iD;refine rI (kM J (eQ J (aK J (aO J .h2 J (kM J (cL (j:=i+2) J J oM oM (kO (Q5 (x:=(W l k).getD (i+2) 0) J .h3 (by simp[cU];omega) (by first|rfl|(rw[getD_set_ne oM,getD_set_ne oM];done)|(rw[getD_set_ne oM];done)) (kM J (aW J J oM (cL (j:=i+2) J J oM oM (kZ (W7 J J .h3 (by first|omega|(simp;done)|(simp[cU];omega)|(simp;omega)) (Q0 (bI .nil (Q0 (bI .nil (Q0 (Z1 (W0 (rI (aW J J oM (kM J (Q0 (W0 ?_)))))))))))))))))))))))));exact⟨rfl,_,_,_,(show(fZ l 0).length-(k+1)<(fZ l 0).length-k from oM),lL,(.cons _ (.q (.q (.q .slnil)))),⟨k+1,rfl,(by first
      |(rw[oW hgk hm1];first|done|rfl)
      |(rw[fY hgk hm2 hk];unfold dX;dsimp only;rw[if_pos aM];first|done|rfl)
      |(rw[fY hgk hm2 hk];unfold dX;dsimp only;rw[if_neg aM];first|done|rfl)),rfl,oM⟩⟩
 ·refine Q0 (rQ (U0 J (Y4 (Z2 (Z2 (Q3 (bI .nil (Q0 (rS (aK J (aO J .h1 J (kM J (Q0 (V2 ?_))))))))))))))
  exact fX J (.cons _ (.cons _ (.q .slnil))) ⟨b1,rfl,by rw[Hn oM]⟩
theorem uQ(n:Nat)(a:Option Addr)(cap:Nat)(l:List Int)(s:St)(hs:Wf s)(hn:562949953421312<=n)(hl:aN s a l)(hp:uC 9 100000 l):bS Tryz.prog (bX bZ) X (n+900) 166 [.slice a l.length cap] s (fun v A=>∃b,v = .slice (some ⟨b,0,none⟩) l.length l.length/\A=[.row b 3 false (ints (fI l))]):=by
 refine enter Lr rfl hs ?_;unfold GS;have hlen:=hl.len;have hm9:=hp.hm;have hG9:=xV (l:=l) l.length 0 oM;refine rS (kM J (Q0 (rS (kM J (aJ J hl.spot (kO (sS J J oM oM oM (fun b1=>(kM J (Q0 (rS (kM J (kO (Z4 J J (fun s1 h1=>LS _ _ _ _ s1 h1.wf oM (hl.ext hs h1.2.1) hp) (fun v1 A1 q1=>?_)))))))))))))));obtain⟨b2,rfl,rfl⟩:=q1;refine kM J (Q0 (rQ (rS (kM J (Q0 (W1 (U4 (fun j e A=>∃(k:Nat),e=[(0,.slice a l.length cap),(3,.slice (some ⟨b1,0,none⟩) l.length l.length),(4,.slice (some ⟨b2,0,none⟩) (fZ l 0).length OPEN),(5,.int .i64 (k:Int))]/\A=(.row b2 245 true (jO (fZ l 0))::(.row b1 3 false (ints (W l k))::[]))/\j=(fZ l 0).length-k/\k<=(fZ l 0).length) 400 0 281474976710656 ?_ (j:=_) (env2:=_) (A2:=_) ?_ ?_ ?_ ?_ ⟨0,rfl,rfl,rfl,oM⟩)))))))
 rotate_left
 ·omega
 ·omega
 ·exact lL
 ·exact(.q (.q .slnil))
 rintro n hn j _ _ ⟨k,rfl,rfl,rfl,hkl⟩;refine rQ (rS (kM J (kM J (kO (cO J (cX J J (fun h3=>?_) (fun h3=>?_)))))))
 ·obtain⟨⟨i,m⟩,hgk⟩:=Bc (l:=fZ l 0) (k:=k) oM
  obtain⟨hin,hmm⟩:=Fy hgk;simp only at hin hmm;have hmc:=iI l i;have z0:=hp.lo (i);have z1:=hp.lo (i+1);have z2:=hp.lo (i+2);have r0:i+1<l.length->l.getD (i) 0<l.getD (i+1) 0:=fun h=>hp.rise _ h
  have r1:i+2<l.length->l.getD (i+1) 0<l.getD (i+2) 0:=fun h=>hp.rise _ h
  have hm9:=hp.hm;have h29:=hp.h2;have b0:=CS hp k i;have b1:=CS hp k (i+1);have b2:=CS hp k (i+2);have hG9:=xV (l:=l) l.length 0 oM;refine Q0 (Y0 J (Q1 (W0 (rQ (W1 (rS (kM J (kM J (cL (j:=k) J J oM oM (aK J (aO J .here (Ir hgk) (kM J (Q0 (rS (kM J (kM J (aW J J oM (kO (Q7 (j:=i+1) hl rfl rfl oM (by first|rfl|omega) oM (fun _ _ a4=>(kO (W6 J (hl.at a4 oM) (kM J (kM J (kO (Q7 (j:=i) hl rfl rfl oM (by first|rfl|omega) oM (fun _ _ a5=>(kO (W6 J (hl.at a5 oM) ?_)))))))))))))))))))))))))))));refine kO (bN J J oM (kM J (Q0 (rQ (rS (kM J (kM J (cL (j:=k) J J oM oM (aK J (aO J .here (It hgk) (kO (bJ J J (fun h6=>?_) (fun h6=>?_)))))))))))))
  ·have hm1:m=1:=oM
   refine Q0 (Y0 J (rS (kM J (kM J (cL (j:=i) J J oM oM (kO (Q5 (x:=(W l k).getD (i) 0) J .h1 (by simp[cU];omega) (by first|rfl|(rw[getD_set_ne oM,getD_set_ne oM];done)|(rw[getD_set_ne oM];done)) (kM J (aY J J oM (aW J J oM (cL (j:=i) J J oM oM (kZ (W7 J J .h1 (by first|omega|(simp;done)|(simp[cU];omega)|(simp;omega)) (Q0 (rS (kM J (kM J (aW J J oM (cL (j:=i+1) J J oM oM (kO (Q5 (x:=(W l k).getD (i+1) 0) J .h1 (by simp[cU];omega) (by first|rfl|(rw[getD_set_ne oM,getD_set_ne oM];done)|(rw[getD_set_ne oM];done)) (kM J (aY J J oM (aW J J oM (cL (j:=i+1) J J oM oM (kZ (W7 J J .h1 (by first|omega|(simp;done)|(simp[cU];omega)|(simp;omega)) ?_)))))))))))))))))))))))))));refine Q0 (Y4 (Z2 (Q3 (W0 (rI (kM J (aW J J oM (kM J (Q0 (W0 ?_))))))))));exact⟨rfl,_,_,_,(show(fZ l 0).length-(k+1)<(fZ l 0).length-k from oM),lL,(.q (.q .slnil)),⟨k+1,rfl,(by first
    |(rw[oW hgk hm1];first|done|rfl)
    |(rw[fY hgk hm2 hk];unfold dX;dsimp only;rw[if_pos aM];first|done|rfl)
    |(rw[fY hgk hm2 hk];unfold dX;dsimp only;rw[if_neg aM];first|done|rfl)),rfl,oM⟩⟩
  ·have hm2:m=2:=oM
   have hrat:=Ab (hmm.trans hm2);refine Q0 (U0 J (Q1 (W0 (rS (kM J (kM J (aW J J oM (kO (Q7 (j:=i+2) hl rfl rfl oM (by first|rfl|omega) oM (fun _ _ a7=>(kO (W6 J (hl.at a7 oM) (kM J (kM J (aW J J oM (kO (Q7 (j:=i+1) hl rfl rfl oM (by first|rfl|omega) oM (fun _ _ a8=>(kO (W6 J (hl.at a8 oM) (kO (bN J J oM (kM J (Q0 (rS (kM J (kM J (kO (Z4 J J (fun s1 h1=>wC _ _ _ s1 h1.wf oM oM) (fun v1 A1 q1=>?_))))))))))))))))))))))))))))));obtain⟨rfl,rfl⟩:=q1;rcases Ac hrat with hk|hk|hk
   ·rw[hk]
    refine kM J (Q0 (rS (kM J (kM J (kO (oB J (kM J (Q0 (rS (kM J (kO (xR (q:=6) J J dE J dE (kM J (aW J J dE (aY J J dE (kM J (aY J J oM (kM J (Q0 (rS (kM J (kM J (aY J J oM (kM J (kO (bN J J dE ?_))))))))))))))))))))))))));refine aY J J oM (kM J (Q0 (rS (kM J (kM J (aY J J dE (kO (bN J J dE (aY J J oM (kM J (Q0 (rQ (rS (kM J (kM J (kO (dL J J (fun h9=>?_) (fun h9=>?_))))))))))))))))))
    ·refine Q0 (Y0 J (rI (kM J (kM J (kM J (kM J (Q0 (W0 (rS (kM J (kM J (cL (j:=i) J J oM oM (kO (Q5 (x:=(W l k).getD (i) 0) J .h1 (by simp[cU];omega) (by first|rfl|(rw[getD_set_ne oM,getD_set_ne oM];done)|(rw[getD_set_ne oM];done)) (kM J (aW J J oM (cL (j:=i) J J oM oM (kZ (W7 J J .h1 (by first|omega|(simp;done)|(simp[cU];omega)|(simp;omega)) (Q0 (rS (kM J (kM J (aW J J oM (cL (j:=i+1) J J oM oM ?_)))))))))))))))))))))))))
     refine kO (Q5 (x:=(W l k).getD (i+1) 0) J .h1 (by simp[cU];omega) (by first|rfl|(rw[getD_set_ne oM,getD_set_ne oM];done)|(rw[getD_set_ne oM];done)) (kM J (kM J (aW J J dE (aY J J oM (kM J (aW J J dE (aY J J oM (aW J J oM (cL (j:=i+1) J J oM oM (kZ (W7 J J .h1 (by first|omega|(simp;done)|(simp[cU];omega)|(simp;omega)) (Q0 (rI (kM J (kM J (aW J J oM (cL (j:=i+2) J J oM oM (kO (Q5 (x:=(W l k).getD (i+2) 0) J .h1 (by simp[cU];omega) (by first|rfl|(rw[getD_set_ne oM,getD_set_ne oM];done)|(rw[getD_set_ne oM];done)) (kM J (aW J J oM (cL (j:=i+2) J J oM oM (kZ (W7 J J .h1 (by first|omega|(simp;done)|(simp[cU];omega)|(simp;omega)) (Q0 (Z1 ?_)))))))))))))))))))))))))));refine W0 (rI (kM J (aW J J oM (kM J (Q0 (W0 ?_))))));exact⟨rfl,_,_,_,(show(fZ l 0).length-(k+1)<(fZ l 0).length-k from oM),lL,(.q (.q .slnil)),⟨k+1,rfl,(by first
      |(rw[oW hgk hm1];first|done|rfl)
      |(rw[fY hgk hm2 hk];unfold dX;dsimp only;rw[if_pos aM];first|done|rfl)
      |(rw[fY hgk hm2 hk];unfold dX;dsimp only;rw[if_neg aM];first|done|rfl)),rfl,oM⟩⟩
    ·refine Q0 (U0 J (Q1 (W0 (rS (kM J (kM J (cL (j:=i) J J oM oM (kO (Q5 (x:=(W l k).getD (i) 0) J .h1 (by simp[cU];omega) (by first|rfl|(rw[getD_set_ne oM,getD_set_ne oM];done)|(rw[getD_set_ne oM];done)) (kM J (aW J J oM (cL (j:=i) J J oM oM (kZ (W7 J J .h1 (by first|omega|(simp;done)|(simp[cU];omega)|(simp;omega)) (Q0 (rS (kM J (kM J (aW J J oM (cL (j:=i+1) J J oM oM (kO (Q5 (x:=(W l k).getD (i+1) 0) J .h1 (by simp[cU];omega) (by first|rfl|(rw[getD_set_ne oM,getD_set_ne oM];done)|(rw[getD_set_ne oM];done)) (kM J (kM J (aW J J dE (aY J J oM ?_))))))))))))))))))))))))))
     refine kM J (aW J J dE (aY J J oM (aW J J oM (cL (j:=i+1) J J oM oM (kZ (W7 J J .h1 (by first|omega|(simp;done)|(simp[cU];omega)|(simp;omega)) (Q0 (rI (kM J (kM J (aW J J oM (cL (j:=i+2) J J oM oM (kO (Q5 (x:=(W l k).getD (i+2) 0) J .h1 (by simp[cU];omega) (by first|rfl|(rw[getD_set_ne oM,getD_set_ne oM];done)|(rw[getD_set_ne oM];done)) (kM J (aW J J oM (cL (j:=i+2) J J oM oM (kZ (W7 J J .h1 (by first|omega|(simp;done)|(simp[cU];omega)|(simp;omega)) (Q0 (Z1 (W0 (rI (kM J (aW J J oM (kM J ?_))))))))))))))))))))))))));refine Q0 (W0 ?_);exact⟨rfl,_,_,_,(show(fZ l 0).length-(k+1)<(fZ l 0).length-k from oM),lL,(.q (.q .slnil)),⟨k+1,rfl,(by first
      |(rw[oW hgk hm1];first|done|rfl)
      |(rw[fY hgk hm2 hk];unfold dX;dsimp only;rw[if_pos aM];first|done|rfl)
      |(rw[fY hgk hm2 hk];unfold dX;dsimp only;rw[if_neg aM];first|done|rfl)),rfl,oM⟩⟩
   ·rw[hk]
    refine kM J (Q0 (rS (kM J (kM J (kO (oB J (kM J (Q0 (rS (kM J (kO (xR (q:=3) J J dE J dE (kM J (aW J J dE (aY J J dE (kM J (aY J J oM (kM J (Q0 (rS (kM J (kM J (aY J J oM (kM J (kO (bN J J dE ?_))))))))))))))))))))))))));refine aY J J oM (kM J (Q0 (rS (kM J (kM J (aY J J dE (kO (bN J J dE (aY J J oM (kM J (Q0 (rQ (rS (kM J (kM J (kO (dL J J (fun h10=>?_) (fun h10=>?_))))))))))))))))))
    ·refine Q0 (Y0 J (rI (kM J (kM J (kM J (kM J (Q0 (W0 (rS (kM J (kM J (cL (j:=i) J J oM oM (kO (Q5 (x:=(W l k).getD (i) 0) J .h1 (by simp[cU];omega) (by first|rfl|(rw[getD_set_ne oM,getD_set_ne oM];done)|(rw[getD_set_ne oM];done)) (kM J (aW J J oM (cL (j:=i) J J oM oM (kZ (W7 J J .h1 (by first|omega|(simp;done)|(simp[cU];omega)|(simp;omega)) (Q0 (rS (kM J (kM J (aW J J oM (cL (j:=i+1) J J oM oM ?_)))))))))))))))))))))))))
     refine kO (Q5 (x:=(W l k).getD (i+1) 0) J .h1 (by simp[cU];omega) (by first|rfl|(rw[getD_set_ne oM,getD_set_ne oM];done)|(rw[getD_set_ne oM];done)) (kM J (kM J (aW J J dE (aY J J oM (kM J (aW J J dE (aY J J oM (aW J J oM (cL (j:=i+1) J J oM oM (kZ (W7 J J .h1 (by first|omega|(simp;done)|(simp[cU];omega)|(simp;omega)) (Q0 (rI (kM J (kM J (aW J J oM (cL (j:=i+2) J J oM oM (kO (Q5 (x:=(W l k).getD (i+2) 0) J .h1 (by simp[cU];omega) (by first|rfl|(rw[getD_set_ne oM,getD_set_ne oM];done)|(rw[getD_set_ne oM];done)) (kM J (aW J J oM (cL (j:=i+2) J J oM oM (kZ (W7 J J .h1 (by first|omega|(simp;done)|(simp[cU];omega)|(simp;omega)) (Q0 (Z1 ?_)))))))))))))))))))))))))));refine W0 (rI (kM J (aW J J oM (kM J (Q0 (W0 ?_))))));exact⟨rfl,_,_,_,(show(fZ l 0).length-(k+1)<(fZ l 0).length-k from oM),lL,(.q (.q .slnil)),⟨k+1,rfl,(by first
      |(rw[oW hgk hm1];first|done|rfl)
      |(rw[fY hgk hm2 hk];unfold dX;dsimp only;rw[if_pos aM];first|done|rfl)
      |(rw[fY hgk hm2 hk];unfold dX;dsimp only;rw[if_neg aM];first|done|rfl)),rfl,oM⟩⟩
    ·refine Q0 (U0 J (Q1 (W0 (rS (kM J (kM J (cL (j:=i) J J oM oM (kO (Q5 (x:=(W l k).getD (i) 0) J .h1 (by simp[cU];omega) (by first|rfl|(rw[getD_set_ne oM,getD_set_ne oM];done)|(rw[getD_set_ne oM];done)) (kM J (aW J J oM (cL (j:=i) J J oM oM (kZ (W7 J J .h1 (by first|omega|(simp;done)|(simp[cU];omega)|(simp;omega)) (Q0 (rS (kM J (kM J (aW J J oM (cL (j:=i+1) J J oM oM (kO (Q5 (x:=(W l k).getD (i+1) 0) J .h1 (by simp[cU];omega) (by first|rfl|(rw[getD_set_ne oM,getD_set_ne oM];done)|(rw[getD_set_ne oM];done)) (kM J (kM J (aW J J dE (aY J J oM ?_))))))))))))))))))))))))))
     refine kM J (aW J J dE (aY J J oM (aW J J oM (cL (j:=i+1) J J oM oM (kZ (W7 J J .h1 (by first|omega|(simp;done)|(simp[cU];omega)|(simp;omega)) (Q0 (rI (kM J (kM J (aW J J oM (cL (j:=i+2) J J oM oM (kO (Q5 (x:=(W l k).getD (i+2) 0) J .h1 (by simp[cU];omega) (by first|rfl|(rw[getD_set_ne oM,getD_set_ne oM];done)|(rw[getD_set_ne oM];done)) (kM J (aW J J oM (cL (j:=i+2) J J oM oM (kZ (W7 J J .h1 (by first|omega|(simp;done)|(simp[cU];omega)|(simp;omega)) (Q0 (Z1 (W0 (rI (kM J (aW J J oM (kM J ?_))))))))))))))))))))))))));refine Q0 (W0 ?_);exact⟨rfl,_,_,_,(show(fZ l 0).length-(k+1)<(fZ l 0).length-k from oM),lL,(.q (.q .slnil)),⟨k+1,rfl,(by first
      |(rw[oW hgk hm1];first|done|rfl)
      |(rw[fY hgk hm2 hk];unfold dX;dsimp only;rw[if_pos aM];first|done|rfl)
      |(rw[fY hgk hm2 hk];unfold dX;dsimp only;rw[if_neg aM];first|done|rfl)),rfl,oM⟩⟩
   ·rw[hk]
    refine kM J (Q0 (rS (kM J (kM J (kO (oB J (kM J (Q0 (rS (kM J (kO (xR (q:=2) J J dE J dE (kM J (aW J J dE (aY J J dE (kM J (aY J J oM (kM J (Q0 (rS (kM J (kM J (aY J J oM (kM J (kO (bN J J dE ?_))))))))))))))))))))))))));refine aY J J oM (kM J (Q0 (rS (kM J (kM J (aY J J dE (kO (bN J J dE (aY J J oM (kM J (Q0 (rQ (rS (kM J (kM J (kO (dL J J (fun h11=>?_) (fun h11=>?_))))))))))))))))))
    ·refine Q0 (Y0 J (rI (kM J (kM J (kM J (kM J (Q0 (W0 (rS (kM J (kM J (cL (j:=i) J J oM oM (kO (Q5 (x:=(W l k).getD (i) 0) J .h1 (by simp[cU];omega) (by first|rfl|(rw[getD_set_ne oM,getD_set_ne oM];done)|(rw[getD_set_ne oM];done)) (kM J (aW J J oM (cL (j:=i) J J oM oM (kZ (W7 J J .h1 (by first|omega|(simp;done)|(simp[cU];omega)|(simp;omega)) (Q0 (rS (kM J (kM J (aW J J oM (cL (j:=i+1) J J oM oM ?_)))))))))))))))))))))))))
     refine kO (Q5 (x:=(W l k).getD (i+1) 0) J .h1 (by simp[cU];omega) (by first|rfl|(rw[getD_set_ne oM,getD_set_ne oM];done)|(rw[getD_set_ne oM];done)) (kM J (kM J (aW J J dE (aY J J oM (kM J (aW J J dE (aY J J oM (aW J J oM (cL (j:=i+1) J J oM oM (kZ (W7 J J .h1 (by first|omega|(simp;done)|(simp[cU];omega)|(simp;omega)) (Q0 (rI (kM J (kM J (aW J J oM (cL (j:=i+2) J J oM oM (kO (Q5 (x:=(W l k).getD (i+2) 0) J .h1 (by simp[cU];omega) (by first|rfl|(rw[getD_set_ne oM,getD_set_ne oM];done)|(rw[getD_set_ne oM];done)) (kM J (aW J J oM (cL (j:=i+2) J J oM oM (kZ (W7 J J .h1 (by first|omega|(simp;done)|(simp[cU];omega)|(simp;omega)) (Q0 (Z1 ?_)))))))))))))))))))))))))));refine W0 (rI (kM J (aW J J oM (kM J (Q0 (W0 ?_))))));exact⟨rfl,_,_,_,(show(fZ l 0).length-(k+1)<(fZ l 0).length-k from oM),lL,(.q (.q .slnil)),⟨k+1,rfl,(by first
      |(rw[oW hgk hm1];first|done|rfl)
      |(rw[fY hgk hm2 hk];unfold dX;dsimp only;rw[if_pos aM];first|done|rfl)
      |(rw[fY hgk hm2 hk];unfold dX;dsimp only;rw[if_neg aM];first|done|rfl)),rfl,oM⟩⟩
    ·refine Q0 (U0 J (Q1 (W0 (rS (kM J (kM J (cL (j:=i) J J oM oM (kO (Q5 (x:=(W l k).getD (i) 0) J .h1 (by simp[cU];omega) (by first|rfl|(rw[getD_set_ne oM,getD_set_ne oM];done)|(rw[getD_set_ne oM];done)) (kM J (aW J J oM (cL (j:=i) J J oM oM (kZ (W7 J J .h1 (by first|omega|(simp;done)|(simp[cU];omega)|(simp;omega)) (Q0 (rS (kM J (kM J (aW J J oM (cL (j:=i+1) J J oM oM (kO (Q5 (x:=(W l k).getD (i+1) 0) J .h1 (by simp[cU];omega) (by first|rfl|(rw[getD_set_ne oM,getD_set_ne oM];done)|(rw[getD_set_ne oM];done)) (kM J (kM J (aW J J dE (aY J J oM ?_))))))))))))))))))))))))))
     refine kM J (aW J J dE (aY J J oM (aW J J oM (cL (j:=i+1) J J oM oM (kZ (W7 J J .h1 (by first|omega|(simp;done)|(simp[cU];omega)|(simp;omega)) (Q0 (rI (kM J (kM J (aW J J oM (cL (j:=i+2) J J oM oM (kO (Q5 (x:=(W l k).getD (i+2) 0) J .h1 (by simp[cU];omega) (by first|rfl|(rw[getD_set_ne oM,getD_set_ne oM];done)|(rw[getD_set_ne oM];done)) (kM J (aW J J oM (cL (j:=i+2) J J oM oM (kZ (W7 J J .h1 (by first|omega|(simp;done)|(simp[cU];omega)|(simp;omega)) (Q0 (Z1 (W0 (rI (kM J (aW J J oM (kM J ?_))))))))))))))))))))))))));refine Q0 (W0 ?_);exact⟨rfl,_,_,_,(show(fZ l 0).length-(k+1)<(fZ l 0).length-k from oM),lL,(.q (.q .slnil)),⟨k+1,rfl,(by first
      |(rw[oW hgk hm1];first|done|rfl)
      |(rw[fY hgk hm2 hk];unfold dX;dsimp only;rw[if_pos aM];first|done|rfl)
      |(rw[fY hgk hm2 hk];unfold dX;dsimp only;rw[if_neg aM];first|done|rfl)),rfl,oM⟩⟩
 ·refine Q0 (U0 J (Y4 (Z2 (Z2 (Q3 (W0 (rS (kM J (kM J (Q0 (V2 ?_)))))))))))
  exact fX J (.cons _ (.q .slnil)) ⟨b1,rfl,by rw[Hn oM]⟩
end
variable{l1 l2:List Int}
theorem qX{x y:Int}(hx:-200000000<=x/\x<=200000000)(hy:-200000000<=y/\y<=200000000):-9223372036854775808<=x*y/\x*y<9223372036854775808:=by
 have h1:(x*y).natAbs<=200000000*200000000:=by
  rw[Int.natAbs_mul];exact Nat.mul_le_mul oM oM
 omega
theorem fG(h:bW l1 l2=true):uC 9 100000 l1:=by
 unfold bW at h;rw[Bool.and_eq_true] at h;exact CR dE h.1
theorem Ad(h:bW l1 l2=true):uC 7 15000 l2:=by
 unfold bW at h;rw[Bool.and_eq_true] at h;exact CR dE h.2
theorem fR(h:bW l1 l2=true):uC 9 100000 l2:=by
 have q:=Ad h;exact⟨q.h2,by have:=q.hm;omega,fun k=>by have:=q.lo k;omega,q.rise⟩
section
variable{X:FuncId->List Value->St->(Value->St->Bool)->Bool}
theorem LT(n:Nat)(a1 a2:Option Addr)(c1 c2:Nat)(l1 l2:List Int)(s:St)(hs:Wf s)(hn:1125899906842624<=n)(hl1:aN s a1 l1)(hl2:aN s a2 l2)(hp1:uC 9 100000 l1)(hp2:uC 9 100000 l2):bS Tryz.prog (bX bZ) X (n+1500) 102 [.slice a1 l1.length c1,.slice a2 l2.length c2] s (fun v A=>A=[]):=by
 refine enter KP rfl hs ?_;unfold Gg;have hlen1:=hl1.len;have hlen2:=hl2.len;have hm1:=hp1.hm;have hm2:=hp2.hm;have hw1:=eJ (l:=l1);have hw2:=eJ (l:=l2);refine rS (kM J (Q0 (rS (kM J (kO (Z4 J J (fun s1 h1=>sV _ _ _ _ s1 h1.wf oM (hl2.ext hs h1.2.1) hp2) (fun v1 A1 q1=>?_)))))));obtain⟨b1,rfl,rfl⟩:=q1;refine kM J (Q0 (rS (kM J (aJ J hl1.spot (kO (Ft (m:=0) J J oM oM oM (fun b2=>(kM J (Q0 (rQ (rS (kM J (kO (Z4 J J (fun s1 h1=>sV _ _ _ _ s1 h1.wf oM (hl1.ext hs h1.2.1) hp1) (fun v1 A1 q1=>?_)))))))))))))));obtain⟨b3,rfl,rfl⟩:=q1;refine kO (cO J (kM J (Q0 (W1 (U4 (fun j e A=>∃(k:Nat) (R:List Value),e=[(5,.slice (some ⟨b1,0,none⟩) l2.length l2.length),(6,.slice (some ⟨b2,0,none⟩) k l1.length),(18,.slice (some ⟨b3,0,none⟩) l1.length l1.length),(19,.int .i64 (l1.length:Int)),(20,.int .i64 (k:Int))]/\A=(.row b3 3 false (ints (fI l1))::(.row b2 22 false (R)::(.row b1 3 false (ints (fI l2))::[])))/\j=l1.length-k/\k<=l1.length/\R.length=l1.length) 500 281474976710656 281474976710656 ?_ (j:=_) (env2:=_) (A2:=_) ?_ ?_ ?_ ?_ ⟨0,List.replicate l1.length (.slice none 0 0),rfl,rfl,rfl,oM,sM⟩)))))
 rotate_left
 ·omega
 ·omega
 ·exact lL
 ·exact(.q (.q (.q .slnil)))
 rintro n hn j _ _ ⟨k,R,rfl,rfl,rfl,hkl,hR⟩;refine rS (cX J J (fun h4=>?_) (fun h4=>?_))
 ·refine Q0 (rQ (Y0 J (Q1 (W0 (rQ (W1 (rS (cL (j:=k) J J oM oM (kO (eD J .here (by first|omega|(simp;done)|(simp;omega)) (kM J (Q0 (rS (kM J (kO (cO J (kO (sS (m:=0) J J oM oM oM (fun b5=>(kM J (Q0 (rQ (rS (kM J (kO (cO J (kM J (Q0 ?_))))))))))))))))))))))))))))
  refine W1 (U4 (fun j e A=>∃(y:Nat) (S:List Value),e=[(5,.slice (some ⟨b1,0,none⟩) l2.length l2.length),(6,.slice (some ⟨b2,0,none⟩) k l1.length),(18,.slice (some ⟨b3,0,none⟩) l1.length l1.length),(19,.int .i64 (l1.length:Int)),(20,.int .i64 (k:Int)),(8,.int .i64 ((fI l1).getD k 0)),(9,.slice (some ⟨b5,0,none⟩) y l2.length),(27,.slice (some ⟨b1,0,none⟩) l2.length l2.length),(28,.int .i64 (l2.length:Int)),(29,.int .i64 (y:Int))]/\A=(.row b5 3 false (S)::(.row b3 3 false (ints (fI l1))::(.row b2 22 false (R)::(.row b1 3 false (ints (fI l2))::[]))))/\j=l2.length-y/\y<=l2.length/\S.length=l2.length) 300 0 281474976710656 ?_ (j:=_) (env2:=_) (A2:=_) ?_ ?_ ?_ ?_ ⟨0,ints (List.replicate l2.length 0),rfl,rfl,rfl,oM,(by simp[ints])⟩)
  rotate_left
  ·omega
  ·omega
  ·exact lL
  ·exact(.q (.q (.q (.q .slnil))))
  rintro n hn j _ _ ⟨y,S,rfl,rfl,rfl,hjl,hS⟩;refine rS (cX J J (fun h6=>?_) (fun h6=>?_))
  ·refine Q0 (rQ (Y0 J (Q1 (W0 (rQ (W1 (rS (cL (j:=y) J J oM oM (kO (eD J .h3 (by first|omega|(simp;done)|(simp;omega)) (kM J (Q0 (rI (kM J (kM J (kM J (aY J J (qX (fK hp1 k) (fK hp2 y)) (bB J J J (fun b7=>(kO (LM J J (fH.own .here rfl sM) .h1 oM oM (by show _<18446744073709551616;omega) oM oM (kM J (Q0 (Z1 (W0 (rI ?_))))))))))))))))))))))))))
   refine aW J J oM (kM J (Q0 (W0 ?_)));exact⟨rfl,_,_,_,(show l2.length-(y+1)<l2.length-y from oM),lL,(.cons _ (.q (.q (.q (.q .slnil))))),⟨y+1,_,rfl,rfl,rfl,oM,(by simp[over];omega)⟩⟩
  ·refine Q0 (rQ (U0 J (Y4 (Z2 (Z2 (Q3 (W0 (rI (kM J (kM J (bB J J J (fun b9=>(kO (LM J J (fH.own .here rfl sM) .h3 oM oM (by show _<18446744073709551616;omega) oM oM (kM J (Q0 (Z1 (W0 (rI (aW J J oM (kM J (Q0 (W0 ?_)))))))))))))))))))))))
   exact⟨rfl,_,_,_,(show l1.length-(k+1)<l1.length-k from oM),lL,(.cons _ (.cons _ (.q (.q (.q .slnil))))),⟨k+1,_,rfl,rfl,rfl,oM,(by simp[over];omega)⟩⟩
 ·refine Q0 (rQ (U0 J (Y4 (Z2 (Z2 (Q3 (W0 (rS (kM J (kM J (Q0 (V2 ?_))))))))))))
  exact fX J (List.nil_sublist _) rfl
theorem Tb(n:Nat)(a1 a2:Option Addr)(c1 c2:Nat)(l1 l2:List Int)(s:St)(hs:Wf s)(hn:1407374883553280<=n)(hl1:aN s a1 l1)(hl2:aN s a2 l2):bS Tryz.prog (bX bZ) X (n+1600) 50 [.slice a1 l1.length c1,.slice a2 l2.length c2] s (fun v A=>∃x,v = .tuple #[x,.int .i64 (if bW l1 l2=true then 0 else 12)]/\A=[]):=by
 refine enter Qc rfl hs ?_;unfold OF;have hlen1:=hl1.len;have hlen2:=hl2.len;refine rS (kM J (kM J (Q0 (rQ (rS (kM J (kM J (kO (fQ J J (fun s1 h1=>Eb _ _ _ _ _ _ _ s1 h1.wf oM (hl1.ext hs h1.2.1) (hl2.ext hs h1.2.1)) (fun h1=>?_) (fun h1=>?_))))))))))
 ·have hp1:=fG h1
  have hp2:=fR h1;refine kM J (Q0 (rS (kM J (kO (V3 J J (fun h=>absurd h dE) (fun _=>(Q0 (U0 J (Q1 (W0 (rS (kM J (kM J (kO (Z4 J J (fun s1 h1=>LT _ _ _ _ _ _ _ s1 h1.wf oM (hl1.ext hs h1.2.1) (hl2.ext hs h1.2.1) hp1 hp2) (fun v1 A1 q1=>?_))))))))))))))));subst q1;refine kM J (kM J (Q0 (V2 ?_)))
  first
   |exact kK J J (List.nil_sublist _) ⟨_,by rw[if_pos aM],rfl⟩
   |exact kK J J (List.nil_sublist _) ⟨_,by rw[if_neg aM],rfl⟩
 ·refine kM J (Q0 (rS (kM J (kO (V3 J J (fun _=>(Q0 (Y0 J (rS (kM J (kM J (kM J (Q0 (V2 (W3 ?_)))))))))) (fun h=>absurd h dE))))))
  first
   |exact kK J J (List.nil_sublist _) ⟨_,by rw[if_pos aM],rfl⟩
   |exact kK J J (List.nil_sublist _) ⟨_,by rw[if_neg aM],rfl⟩
end
end Ev
end Go.Proofs.YtjkdkpckjgaplaaGreat
