import Derived.Test.YtjkdkpckjgaplaaGreatZl13
import Derived.Test.YtjkdkpckjgaplaaGreatZl10
set_option linter.unusedVariables false
set_option linter.unusedSimpArgs false
namespace Go.Proofs.YtjkdkpckjgaplaaGreat
open Go Go.RowKit
namespace Ev
variable{ls:List (List Int)}{k i:Nat}{T:Nat->Nat->Int}
def PD(ls:List (List Int))(N:Nat):Prop:=∀i:Nat,0<i->i<N->(∃k:Nat,k<ls.length/\∃y z:Int,ls[k]? = some [0,(i:Int),y,z])/\(∃k:Nat,k<ls.length/\∃y z:Int,ls[k]? = some [(i:Int),0,y,z])
def Ek(z hi:Int):Prop:=-2560000<=z/\z<=hi
theorem CI{m:Int}(h:mU m ls=true)(hk:k<ls.length):∃(u0 u1:Nat) (y2 y3:Int),ls[k]? = some [(u0:Int),(u1:Int),y2,y3]/\((u0:Int)<=m/\(u1:Int)<=m/\¬u0=u1/\-20000<=y2/\y2<=20000):=by
 have key:∀(ls:List (List Int)) (k:Nat),mU m ls=true->k<ls.length->∃y0 y1 y2 y3,ls[k]? = some [y0,y1,y2,y3]:=by
  intro ls
  induction ls with
  |nil=>intro k _ hk;exact absurd hk (Nat.not_lt_zero k)
  |cons r ls ih=>
   intro k h hk;unfold mU at h;split at h
   ·rename_i h2;cases h2
   ·rename_i h2
    cases h2;rw[Bool.and_eq_true] at h;cases k with
    |zero=>exact⟨_,_,_,_,rfl⟩
    |succ k=>exact ih k h.2 (by simpa using hk)
   ·cases h
 obtain⟨y0,y1,y2,y3,e⟩:=key ls k h hk;have hc:=E8 h e;obtain⟨u0,rfl⟩:∃q:Nat,y0=(q:Int):=⟨y0.toNat,oM⟩;obtain⟨u1,rfl⟩:∃q:Nat,y1=(q:Int):=⟨y1.toNat,oM⟩;exact⟨u0,u1,y2,y3,e,oM⟩
theorem vC{m:Int}{ls:List (List Int)}(h:mU m ls=true):∀{k:Nat},k<=ls.length->∀a b,qZ ls k a b=1000000000∨(-20000<=qZ ls k a b/\qZ ls k a b<=20000)
 |0,_,a,b=>by
  show T0 a b=_∨(_<=T0 a b/\T0 a b<=_);unfold T0;by_cases q:a=b
  ·rw[if_pos q];exact .inr ⟨dE,dE⟩
  ·rw[if_neg q];exact .inl rfl
 |k+1,hk,a,b=>by
  obtain⟨u0,u1,y2,y3,e,hc⟩:=CI h (show k<ls.length from oM);have ih:=vC h (k:=k) oM a b;have ih2:=vC h (k:=k) oM u0 u1;rw[mV e];unfold nQ;by_cases q:a=u0/\b=u1
  ·rw[if_pos q];omega
  ·rw[if_neg q];exact ih
theorem Hb{ls:List (List Int)}{m:Int}(h:mU m ls=true){a b:Nat}:∀{k:Nat} (d:Nat),k+d<=ls.length->qZ ls (k+d) a b<=qZ ls k a b
 |_,0,_=>Int.le_refl _
 |k,d+1,hk=>by
  obtain⟨u0,u1,y2,y3,e,hc⟩:=CI h (show k+d<ls.length from oM);have ih:=Hb h (a:=a) (b:=b) (k:=k) d oM;rw[show k+(d+1)=k+d+1 from rfl,mV e];unfold nQ;by_cases q:a=u0/\b=u1
  ·rw[if_pos q];obtain⟨rfl,rfl⟩:=q;omega
  ·rw[if_neg q];exact ih
theorem DT{m:Int}(h:mU m ls=true){u0 u1 k:Nat}{y2 y3:Int}(e:ls[k]? = some [(u0:Int),(u1:Int),y2,y3])(hk:k<ls.length):qZ ls ls.length u0 u1<=20000:=by
 obtain⟨v0,v1,w2,w3,e2,hc⟩:=CI h hk;rw[e] at e2;have e3:=Option.some.inj e2;simp only[List.cons.injEq,and_true] at e3;obtain⟨q0,q1,q2,q3⟩:=e3;have h1:=Hb h (a:=u0) (b:=u1) (k:=k+1) (ls.length-(k+1)) oM;rw[show k+1+(ls.length-(k+1))=ls.length by omega,mV e] at h1;unfold nQ at h1;rw[if_pos ⟨rfl,rfl⟩] at h1;omega
def Z0(T:Nat->Nat->Int)(N:Nat):Prop:=∀a,a<N->Ek (T 0 a) 20000/\Ek (T a 0) 20000
def Al(T:Nat->Nat->Int)(N:Nat):Prop:=∀a b,a<N->b<N->T a b=1000000000∨Ek (T a b) 40000
def Sn(T:Nat->Nat->Int)(N i k:Nat):Prop:=∀a b,a<N->b<N->(a<i∨a=i/\b<k)->Ek (T a b) 40000
def Fu(T:Nat->Nat->Int)(N:Nat):Prop:=∀a b,a<N->b<N->Ek (T a b) 40000
theorem wV{m i k a b:Nat}:Qq T m i k a b=if (¬T i m=1000000000/\¬T m k=1000000000)/\a=i/\b=k then max (min (T i k) (T i m+T m k)) (-2560000) else T a b:=by
 unfold Qq;by_cases h:¬T i m=1000000000/\¬T m k=1000000000
 ·rw[if_pos h]
  unfold nQ;by_cases q:a=i/\b=k
  ·rw[if_pos q,if_pos ⟨h,q⟩]
  ·rw[if_neg q,if_neg (fun z=>q z.2)]
 ·rw[if_neg h,if_neg (fun z=>h z.1)]
theorem UE{N i k:Nat}(hi:i<N)(hk:k<N)(h:Z0 T N/\Al T N/\Sn T N i k):Z0 (Qq T 0 i k) N/\Al (Qq T 0 i k) N/\Sn (Qq T 0 i k) N i (k+1):=by
 obtain⟨h1,h2,h3⟩:=h;have z1:=(h1 i hi).2;have z2:=(h1 k hk).1;have z3:=h2 i k hi hk;unfold Ek at z1 z2 z3;refine⟨fun a ha=>?_,fun a b ha hb=>?_,fun a b ha hb hab=>?_⟩
 ·have q:=h1 a ha
  unfold Ek at q ⊢;rw[wV,wV];have c1:0=i->T i k=T 0 k:=fun e=>by rw[<-e]
  have c2:0=k->T i k=T i 0:=fun e=>by rw[<-e]
  constructor
  ·by_cases c:(¬T i 0=1000000000/\¬T 0 k=1000000000)/\0=i/\a=k
   ·rw[if_pos c];have:=c1 c.2.1;omega
   ·rw[if_neg c];exact q.1
  ·by_cases c:(¬T i 0=1000000000/\¬T 0 k=1000000000)/\a=i/\0=k
   ·rw[if_pos c];have:=c2 c.2.2;omega
   ·rw[if_neg c];exact q.2
 ·have q:=h2 a b ha hb
  unfold Ek at q ⊢;rw[wV];by_cases c:(¬T i 0=1000000000/\¬T 0 k=1000000000)/\a=i/\b=k
  ·rw[if_pos c];omega
  ·rw[if_neg c];exact q
 ·rw[wV]
  by_cases c:a=i/\b=k
  ·rw[if_pos ⟨oM,c⟩];unfold Ek;omega
  ·rw[if_neg (fun z=>c z.2)]
   exact h3 a b ha hb oM
theorem UF{N m i k:Nat}(hm:m<N)(hi:i<N)(hk:k<N)(h:Fu T N):Fu (Qq T m i k) N:=by
 intro a b ha hb;have z1:=h i m hi hm;have z2:=h m k hm hk;have z3:=h i k hi hk;have q:=h a b ha hb;unfold Ek at z1 z2 z3 q ⊢;rw[wV];by_cases c:(¬T i m=1000000000/\¬T m k=1000000000)/\a=i/\b=k
 ·rw[if_pos c];omega
 ·rw[if_neg c];exact q
theorem UG{T:Nat->Nat->Int}{N i:Nat}(hi:i<N)(h:Z0 T N/\Al T N/\Sn T N i 0):∀{k:Nat},k<=N->Z0 (kT T 0 i k) N/\Al (kT T 0 i k) N/\Sn (kT T 0 i k) N i k
 |0,_=>h
 |k+1,hk=>UE hi oM (UG hi h (k:=k) oM)
theorem UH{T:Nat->Nat->Int}{N m i:Nat}(hm:m<N)(hi:i<N)(h:Fu T N):∀{k:Nat},k<=N->Fu (kT T m i k) N
 |0,_=>h
 |k+1,hk=>UF hm hi oM (UH hm hi h (k:=k) oM)
theorem RM{N i:Nat}(h:Sn T N i N):Sn T N (i+1) 0:=fun a b ha hb hab=>h a b ha hb oM
theorem UI{T:Nat->Nat->Int}{N:Nat}(h:Z0 T N/\Al T N):∀{i:Nat},i<=N->Z0 (iT T N 0 i) N/\Al (iT T N 0 i) N/\Sn (iT T N 0 i) N i 0
 |0,_=>⟨h.1,h.2,fun a b _ _ hab=>oM⟩
 |i+1,hi=>by
  obtain⟨h1,h2,h3⟩:=UG (show i<N from oM) (UI h (i:=i) oM) (k:=N) (Nat.le_refl _);exact⟨h1,h2,RM h3⟩
theorem UJ{T:Nat->Nat->Int}{N m:Nat}(hm:m<N)(h:Fu T N):∀{i:Nat},i<=N->Fu (iT T N m i) N
 |0,_=>h
 |i+1,hi=>UH hm (show i<N from oM) (UJ hm h (i:=i) oM) (Nat.le_refl _)
theorem RN{N:Nat}(h:Sn T N N 0):Fu T N:=fun a b ha hb=>h a b ha hb (.inl ha)
theorem UK{T:Nat->Nat->Int}{N:Nat}(h:Z0 T N/\Al T N):∀{m:Nat},m<N->Fu (mT T N (m+1)) N
 |0,hm=>RN (UI h (Nat.le_refl _)).2.2
 |m+1,hm=>UJ hm (UK h (m:=m) oM) (Nat.le_refl _)
theorem Hc{M:Nat}(h:mU (M:Int) ls=true)(hS:PD ls (M+1)):Z0 (qZ ls ls.length) (M+1)/\Al (qZ ls ls.length) (M+1):=by
 have hd:∀k,k<=ls.length->qZ ls k 0 0=0:=by
  intro k
  induction k with
  |zero=>intro _;rfl
  |succ k ih=>
   intro hk;obtain⟨u0,u1,y2,y3,e,hc⟩:=CI h (show k<ls.length from oM);rw[mV e];unfold nQ;rw[if_neg oM];exact ih oM
 refine⟨fun a ha=>?_,fun a b _ _=>?_⟩
 ·by_cases h0:a=0
  ·subst h0
   rw[hd _ (Nat.le_refl _)];unfold Ek;omega
  ·obtain⟨⟨k1,hk1,y1,z1,e1⟩,k2,hk2,y2,z2,e2⟩:=hS a oM ha
   have a1:=DT h (u0:=0) (u1:=a) e1 hk1;have a2:=DT h (u0:=a) (u1:=0) e2 hk2;have b1:=vC h (Nat.le_refl _) 0 a;have b2:=vC h (Nat.le_refl _) a 0;unfold Ek;omega
 ·have b1:=vC h (Nat.le_refl _) a b
  unfold Ek;omega
theorem Hd{M:Nat}(h:mU (M:Int) ls=true)(hS:PD ls (M+1)):WB ls (M+1):=by
 intro m i k hm hi hk a b ha hb;have hz:=Hc h hS;cases m with
 |zero=>
  have h1:Z0 (wi ls (M+1) 0 i) (M+1)/\Al (wi ls (M+1) 0 i) (M+1)/\Sn (wi ls (M+1) 0 i) (M+1) i 0:=UI hz oM;have h2:=(UG hi h1 (k:=k) oM).2.1 a b ha hb;unfold Ek at h2;show _<=kT (wi ls (M+1) 0 i) 0 i k a b/\kT (wi ls (M+1) 0 i) 0 i k a b<=_;omega
 |succ m=>
  have h1:Fu (wm ls (M+1) (m+1)) (M+1):=UK hz oM;have h2:Fu (wi ls (M+1) (m+1) i) (M+1):=UJ hm h1 oM;have h3:=(UH hm hi h2 (k:=k) oM) a b ha hb;unfold Ek at h3;show _<=kT (wi ls (M+1) (m+1) i) (m+1) i k a b/\kT (wi ls (M+1) (m+1) i) (m+1) i k a b<=_;omega
theorem PE{M:Nat}(h:mU (M:Int) ls=true)(hS:PD ls (M+1)):Fu (wm ls (M+1) (M+1)) (M+1):=UK (Hc h hS) (Nat.lt_succ_self M)
section
variable{X:FuncId->List Value->St->(Value->St->Bool)->Bool}
end
theorem uA{x y:Int}(hx:0<=x/\x<=100)(hy:0<=y/\y<=100):0<=x*y/\x*y<=10000:=
 ⟨Int.mul_nonneg hx.1 hy.1,by have:=Int.mul_le_mul hx.2 hy.2 hy.1 dE;omega⟩
section
variable{X:FuncId->List Value->St->(Value->St->Bool)->Bool}
theorem LB(n:Nat)(d r al up:Int)(a1 a2:Option Addr)(c1 c2:Nat)(l1 l2:List Int)(wk ws ww:Int)(s:St)(hs:Wf s)(hn:281474976710656<=n)(hl1:aN s a1 l1)(hl2:aN s a2 l2):bX Tryz.prog (bZ cB) X (n+80) 76 [.agg ⟨[.int .i64 d,.int .i64 r,.slice a1 l1.length c1,.slice a2 l2.length c2,.int .i64 al,.int .i64 up]⟩,.agg ⟨[.int .i64 wk,.int .i64 ws,.int .i64 ww]⟩] s (fun v A=>v = .bool (decide ((wk=1/\ws=0/\(0<=ww/\ww<=(l2.length:Int)-1)/\0<ww)∨(wk=2/\ws=0/\(0<=ww/\ww<=(l2.length:Int)-1))∨(wk=3/\(0<=ws/\ws<=(l1.length:Int)-1)/\ww=0)∨(wk=4/\(0<=ws/\ws<=(l1.length:Int)-1)/\(0<=ww/\ww<=(l2.length:Int)-1))))/\A=[]):=by
 refine enter Pg rfl hs ?_;unfold Oi;have hlen1:=hl1.len;have hlen2:=hl2.len;refine rS (aZ J J J (fun b1=>(aZ J J J (fun b2=>(kM J (Q0 (rS (aH J (aL J .here rfl (aH J (aL J .h1 J (aJ J hl2.spot (kO (bN J J oM (kO (bB J J (fun s1 h1=>sY _ _ _ _ s1 h1.wf) (fun h3=>?_) (fun h3=>?_)))))))))))))))))
 ·refine kM J (Q0 (rS (aH J (aL J .here rfl (aH J (aL J .h1 J (aJ J hl1.spot (kO (bN J J oM (kO (bB J J (fun s1 h1=>sY _ _ _ _ s1 h1.wf) (fun h4=>?_) (fun h4=>?_))))))))))))
  ·refine kM J (Q0 (rQ (rS (aH J (aL J .here rfl (Q0 (W1 (rS (kO (bV J J (fun h5=>?_) (fun h5=>?_)))))))))))
   ·refine kM J (Q0 (Y0 J (rS (aH J (aL J .here rfl (kO (bV J J (fun h6=>?_) (fun h6=>?_))))))))
    ·refine kM J (kG (U2 J (cA J J J (kM J (kG (Q2 J (kG (Y1 J .here rfl (kG (dR J J (fun h7=>?_) (fun h7=>?_)))))))))))
     ·refine cA J J J (kM J (Q0 (V2 (Y6 (W3 (aO J ⟨congrArg Value.bool ?_,rfl⟩))))))
      first|exact(decide_eq_true oM).symm|exact(decide_eq_false oM).symm
     ·refine cA J J J (kM J (Q0 (V2 (Y6 (W3 (aO J ⟨congrArg Value.bool ?_,rfl⟩))))))
      first|exact(decide_eq_true oM).symm|exact(decide_eq_false oM).symm
    ·refine kM J (V0 (bK J J J (kM J (V0 (V0 (V0 (bK J J J (kM J (Q0 (V2 (Y6 (W3 (aO J ⟨congrArg Value.bool ?_,rfl⟩)))))))))))))
     first|exact(decide_eq_true oM).symm|exact(decide_eq_false oM).symm
   ·refine kM J (Q0 (U0 J (rS (kO (bV J J (fun h8=>?_) (fun h8=>?_))))))
    ·refine kM J (Q0 (Y0 J (rS (aH J (aL J .here rfl (kO (bV J J (fun h9=>?_) (fun h9=>?_))))))))
     ·refine kM J (kG (U2 J (cA J J J (kM J (Q0 (V2 (Y6 (W3 (aO J ⟨congrArg Value.bool ?_,rfl⟩)))))))))
      first|exact(decide_eq_true oM).symm|exact(decide_eq_false oM).symm
     ·refine kM J (V0 (bK J J J (kM J (Q0 (V2 (Y6 (W3 (aO J ⟨congrArg Value.bool ?_,rfl⟩))))))))
      first|exact(decide_eq_true oM).symm|exact(decide_eq_false oM).symm
    ·refine kM J (Q0 (U0 J (rS (kO (bV J J (fun h10=>?_) (fun h10=>?_))))))
     ·refine kM J (Q0 (Y0 J (rS (kM J (kM J (kG (Q2 J (kG (Y1 J .here rfl (kG (bV J J (fun h11=>?_) (fun h11=>?_))))))))))))
      ·refine cA J J J (kM J (Q0 (V2 (Y6 (W3 (aO J ⟨congrArg Value.bool ?_,rfl⟩))))))
       first|exact(decide_eq_true oM).symm|exact(decide_eq_false oM).symm
      ·refine cA J J J (kM J (Q0 (V2 (Y6 (W3 (aO J ⟨congrArg Value.bool ?_,rfl⟩))))))
       first|exact(decide_eq_true oM).symm|exact(decide_eq_false oM).symm
     ·refine kM J (Q0 (U0 J (rS (kO (bV J J (fun h12=>?_) (fun h12=>?_))))))
      ·refine kM J (Q0 (Y0 J (rS (kM J (kM J (kG (U2 J (cA J J J (kM J (Q0 (V2 (Y6 (W3 (aO J ⟨congrArg Value.bool ?_,rfl⟩))))))))))))))
       first|exact(decide_eq_true oM).symm|exact(decide_eq_false oM).symm
      ·refine kM J (Q0 (U0 J (Q1 (Z1 (W0 (rS (kM J (Q0 (V2 (aO J ⟨congrArg Value.bool ?_,rfl⟩))))))))))
       first|exact(decide_eq_true oM).symm|exact(decide_eq_false oM).symm
  ·refine kM J (Q0 (rQ (rS (aH J (aL J .here rfl (Q0 (W1 (rS (kO (bV J J (fun h13=>?_) (fun h13=>?_)))))))))))
   ·refine kM J (Q0 (Y0 J (rS (aH J (aL J .here rfl (kO (bV J J (fun h14=>?_) (fun h14=>?_))))))))
    ·refine kM J (kG (U2 J (cA J J J (kM J (kG (Q2 J (kG (Y1 J .here rfl (kG (dR J J (fun h15=>?_) (fun h15=>?_)))))))))))
     ·refine cA J J J (kM J (Q0 (V2 (Y6 (W3 (aO J ⟨congrArg Value.bool ?_,rfl⟩))))))
      first|exact(decide_eq_true oM).symm|exact(decide_eq_false oM).symm
     ·refine cA J J J (kM J (Q0 (V2 (Y6 (W3 (aO J ⟨congrArg Value.bool ?_,rfl⟩))))))
      first|exact(decide_eq_true oM).symm|exact(decide_eq_false oM).symm
    ·refine kM J (V0 (bK J J J (kM J (V0 (V0 (V0 (bK J J J (kM J (Q0 (V2 (Y6 (W3 (aO J ⟨congrArg Value.bool ?_,rfl⟩)))))))))))))
     first|exact(decide_eq_true oM).symm|exact(decide_eq_false oM).symm
   ·refine kM J (Q0 (U0 J (rS (kO (bV J J (fun h16=>?_) (fun h16=>?_))))))
    ·refine kM J (Q0 (Y0 J (rS (aH J (aL J .here rfl (kO (bV J J (fun h17=>?_) (fun h17=>?_))))))))
     ·refine kM J (kG (U2 J (cA J J J (kM J (Q0 (V2 (Y6 (W3 (aO J ⟨congrArg Value.bool ?_,rfl⟩)))))))))
      first|exact(decide_eq_true oM).symm|exact(decide_eq_false oM).symm
     ·refine kM J (V0 (bK J J J (kM J (Q0 (V2 (Y6 (W3 (aO J ⟨congrArg Value.bool ?_,rfl⟩))))))))
      first|exact(decide_eq_true oM).symm|exact(decide_eq_false oM).symm
    ·refine kM J (Q0 (U0 J (rS (kO (bV J J (fun h18=>?_) (fun h18=>?_))))))
     ·refine kM J (Q0 (Y0 J (rS (kM J (kM J (V0 (V0 (V0 (bK J J J (kM J (Q0 (V2 (Y6 (W3 (aO J ⟨congrArg Value.bool ?_,rfl⟩)))))))))))))))
      first|exact(decide_eq_true oM).symm|exact(decide_eq_false oM).symm
     ·refine kM J (Q0 (U0 J (rS (kO (bV J J (fun h19=>?_) (fun h19=>?_))))))
      ·refine kM J (Q0 (Y0 J (rS (kM J (kM J (V0 (bK J J J (kM J (Q0 (V2 (Y6 (W3 (aO J ⟨congrArg Value.bool ?_,rfl⟩)))))))))))))
       first|exact(decide_eq_true oM).symm|exact(decide_eq_false oM).symm
      ·refine kM J (Q0 (U0 J (Q1 (Z1 (W0 (rS (kM J (Q0 (V2 (aO J ⟨congrArg Value.bool ?_,rfl⟩))))))))))
       first|exact(decide_eq_true oM).symm|exact(decide_eq_false oM).symm
 ·refine kM J (Q0 (rS (aH J (aL J .here rfl (aH J (aL J .h1 J (aJ J hl1.spot (kO (bN J J oM (kO (bB J J (fun s1 h1=>sY _ _ _ _ s1 h1.wf) (fun h20=>?_) (fun h20=>?_))))))))))))
  ·refine kM J (Q0 (rQ (rS (aH J (aL J .here rfl (Q0 (W1 (rS (kO (bV J J (fun h21=>?_) (fun h21=>?_)))))))))))
   ·refine kM J (Q0 (Y0 J (rS (aH J (aL J .here rfl (kO (bV J J (fun h22=>?_) (fun h22=>?_))))))))
    ·refine kM J (kG (U2 J (cA J J J (kM J (V0 (V0 (V0 (bK J J J (kM J (Q0 (V2 (Y6 (W3 (aO J ⟨congrArg Value.bool ?_,rfl⟩))))))))))))))
     first|exact(decide_eq_true oM).symm|exact(decide_eq_false oM).symm
    ·refine kM J (V0 (bK J J J (kM J (V0 (V0 (V0 (bK J J J (kM J (Q0 (V2 (Y6 (W3 (aO J ⟨congrArg Value.bool ?_,rfl⟩)))))))))))))
     first|exact(decide_eq_true oM).symm|exact(decide_eq_false oM).symm
   ·refine kM J (Q0 (U0 J (rS (kO (bV J J (fun h23=>?_) (fun h23=>?_))))))
    ·refine kM J (Q0 (Y0 J (rS (aH J (aL J .here rfl (kO (bV J J (fun h24=>?_) (fun h24=>?_))))))))
     ·refine kM J (kG (U2 J (cA J J J (kM J (Q0 (V2 (Y6 (W3 (aO J ⟨congrArg Value.bool ?_,rfl⟩)))))))))
      first|exact(decide_eq_true oM).symm|exact(decide_eq_false oM).symm
     ·refine kM J (V0 (bK J J J (kM J (Q0 (V2 (Y6 (W3 (aO J ⟨congrArg Value.bool ?_,rfl⟩))))))))
      first|exact(decide_eq_true oM).symm|exact(decide_eq_false oM).symm
    ·refine kM J (Q0 (U0 J (rS (kO (bV J J (fun h25=>?_) (fun h25=>?_))))))
     ·refine kM J (Q0 (Y0 J (rS (kM J (kM J (kG (Q2 J (kG (Y1 J .here rfl (kG (bV J J (fun h26=>?_) (fun h26=>?_))))))))))))
      ·refine cA J J J (kM J (Q0 (V2 (Y6 (W3 (aO J ⟨congrArg Value.bool ?_,rfl⟩))))))
       first|exact(decide_eq_true oM).symm|exact(decide_eq_false oM).symm
      ·refine cA J J J (kM J (Q0 (V2 (Y6 (W3 (aO J ⟨congrArg Value.bool ?_,rfl⟩))))))
       first|exact(decide_eq_true oM).symm|exact(decide_eq_false oM).symm
     ·refine kM J (Q0 (U0 J (rS (kO (bV J J (fun h27=>?_) (fun h27=>?_))))))
      ·refine kM J (Q0 (Y0 J (rS (kM J (kM J (kG (U2 J (cA J J J (kM J (Q0 (V2 (Y6 (W3 (aO J ⟨congrArg Value.bool ?_,rfl⟩))))))))))))))
       first|exact(decide_eq_true oM).symm|exact(decide_eq_false oM).symm
      ·refine kM J (Q0 (U0 J (Q1 (Z1 (W0 (rS (kM J (Q0 (V2 (aO J ⟨congrArg Value.bool ?_,rfl⟩))))))))))
       first|exact(decide_eq_true oM).symm|exact(decide_eq_false oM).symm
  ·refine kM J (Q0 (rQ (rS (aH J (aL J .here rfl (Q0 (W1 (rS (kO (bV J J (fun h28=>?_) (fun h28=>?_)))))))))))
   ·refine kM J (Q0 (Y0 J (rS (aH J (aL J .here rfl (kO (bV J J (fun h29=>?_) (fun h29=>?_))))))))
    ·refine kM J (kG (U2 J (cA J J J (kM J (V0 (V0 (V0 (bK J J J (kM J (Q0 (V2 (Y6 (W3 (aO J ⟨congrArg Value.bool ?_,rfl⟩))))))))))))))
     first|exact(decide_eq_true oM).symm|exact(decide_eq_false oM).symm
    ·refine kM J (V0 (bK J J J (kM J (V0 (V0 (V0 (bK J J J (kM J (Q0 (V2 (Y6 (W3 (aO J ⟨congrArg Value.bool ?_,rfl⟩)))))))))))))
     first|exact(decide_eq_true oM).symm|exact(decide_eq_false oM).symm
   ·refine kM J (Q0 (U0 J (rS (kO (bV J J (fun h30=>?_) (fun h30=>?_))))))
    ·refine kM J (Q0 (Y0 J (rS (aH J (aL J .here rfl (kO (bV J J (fun h31=>?_) (fun h31=>?_))))))))
     ·refine kM J (kG (U2 J (cA J J J (kM J (Q0 (V2 (Y6 (W3 (aO J ⟨congrArg Value.bool ?_,rfl⟩)))))))))
      first|exact(decide_eq_true oM).symm|exact(decide_eq_false oM).symm
     ·refine kM J (V0 (bK J J J (kM J (Q0 (V2 (Y6 (W3 (aO J ⟨congrArg Value.bool ?_,rfl⟩))))))))
      first|exact(decide_eq_true oM).symm|exact(decide_eq_false oM).symm
    ·refine kM J (Q0 (U0 J (rS (kO (bV J J (fun h32=>?_) (fun h32=>?_))))))
     ·refine kM J (Q0 (Y0 J (rS (kM J (kM J (V0 (V0 (V0 (bK J J J (kM J (Q0 (V2 (Y6 (W3 (aO J ⟨congrArg Value.bool ?_,rfl⟩)))))))))))))))
      first|exact(decide_eq_true oM).symm|exact(decide_eq_false oM).symm
     ·refine kM J (Q0 (U0 J (rS (kO (bV J J (fun h33=>?_) (fun h33=>?_))))))
      ·refine kM J (Q0 (Y0 J (rS (kM J (kM J (V0 (bK J J J (kM J (Q0 (V2 (Y6 (W3 (aO J ⟨congrArg Value.bool ?_,rfl⟩)))))))))))))
       first|exact(decide_eq_true oM).symm|exact(decide_eq_false oM).symm
      ·refine kM J (Q0 (U0 J (Q1 (Z1 (W0 (rS (kM J (Q0 (V2 (aO J ⟨congrArg Value.bool ?_,rfl⟩))))))))))
       first|exact(decide_eq_true oM).symm|exact(decide_eq_false oM).symm
theorem H7(n:Nat)(d r al up:Int)(a1 a2:Option Addr)(c1 c2:Nat)(l1 l2:List Int)(s:St)(hs:Wf s)(hn:281474976710656<=n)(hl1:aN s a1 l1)(hl2:aN s a2 l2)(hm:l1.length<=9/\l2.length<=9):bX Tryz.prog (bZ cB) X (n+40) 56 [.agg ⟨[.int .i64 d,.int .i64 r,.slice a1 l1.length c1,.slice a2 l2.length c2,.int .i64 al,.int .i64 up]⟩] s (fun v A=>v = .int .i64 ((l1.length:Int)*(l2.length:Int))/\A=[]):=by
 refine enter GM rfl hs ?_;unfold Jc;have hlen1:=hl1.len;have hlen2:=hl2.len;have hq:=uA (x:=(l1.length:Int)) (y:=(l2.length:Int)) oM oM;refine rS (aZ J J J (fun b1=>(kM J (Q0 (rS (aH J (aL J .here rfl (aJ J hl1.spot (aH J (aL J .here rfl (aJ J hl2.spot (aV J J oM (kM J (Q0 (V2 ?_)))))))))))))));exact aO J ⟨rfl,rfl⟩
theorem vD(n:Nat)(d r al up:Int)(a1 a2:Option Addr)(c1 c2:Nat)(l1 l2:List Int)(x y:Int)(s:St)(hs:Wf s)(hn:0<=n)(hl1:aN s a1 l1)(hl2:aN s a2 l2)(hm:l2.length<=9)(hx:0<=x/\x<=9)(hy:0<=y/\y<=9):bX Tryz.prog (bZ cB) X (n+40) 49 [.agg ⟨[.int .i64 d,.int .i64 r,.slice a1 l1.length c1,.slice a2 l2.length c2,.int .i64 al,.int .i64 up]⟩,.int .i64 x,.int .i64 y] s (fun v A=>v = .int .i64 (1+x*(l2.length:Int)+y)/\A=[]):=by
 refine enter GL rfl hs ?_;unfold Jb;have hlen1:=hl1.len;have hlen2:=hl2.len;have hq:=uA (x:=x) (y:=(l2.length:Int)) oM oM;refine rS (aZ J J J (fun b1=>(kM J (Q0 (rS (kM J (aH J (aL J .here rfl (aJ J hl2.spot (aV J J oM (aX J J oM (kM J (aX J J oM (kM J (Q0 (V2 ?_))))))))))))))));exact aO J ⟨rfl,rfl⟩
end
variable{al up:List Int}{n t i y:Nat}
def TP(al up:List Int)(n t:Nat):Int:=al.getD (t / n) 0*up.getD (t % n) 0
def kY(al up:List Int)(n t:Nat):List Int:=0::(List.range t).map (TP al up n)
theorem fD:(kY al up n t).length=t+1:=by simp[kY]
theorem He(hy:y<n):TP al up n (n*i+y)=al.getD i 0*up.getD y 0:=by
 unfold TP;rw[Nat.mul_add_div oM,Nat.mul_add_mod,Nat.div_eq_of_lt hy,Nat.mod_eq_of_lt hy,Nat.add_zero]
theorem gI(hy:y<n):ints (kY al up n (n*i+y))++[.int .i64 (al.getD i 0*up.getD y 0)]=ints (kY al up n (n*i+(y+1))):=by
 rw[<-He (al:=al) (up:=up) hy];show _=ints (kY al up n (n*i+y+1));unfold kY ints;rw[List.range_succ];simp
theorem rZ{l:List Int}{j:Nat}(h:l.length<=j):l.getD j 0=0:=by
 rw[List.getD_eq_getElem?_getD,List.getElem?_eq_none h];rfl
theorem cX(hy:y<n)(h:al.length<=i∨up.length<=y):ints (kY al up n (n*i+y))++[.int .i64 0]=ints (kY al up n (n*i+(y+1))):=by
 rw[<-gI hy];rcases h with h|h
 ·rw[rZ h,Int.zero_mul]
 ·rw[rZ h,Int.mul_zero]
def cT(x:Nat):List Int:=(List.replicate (x+1) 0).set x 1
theorem kF{x:Nat}:(cT x).length=x+1:=by simp[cT]
theorem oC(x:Nat):Bd (cT x) 200000000:=mE (fun j=>by
 rw[List.getD_eq_getElem?_getD,List.getElem?_replicate];split <;> simp) dE
theorem E9{i:Int}{a b c d:Value}(h:¬i=1/\¬i=2/\¬i=3/\¬i=4):lN i [(1,a),(2,b),(3,c),(4,d)]=none:=by
 have h1:((1:Int) == i)=false:=by simp;omega
 have h2:((2:Int) == i)=false:=by simp;omega
 have h3:((3:Int) == i)=false:=by simp;omega
 have h4:((4:Int) == i)=false:=by simp;omega
 rw[Ld];simp only[List.find?_cons,h1,h2,h3,h4,List.find?_nil,Option.map_none]
def FT(op:Bool)(cp t:Nat):Prop:=(op=true/\cp=OPEN)∨(op=false/\cp=1/\t=0)
theorem fS{op:Bool}{cp t:Nat}(h:FT op cp t):xR op (t+1) cp:=by
 rcases h with h|⟨h1,h2,rfl⟩
 ·exact .inl h
 ·exact .inr ⟨h1,h2,dE⟩
theorem CJ{op:Bool}{cp t:Nat}(h:FT op cp t)(h0:0<t):op=true/\cp=OPEN:=by
 rcases h with h|⟨_,_,h⟩
 ·exact h
 ·omega
def PF(wk:Int)(ws:Nat)(l1:List Int):List Int:=if wk=1∨wk=2 then fG l1 else cT ws
def PH(wk:Int)(ww:Nat)(l2:List Int):List Int:=if wk=1 then fG (l2.take (ww+1)) else if wk=3 then fG l2 else cT ww
def gV(wk:Int):Int:=if wk=1 then 648000000 else if wk=4 then 1 else 180000
def dL(wk ws ww:Int)(l1 l2:List Int):List Int:=kY (PF wk ws.toNat l1) (PH wk ww.toNat l2) l2.length (l2.length*l1.length)
section
variable{X:FuncId->List Value->St->(Value->St->Bool)->Bool}
theorem vE(n:Nat)(d r al up:Int)(a1 a2:Option Addr)(c1 c2:Nat)(l1 l2:List Int)(wk ws ww:Int)(s:St)(hs:Wf s)(hn:2251799813685248<=n)(hl1:aN s a1 l1)(hl2:aN s a2 l2)(hp1:tP 9 100000 l1)(hp2:tP 9 100000 l2)(hcp:lB s a2 l2.length c2):bX Tryz.prog (bZ cB) X (n+2500) 72 [.agg ⟨[.int .i64 d,.int .i64 r,.slice a1 l1.length c1,.slice a2 l2.length c2,.int .i64 al,.int .i64 up]⟩,.agg ⟨[.int .i64 wk,.int .i64 ws,.int .i64 ww]⟩] s (fun v A=>(((wk=1/\ws=0/\(0<=ww/\ww<=(l2.length:Int)-1)/\0<ww)∨(wk=2/\ws=0/\(0<=ww/\ww<=(l2.length:Int)-1))∨(wk=3/\(0<=ws/\ws<=(l1.length:Int)-1)/\ww=0)∨(wk=4/\(0<=ws/\ws<=(l1.length:Int)-1)/\(0<=ww/\ww<=(l2.length:Int)-1)))/\∃b,v = .tuple #[.slice (some ⟨b,0,none⟩) (l2.length*l1.length+1) OPEN,.int .i64 (gV wk),.int .i64 0]/\A=[.row b 3 true (ints (dL wk ws ww l1 l2))])∨(¬((wk=1/\ws=0/\(0<=ww/\ww<=(l2.length:Int)-1)/\0<ww)∨(wk=2/\ws=0/\(0<=ww/\ww<=(l2.length:Int)-1))∨(wk=3/\(0<=ws/\ws<=(l1.length:Int)-1)/\ww=0)∨(wk=4/\(0<=ws/\ws<=(l1.length:Int)-1)/\(0<=ww/\ww<=(l2.length:Int)-1)))/\v = .tuple #[.slice none 0 0,.int .i64 0,.int .i64 33]/\A=[])):=by
 refine RB Pf rfl hs ?_;unfold Og;have hlen1:=hl1.len;have hlen2:=hl2.len;have hm1:=hp1.hm;have hm2:=hp2.hm;have h21:=hp1.h2;have h22:=hp2.h2;have hkeys:wk=1∨wk=2∨wk=3∨wk=4∨(¬wk=1/\¬wk=2/\¬wk=3/\¬wk=4):=oM
 refine rS (aZ J J J (fun b1=>(aZ J J J (fun b2=>(kM J (kM J (kM J (Q0 (rS (aH J (aL J .here rfl (kG (bI J J Kw rfl ?_)))))))))))));unfold F5;refine rS (kM J (Q0 (rS (kO (Pq (fun b3=>(kZ (GU J J J J .here (kZ (GU J J J J .here (kZ (GU J J J J .here (kZ (GU J J J J .here (kM J (kM J (Q0 (V2 (eO J .nil (kZ (aK J J .h1 J (by simp[eqV,eqA,eqL,kindEq,aB,V5 hl1.spot,V5 hl2.spot]) (kO (RC J J (.head _) ?_)))))))))))))))))))))));rcases hkeys with hkey|hkey|hkey|hkey|hkey
 ·subst hkey
  refine kM J (eK J J (eK J J (kM J (kM J (Q0 (rQ (rS (kM J (eP J (kM J (kG (V4 J dE .h2 J (kG (Q2 J (kG (Y1 J .h1 J (kG (Q2 J (kG (Y1 J .h1 J (kG (bB J J (fun s1 h1=>DE _ _ _ _ _ _ _ _ _ _ _ _ _ s1 h1.wf oM (hl1.ext hs h1.2.1) (hl2.ext hs h1.2.1)) (fun h4=>?_) (fun h4=>?_)))))))))))))))))))))))
  ·have hhas:=h4
   obtain⟨ws,rfl⟩:∃q:Nat,ws=(q:Int):=⟨ws.toNat,oM⟩;obtain⟨ww,rfl⟩:∃q:Nat,ww=(q:Int):=⟨ww.toNat,oM⟩;have ho1:=kF (x:=ws);have ho2:=kF (x:=ww);have hw1:=eN (l:=l1);have hw2:=eN (l:=l2);have hw3:=eN (l:=l2.take (ww+1));have hw4:(l2.take (ww+1)).length=ww+1:=by rw[List.length_take];omega
   refine kG (U6 J (bK J J J (Q0 (U0 J (Q1 (W0 (rS (kM J (dD J dE .h2 J (dD J dE .h1 J (eG J J (kG (bI J J KS rfl ?_)))))))))))));unfold Gr;refine rS (aZ J J J (fun b5=>(aY J J (fun b6=>(kM J (Q0 (rQ (rS (aH J (aH J (aL J .h1 J (kO (V3 J J (fun h7=>?_) (fun h7=>?_))))))))))))))
   ·refine kM J (V0 (V0 (V0 (V0 (cA J J J (Q0 (Y0 J (rS (eG J J (kZ (Q6 J J .here rfl rfl rfl rfl (kM J (Q0 (V2 (W3 (nW J dE .nil .here rfl rfl (kM J (eK J J (eK J J (aY J J (fun b8=>(kZ (Q6 J J .here rfl rfl rfl rfl (kM J (Q0 (rQ ?_))))))))))))))))))))))))))
    refine rS (kM J (eP J (Q0 (Y0 J (rS (kM J (kM J (kM J (Q0 (V2 (W3 (lG J J J .nil (List.nil_sublist _) (.inr ⟨?_,rfl,rfl⟩)))))))))))))
    first|omega|(intro h;omega)
   ·refine kM J (kG (Q2 J (kG (Q2 J (kG (Y1 J .h1 J (kG (W5 J J (fun h9=>?_) (fun h9=>?_)))))))))
    ·refine bK J J J (Q0 (Y0 J (rS (eG J J (kZ (Q6 J J .here rfl rfl rfl rfl (kM J (Q0 (V2 (W3 (nW J dE .nil .here rfl rfl (kM J (eK J J (eK J J (aY J J (fun b10=>(kZ (Q6 J J .here rfl rfl rfl rfl (kM J (Q0 (rQ (rS (kM J (eP J (Q0 (Y0 J ?_))))))))))))))))))))))))))
     refine rS (kM J (kM J (kM J (Q0 (V2 (W3 (lG J J J .nil (List.nil_sublist _) (.inr ⟨?_,rfl,rfl⟩))))))))
     first|omega|(intro h;omega)
    ·refine bK J J J (Q0 (U0 J (Q1 (W0 (rS (aH J (aH J (aL J .h1 J (aH J (aH J (aL J .h1 J (aH J (aH J (aL J .h1 J (aX J J oM (kO (EY (h:=(l2.take (ww+1)).length) hl2 rfl rfl (by rw[List.length_take];omega) oM (by rw[List.length_take];omega) hcp (kO (Z4 J J (fun s1 h1=>lH _ _ _ _ s1 h1.wf oM (hl1.ext hs h1.2.1) hp1) (fun v1 A1 q1=>?_))))))))))))))))))))
     obtain⟨b11,rfl,rfl⟩:=q1;refine kZ (HY (h:=(l2.take (ww+1)).length) hl2 rfl rfl (by rw[List.length_take];omega) J oM (by rw[List.length_take];omega) hcp (kZ (aK J J .h2 J (by simp[eqV,eqA,eqL,kindEq,aB,V5 hl1.spot,V5 hl2.spot]) (kZ (aK J J .h2 J (by simp[eqV,eqA,eqL,kindEq,aB,V5 hl1.spot,V5 hl2.spot]) (kO (Z4 J J (fun s1 h1=>lH _ _ _ _ s1 h1.wf oM ((hl2.take (ww+1)).ext hs h1.2.1) (lZ hp2 oM oM)) (fun v1 A1 q1=>?_))))))));obtain⟨b12,rfl,rfl⟩:=q1;refine eG J J (kZ (Q6 J J .h2 J J J J (kM J (Q0 (V2 (nW J dE .nil .h2 J J (kM J (eK J J (eK J J (aY J J (fun b13=>(kZ (Q6 J J .here rfl rfl rfl rfl (kM J (Q0 (rQ (rS (kM J (eP J (Q0 (U0 J (Q1 (W0 (rS (kO (bF J J J (fun b14=>(aY J J (fun b15=>?_)))))))))))))))))))))))))))));refine kZ (cY J J .here rfl rfl (Q0 (rQ (rS (dD J dE .h9 J (kG (bI J J jH rfl ?_)))))));unfold pA;refine rS (aZ J J J (fun b16=>(kM J (Q0 (rS (kO (lF J J (kM J (Q0 (V2 (eO J .nil (Q0 (W1 (jM J jI rfl (fun q17 l18 LO19 BO20 hLO19 hBO20=>?_)))))))))))))));unfold pB;refine kQ .h4 (rS (kM J (Q0 (rS (aH J (aL J .h3 J (aJ J hl1.spot (kM J (Q0 (W1 (U4 (fun j e A=>∃(i b cp:Nat) (op:Bool),e=[(0,.func (.yield l18) ⟨[]⟩ ⟨[]⟩),(1,.pointer (some ⟨b16,0,none⟩)),(3,.int .i64 ((l2.length*i:Nat):Int)),(8,.int .i64 (l1.length:Int)),(9,.int .i64 (i:Int))]/\A=(.row b 3 op (ints (kY (fG l1) (fG (l2.take (ww+1))) l2.length (l2.length*i)))::(LO19::(.dfr q17::(.row b16 33 false ([.int .i64 d,.int .i64 r,.slice a1 l1.length c1,.slice a2 l2.length c2,.int .i64 al,.int .i64 up])::(.row b15 22 false ([.slice (some ⟨b,0,none⟩) (l2.length*i+1) cp])::(.row b13 175 false ([.slice (some ⟨b11,0,none⟩) (l1.length) (l1.length),.slice (some ⟨b12,0,none⟩) ((l2.take (ww+1)).length) ((l2.take (ww+1)).length),.int .i64 648000000])::(.row b12 3 false (ints (fG (l2.take (ww+1))))::(.row b11 3 false (ints (fG l1))::[]))))))))/\j=l1.length-i/\i<=l1.length/\FT op cp (l2.length*i)) 700 281474976710656 281474976710656 ?_ (j:=_) (env2:=_) (A2:=_) ?_ ?_ ?_ ?_ ⟨0,b14,1,false,rfl,rfl,rfl,oM,(.inr ⟨rfl,rfl,rfl⟩)⟩)))))))))))
     rotate_left
     ·omega
     ·omega
     ·exact lL
     ·exact(.q (.q (.q (.q (.q (.q (.q (.q (.cons _ (.cons _ (.cons _ (.cons _ (.cons _ .slnil)))))))))))))
     rintro n hn j _ _ ⟨i,b,cp,op,rfl,rfl,rfl,hi,hT⟩;have hq9:=uA (x:=(l2.length:Int)) (y:=(i:Int)) oM oM;have hq8:((l2.length*i:Nat):Int)=(l2.length:Int)*(i:Int):=sM
     refine rS (dB J J (fun h21=>?_) (fun h21=>?_))
     ·refine Q0 (rQ (Y0 J (Q1 (W0 (rQ (W1 (rS (kM J (kM J (Q0 (rS (aH J (aL J .h3 J (aJ J hl2.spot (kM J (Q0 (W1 (U4 (fun j e A=>∃(y b cp:Nat) (op:Bool),e=[(0,.func (.yield l18) ⟨[]⟩ ⟨[]⟩),(1,.pointer (some ⟨b16,0,none⟩)),(3,.int .i64 ((l2.length*i+y:Nat):Int)),(4,.int .i64 (i:Int)),(8,.int .i64 (l1.length:Int)),(9,.int .i64 (i:Int)),(14,.int .i64 (l2.length:Int)),(15,.int .i64 (y:Int))]/\A=(.row b 3 op (ints (kY (fG l1) (fG (l2.take (ww+1))) l2.length (l2.length*i+y)))::(LO19::(.dfr q17::(.row b16 33 false ([.int .i64 d,.int .i64 r,.slice a1 l1.length c1,.slice a2 l2.length c2,.int .i64 al,.int .i64 up])::(.row b15 22 false ([.slice (some ⟨b,0,none⟩) (l2.length*i+y+1) cp])::(.row b13 175 false ([.slice (some ⟨b11,0,none⟩) (l1.length) (l1.length),.slice (some ⟨b12,0,none⟩) ((l2.take (ww+1)).length) ((l2.take (ww+1)).length),.int .i64 648000000])::(.row b12 3 false (ints (fG (l2.take (ww+1))))::(.row b11 3 false (ints (fG l1))::[]))))))))/\j=l2.length-y/\y<=l2.length/\FT op cp (l2.length*i+y)) 500 0 281474976710656 ?_ (j:=_) (env2:=_) (A2:=_) ?_ ?_ ?_ ?_ ⟨0,b,cp,op,rfl,rfl,rfl,oM,hT⟩))))))))))))))))))
      rotate_left
      ·omega
      ·omega
      ·exact lL
      ·exact(.q (.q (.q (.q (.q (.q (.q (.q .slnil))))))))
      rintro n hn j _ _ ⟨y,b,cp,op,rfl,rfl,rfl,hy,hT2⟩;refine rS (dB J J (fun h22=>?_) (fun h22=>?_))
      ·refine Q0 (rQ (Y0 J (Q1 (W0 (rQ (W1 (rS (kM J (kM J (Q0 (rS (kM J (aX J J oM (kM J (Q0 (rS (kM J (kM J (kM J (kM J (eG J J (kG (fP J J hLO19 hBO20 sM J J (rI ?_))))))))))))))))))))))))
       refine aY J J (fun b23=>(kZ (Q6 J J .here rfl rfl rfl rfl (Q0 (⟨_,.h2,(W1 (rS (kM J (Q0 (rQ (rS (aH J (aL J .here rfl (aH J (aL J .h6 J (kO (cK J (dB J J (fun h24=>?_) (fun h24=>?_))))))))))))))⟩)))))
       ·refine kM J (kG (Q2 J (kG (Y1 J .here rfl (kG (Q2 J (kG (Y1 J .h6 J (kG (cK J (kG (W5 J J (fun h25=>?_) (fun h25=>?_)))))))))))))
        ·refine cA J J J (Q0 (Y0 J (rI (aH J (aL J .h6 J (aH J (aL J .here rfl (cN (j:=i) J J oM oM (kO (dM J .h8 (by first|omega|(simp;done)|(simp;omega)) (aH J (aL J .h6 J (aH J (aL J .here rfl (cN (j:=y) J J oM oM (kO (dM J .h7 (by first|omega|(simp;done)|(simp;omega)) (aV J J (qD (by first|exact fI hp1 _|exact oC _ _) (by first|exact fI hp2 _|exact fI (lZ hp2 oM oM) _|exact oC _ _)) (kM J (Q0 (W0 (rI (aL J .h5 J (kM J (kO (bF J J J (fun b26=>?_)))))))))))))))))))))))))))
         refine kO (cO J J (fK.own .here rfl sM) .h2 (by rw[bU,fD,Nat.mul_one]) (fS hT2) dE oM oM (fun b27=>(kZ (cY J J .h6 J J (Q0 (Z1 (⟨_,.h3,(eP J (Q0 (U0 J (Q1 (Z1 (W0 (rI (aX J J oM (kM J (Q0 (W0 ?_)))))))))))⟩)))))));exact⟨rfl,_,_,_,(show l2.length-(y+1)<l2.length-y from oM),lL,(.q (.cons _ (.cons _ (.q (.q (.q (.q (.q (.q (.q .slnil)))))))))),⟨y+1,b27,_,_,rfl,(by simp only[List.set_cons_zero];first|(rw[gI (n:=l2.length) (i:=i) (y:=y) oM];first|done|rfl)|(rw[cX (al:=fG l1) (up:=fG (l2.take (ww+1))) (n:=l2.length) (i:=i) (y:=y) oM (.inl oM)];first|done|rfl)|(rw[cX (al:=fG l1) (up:=fG (l2.take (ww+1))) (n:=l2.length) (i:=i) (y:=y) oM (.inr oM)];first|done|rfl)),rfl,oM,(.inl ⟨rfl,rfl⟩)⟩⟩
        ·refine cA J J J (Q0 (U0 J (Q1 (W0 (rI (aL J .h5 J (kM J (kO (bF J J J (fun b28=>(kO (cO J J (fK.own .here rfl sM) .h2 (by rw[bU,fD,Nat.mul_one]) (fS hT2) dE oM oM (fun b29=>(kZ (cY J J .h6 J J (Q0 (Z1 (⟨_,.h3,(eP J (Q0 (U0 J (Q1 (Z1 (W0 (rI (aX J J oM (kM J (Q0 ?_))))))))))⟩))))))))))))))))))
         refine W0 ?_;exact⟨rfl,_,_,_,(show l2.length-(y+1)<l2.length-y from oM),lL,(.q (.cons _ (.cons _ (.q (.q (.q (.q (.q (.q (.q .slnil)))))))))),⟨y+1,b29,_,_,rfl,(by simp only[List.set_cons_zero];first|(rw[gI (n:=l2.length) (i:=i) (y:=y) oM];first|done|rfl)|(rw[cX (al:=fG l1) (up:=fG (l2.take (ww+1))) (n:=l2.length) (i:=i) (y:=y) oM (.inl oM)];first|done|rfl)|(rw[cX (al:=fG l1) (up:=fG (l2.take (ww+1))) (n:=l2.length) (i:=i) (y:=y) oM (.inr oM)];first|done|rfl)),rfl,oM,(.inl ⟨rfl,rfl⟩)⟩⟩
       ·refine kM J (V0 (V0 (V0 (V0 (V0 (V0 (bK J J J (Q0 (U0 J (Q1 (W0 (rI (aL J .h5 J (kM J (kO (bF J J J (fun b30=>(kO (cO J J (fK.own .here rfl sM) .h2 (by rw[bU,fD,Nat.mul_one]) (fS hT2) dE oM oM (fun b31=>(kZ (cY J J .h6 J J (Q0 (Z1 (⟨_,.h3,(eP J (Q0 (U0 J ?_)))⟩)))))))))))))))))))))))))
        refine Q1 (Z1 (W0 (rI (aX J J oM (kM J (Q0 (W0 ?_)))))));exact⟨rfl,_,_,_,(show l2.length-(y+1)<l2.length-y from oM),lL,(.q (.cons _ (.cons _ (.q (.q (.q (.q (.q (.q (.q .slnil)))))))))),⟨y+1,b31,_,_,rfl,(by simp only[List.set_cons_zero];first|(rw[gI (n:=l2.length) (i:=i) (y:=y) oM];first|done|rfl)|(rw[cX (al:=fG l1) (up:=fG (l2.take (ww+1))) (n:=l2.length) (i:=i) (y:=y) oM (.inl oM)];first|done|rfl)|(rw[cX (al:=fG l1) (up:=fG (l2.take (ww+1))) (n:=l2.length) (i:=i) (y:=y) oM (.inr oM)];first|done|rfl)),rfl,oM,(.inl ⟨rfl,rfl⟩)⟩⟩
      ·refine Q0 (rQ (U0 J (Y4 (Z2 (Z2 (Q3 (Z1 (W0 (rI (aX J J oM (kM J (Q0 (W0 ?_)))))))))))))
       have hyl:y=l2.length:=oM;subst hyl;exact⟨rfl,_,_,_,(show l1.length-(i+1)<l1.length-i from oM),lL,(.q (.q (.q (.q (.q (.q (.q (.q .slnil)))))))),⟨i+1,b,_,_,rfl,rfl,rfl,oM,hT2⟩⟩
     ·refine Q0 (rQ (U0 J (Y4 (Z2 (Z2 (Q3 (bH .nil (.inl ⟨_,.h1,(Z1 (W0 (rS (aL J .h3 J (aH J (aL J .h4 J (kM J (kM J (kM J (Q0 (V2 ?_)))))))))))⟩))))))))
      have hil:i=l1.length:=oM
      subst hil;obtain⟨rfl,rfl⟩:=CJ hT (Nat.mul_pos oM oM);exact lG J J J (.cons .h1 .nil) (.q (.cons _ (.cons _ (.cons _ (.cons _ (.cons _ .slnil)))))) (.inl ⟨oM,b,rfl,rfl⟩)
  ·refine kG (U6 J (bK J J J (Q0 (Y0 J (rS (kM J (kM J (kM J (Q0 (V2 (W3 (lG J J J .nil (List.nil_sublist _) (.inr ⟨?_,rfl,rfl⟩)))))))))))))
   first|omega|(intro h;omega)
 ·subst hkey
  refine kM J (eK J J (eK J J (kM J (kM J (Q0 (rQ (rS (kM J (eP J (kM J (kG (V4 J dE .h2 J (kG (Q2 J (kG (Y1 J .h1 J (kG (Q2 J (kG (Y1 J .h1 J (kG (bB J J (fun s1 h1=>DE _ _ _ _ _ _ _ _ _ _ _ _ _ s1 h1.wf oM (hl1.ext hs h1.2.1) (hl2.ext hs h1.2.1)) (fun h32=>?_) (fun h32=>?_)))))))))))))))))))))))
  ·have hhas:=h32
   obtain⟨ws,rfl⟩:∃q:Nat,ws=(q:Int):=⟨ws.toNat,oM⟩;obtain⟨ww,rfl⟩:∃q:Nat,ww=(q:Int):=⟨ww.toNat,oM⟩;have ho1:=kF (x:=ws);have ho2:=kF (x:=ww);have hw1:=eN (l:=l1);have hw2:=eN (l:=l2);have hw3:=eN (l:=l2.take (ww+1));have hw4:(l2.take (ww+1)).length=ww+1:=by rw[List.length_take];omega
   refine kG (U6 J (bK J J J (Q0 (U0 J (Q1 (W0 (rS (kM J (dD J dE .h2 J (dD J dE .h1 J (eG J J (kG (bI J J KT rfl ?_)))))))))))));unfold Gs;refine rS (aZ J J J (fun b33=>(aY J J (fun b34=>(kM J (Q0 (rS (aH J (aH J (aL J .h1 J (aH J (aH J (aL J .h1 J (aH J (aH J (aL J .h1 J (kO (bV J J (fun h35=>?_) (fun h35=>?_)))))))))))))))))))
   ·refine kO (Z4 J J (fun s1 h1=>lH _ _ _ _ s1 h1.wf oM (hl1.ext hs h1.2.1) hp1) (fun v1 A1 q1=>?_))
    obtain⟨b36,rfl,rfl⟩:=q1;refine kZ (aK J J .h2 J (by simp[eqV,eqA,eqL,kindEq,aB,V5 hl1.spot,V5 hl2.spot]) (kZ (aK J J .h2 J (by simp[eqV,eqA,eqL,kindEq,aB,V5 hl1.spot,V5 hl2.spot]) (kO (Z4 J J (fun s1 h1=>wR _ ww s1 h1.wf oM) (fun v1 A1 q1=>?_))))));obtain⟨b37,rfl,rfl⟩:=q1;refine kZ (aK J J .h3 J (by simp[eqV,eqA,eqL,kindEq,aB,V5 hl1.spot,V5 hl2.spot]) (eG J J (kZ (Q6 J J .h2 J J J J (kZ (aK J J .h3 J (by simp[eqV,eqA,eqL,kindEq,aB,V5 hl1.spot,V5 hl2.spot]) (kM J (Q0 (V2 (nW J dE .nil .h2 J J (kM J (eK J J (eK J J (aY J J (fun b38=>(kZ (Q6 J J .here rfl rfl rfl rfl (kM J (Q0 (rQ (rS (kM J (eP J (Q0 (U0 J (Q1 (W0 (rS ?_))))))))))))))))))))))))))));refine kO (bF J J J (fun b39=>(aY J J (fun b40=>(kZ (cY J J .here rfl rfl (Q0 (rQ (rS (dD J dE .h9 J (kG (bI J J jH rfl ?_))))))))))));unfold pA;refine rS (aZ J J J (fun b41=>(kM J (Q0 (rS (kO (lF J J (kM J (Q0 (V2 (eO J .nil (Q0 (W1 (jM J jI rfl (fun q42 l43 LO44 BO45 hLO44 hBO45=>?_)))))))))))))));unfold pB;refine kQ .h4 (rS (kM J (Q0 (rS (aH J (aL J .h3 J (aJ J hl1.spot (kM J (Q0 (W1 (U4 (fun j e A=>∃(i b cp:Nat) (op:Bool),e=[(0,.func (.yield l43) ⟨[]⟩ ⟨[]⟩),(1,.pointer (some ⟨b41,0,none⟩)),(3,.int .i64 ((l2.length*i:Nat):Int)),(8,.int .i64 (l1.length:Int)),(9,.int .i64 (i:Int))]/\A=(.row b 3 op (ints (kY (fG l1) (cT ww) l2.length (l2.length*i)))::(LO44::(.dfr q42::(.row b41 33 false ([.int .i64 d,.int .i64 r,.slice a1 l1.length c1,.slice a2 l2.length c2,.int .i64 al,.int .i64 up])::(.row b40 22 false ([.slice (some ⟨b,0,none⟩) (l2.length*i+1) cp])::(.row b38 175 false ([.slice (some ⟨b36,0,none⟩) (l1.length) (l1.length),.slice (some ⟨b37,0,none⟩) (ww+1) (ww+1),.int .i64 180000])::(.row b37 3 false (ints (cT ww))::(.row b36 3 false (ints (fG l1))::[]))))))))/\j=l1.length-i/\i<=l1.length/\FT op cp (l2.length*i)) 700 281474976710656 281474976710656 ?_ (j:=_) (env2:=_) (A2:=_) ?_ ?_ ?_ ?_ ⟨0,b39,1,false,rfl,rfl,rfl,oM,(.inr ⟨rfl,rfl,rfl⟩)⟩)))))))))))
    rotate_left
    ·omega
    ·omega
    ·exact lL
    ·exact(.q (.q (.q (.q (.q (.q (.q (.q (.cons _ (.cons _ (.cons _ (.cons _ (.cons _ .slnil)))))))))))))
    rintro n hn j _ _ ⟨i,b,cp,op,rfl,rfl,rfl,hi,hT⟩;have hq9:=uA (x:=(l2.length:Int)) (y:=(i:Int)) oM oM;have hq8:((l2.length*i:Nat):Int)=(l2.length:Int)*(i:Int):=sM
    refine rS (dB J J (fun h46=>?_) (fun h46=>?_))
    ·refine Q0 (rQ (Y0 J (Q1 (W0 (rQ (W1 (rS (kM J (kM J (Q0 (rS (aH J (aL J .h3 J (aJ J hl2.spot (kM J (Q0 (W1 (U4 (fun j e A=>∃(y b cp:Nat) (op:Bool),e=[(0,.func (.yield l43) ⟨[]⟩ ⟨[]⟩),(1,.pointer (some ⟨b41,0,none⟩)),(3,.int .i64 ((l2.length*i+y:Nat):Int)),(4,.int .i64 (i:Int)),(8,.int .i64 (l1.length:Int)),(9,.int .i64 (i:Int)),(14,.int .i64 (l2.length:Int)),(15,.int .i64 (y:Int))]/\A=(.row b 3 op (ints (kY (fG l1) (cT ww) l2.length (l2.length*i+y)))::(LO44::(.dfr q42::(.row b41 33 false ([.int .i64 d,.int .i64 r,.slice a1 l1.length c1,.slice a2 l2.length c2,.int .i64 al,.int .i64 up])::(.row b40 22 false ([.slice (some ⟨b,0,none⟩) (l2.length*i+y+1) cp])::(.row b38 175 false ([.slice (some ⟨b36,0,none⟩) (l1.length) (l1.length),.slice (some ⟨b37,0,none⟩) (ww+1) (ww+1),.int .i64 180000])::(.row b37 3 false (ints (cT ww))::(.row b36 3 false (ints (fG l1))::[]))))))))/\j=l2.length-y/\y<=l2.length/\FT op cp (l2.length*i+y)) 500 0 281474976710656 ?_ (j:=_) (env2:=_) (A2:=_) ?_ ?_ ?_ ?_ ⟨0,b,cp,op,rfl,rfl,rfl,oM,hT⟩))))))))))))))))))
     rotate_left
     ·omega
     ·omega
     ·exact lL
     ·exact(.q (.q (.q (.q (.q (.q (.q (.q .slnil))))))))
     rintro n hn j _ _ ⟨y,b,cp,op,rfl,rfl,rfl,hy,hT2⟩;refine rS (dB J J (fun h47=>?_) (fun h47=>?_))
     ·refine Q0 (rQ (Y0 J (Q1 (W0 (rQ (W1 (rS (kM J (kM J (Q0 (rS (kM J (aX J J oM (kM J (Q0 (rS (kM J (kM J (kM J (kM J (eG J J (kG (fP J J hLO44 hBO45 sM J J (rI ?_))))))))))))))))))))))))
      refine aY J J (fun b48=>(kZ (Q6 J J .here rfl rfl rfl rfl (Q0 (⟨_,.h2,(W1 (rS (kM J (Q0 (rQ (rS (aH J (aL J .here rfl (aH J (aL J .h6 J (kO (cK J (dB J J (fun h49=>?_) (fun h49=>?_))))))))))))))⟩)))))
      ·refine kM J (kG (Q2 J (kG (Y1 J .here rfl (kG (Q2 J (kG (Y1 J .h6 J (kG (cK J (kG (W5 J J (fun h50=>?_) (fun h50=>?_)))))))))))))
       ·refine cA J J J (Q0 (Y0 J (rI (aH J (aL J .h6 J (aH J (aL J .here rfl (cN (j:=i) J J oM oM (kO (dM J .h8 (by first|omega|(simp;done)|(simp;omega)) (aH J (aL J .h6 J (aH J (aL J .here rfl (cN (j:=y) J J oM oM (kO (dM J .h7 (by first|omega|(simp;done)|(simp;omega)) (aV J J (qD (by first|exact fI hp1 _|exact oC _ _) (by first|exact fI hp2 _|exact fI (lZ hp2 oM oM) _|exact oC _ _)) (kM J (Q0 (W0 (rI (aL J .h5 J (kM J (kO (bF J J J (fun b51=>?_)))))))))))))))))))))))))))
        refine kO (cO J J (fK.own .here rfl sM) .h2 (by rw[bU,fD,Nat.mul_one]) (fS hT2) dE oM oM (fun b52=>(kZ (cY J J .h6 J J (Q0 (Z1 (⟨_,.h3,(eP J (Q0 (U0 J (Q1 (Z1 (W0 (rI (aX J J oM (kM J (Q0 (W0 ?_)))))))))))⟩)))))));exact⟨rfl,_,_,_,(show l2.length-(y+1)<l2.length-y from oM),lL,(.q (.cons _ (.cons _ (.q (.q (.q (.q (.q (.q (.q .slnil)))))))))),⟨y+1,b52,_,_,rfl,(by simp only[List.set_cons_zero];first|(rw[gI (n:=l2.length) (i:=i) (y:=y) oM];first|done|rfl)|(rw[cX (al:=fG l1) (up:=cT ww) (n:=l2.length) (i:=i) (y:=y) oM (.inl oM)];first|done|rfl)|(rw[cX (al:=fG l1) (up:=cT ww) (n:=l2.length) (i:=i) (y:=y) oM (.inr oM)];first|done|rfl)),rfl,oM,(.inl ⟨rfl,rfl⟩)⟩⟩
       ·refine cA J J J (Q0 (U0 J (Q1 (W0 (rI (aL J .h5 J (kM J (kO (bF J J J (fun b53=>(kO (cO J J (fK.own .here rfl sM) .h2 (by rw[bU,fD,Nat.mul_one]) (fS hT2) dE oM oM (fun b54=>(kZ (cY J J .h6 J J (Q0 (Z1 (⟨_,.h3,(eP J (Q0 (U0 J (Q1 (Z1 (W0 (rI (aX J J oM (kM J (Q0 ?_))))))))))⟩))))))))))))))))))
        refine W0 ?_;exact⟨rfl,_,_,_,(show l2.length-(y+1)<l2.length-y from oM),lL,(.q (.cons _ (.cons _ (.q (.q (.q (.q (.q (.q (.q .slnil)))))))))),⟨y+1,b54,_,_,rfl,(by simp only[List.set_cons_zero];first|(rw[gI (n:=l2.length) (i:=i) (y:=y) oM];first|done|rfl)|(rw[cX (al:=fG l1) (up:=cT ww) (n:=l2.length) (i:=i) (y:=y) oM (.inl oM)];first|done|rfl)|(rw[cX (al:=fG l1) (up:=cT ww) (n:=l2.length) (i:=i) (y:=y) oM (.inr oM)];first|done|rfl)),rfl,oM,(.inl ⟨rfl,rfl⟩)⟩⟩
      ·refine kM J (V0 (V0 (V0 (V0 (V0 (V0 (bK J J J (Q0 (U0 J (Q1 (W0 (rI (aL J .h5 J (kM J (kO (bF J J J (fun b55=>(kO (cO J J (fK.own .here rfl sM) .h2 (by rw[bU,fD,Nat.mul_one]) (fS hT2) dE oM oM (fun b56=>(kZ (cY J J .h6 J J (Q0 (Z1 (⟨_,.h3,(eP J (Q0 (U0 J ?_)))⟩)))))))))))))))))))))))))
       refine Q1 (Z1 (W0 (rI (aX J J oM (kM J (Q0 (W0 ?_)))))));exact⟨rfl,_,_,_,(show l2.length-(y+1)<l2.length-y from oM),lL,(.q (.cons _ (.cons _ (.q (.q (.q (.q (.q (.q (.q .slnil)))))))))),⟨y+1,b56,_,_,rfl,(by simp only[List.set_cons_zero];first|(rw[gI (n:=l2.length) (i:=i) (y:=y) oM];first|done|rfl)|(rw[cX (al:=fG l1) (up:=cT ww) (n:=l2.length) (i:=i) (y:=y) oM (.inl oM)];first|done|rfl)|(rw[cX (al:=fG l1) (up:=cT ww) (n:=l2.length) (i:=i) (y:=y) oM (.inr oM)];first|done|rfl)),rfl,oM,(.inl ⟨rfl,rfl⟩)⟩⟩
     ·refine Q0 (rQ (U0 J (Y4 (Z2 (Z2 (Q3 (Z1 (W0 (rI (aX J J oM (kM J (Q0 (W0 ?_)))))))))))))
      have hyl:y=l2.length:=oM;subst hyl;exact⟨rfl,_,_,_,(show l1.length-(i+1)<l1.length-i from oM),lL,(.q (.q (.q (.q (.q (.q (.q (.q .slnil)))))))),⟨i+1,b,_,_,rfl,rfl,rfl,oM,hT2⟩⟩
    ·refine Q0 (rQ (U0 J (Y4 (Z2 (Z2 (Q3 (bH .nil (.inl ⟨_,.h1,(Z1 (W0 (rS (aL J .h3 J (aH J (aL J .h4 J (kM J (kM J (kM J (Q0 (V2 ?_)))))))))))⟩))))))))
     have hil:i=l1.length:=oM
     subst hil;obtain⟨rfl,rfl⟩:=CJ hT (Nat.mul_pos oM oM);exact lG J J J (.cons .h1 .nil) (.q (.cons _ (.cons _ (.cons _ (.cons _ (.cons _ .slnil)))))) (.inl ⟨oM,b,rfl,rfl⟩)
   ·refine kO (Z4 J J (fun s1 h1=>lH _ _ _ _ s1 h1.wf oM (hl1.ext hs h1.2.1) hp1) (fun v1 A1 q1=>?_))
    obtain⟨b57,rfl,rfl⟩:=q1;refine kZ (aK J J .h2 J (by simp[eqV,eqA,eqL,kindEq,aB,V5 hl1.spot,V5 hl2.spot]) (kZ (aK J J .h2 J (by simp[eqV,eqA,eqL,kindEq,aB,V5 hl1.spot,V5 hl2.spot]) (kO (Z4 J J (fun s1 h1=>wR _ ww s1 h1.wf oM) (fun v1 A1 q1=>?_))))));obtain⟨b58,rfl,rfl⟩:=q1;refine kZ (aK J J .h3 J (by simp[eqV,eqA,eqL,kindEq,aB,V5 hl1.spot,V5 hl2.spot]) (eG J J (kZ (Q6 J J .h2 J J J J (kZ (aK J J .h3 J (by simp[eqV,eqA,eqL,kindEq,aB,V5 hl1.spot,V5 hl2.spot]) (kM J (Q0 (V2 (nW J dE .nil .h2 J J (kM J (eK J J (eK J J (aY J J (fun b59=>(kZ (Q6 J J .here rfl rfl rfl rfl (kM J (Q0 (rQ (rS (kM J (eP J (Q0 (Y0 J (rS (kM J (kM J ?_))))))))))))))))))))))))))));refine kM J (Q0 (V2 (W3 (lG J J J .nil (List.nil_sublist _) (.inr ⟨?_,rfl,rfl⟩)))))
    first|omega|(intro h;omega)
  ·refine kG (U6 J (bK J J J (Q0 (Y0 J (rS (kM J (kM J (kM J (Q0 (V2 (W3 (lG J J J .nil (List.nil_sublist _) (.inr ⟨?_,rfl,rfl⟩)))))))))))))
   first|omega|(intro h;omega)
 ·subst hkey
  refine kM J (eK J J (eK J J (kM J (kM J (Q0 (rQ (rS (kM J (eP J (kM J (kG (V4 J dE .h2 J (kG (Q2 J (kG (Y1 J .h1 J (kG (Q2 J (kG (Y1 J .h1 J (kG (bB J J (fun s1 h1=>DE _ _ _ _ _ _ _ _ _ _ _ _ _ s1 h1.wf oM (hl1.ext hs h1.2.1) (hl2.ext hs h1.2.1)) (fun h60=>?_) (fun h60=>?_)))))))))))))))))))))))
  ·have hhas:=h60
   obtain⟨ws,rfl⟩:∃q:Nat,ws=(q:Int):=⟨ws.toNat,oM⟩;obtain⟨ww,rfl⟩:∃q:Nat,ww=(q:Int):=⟨ww.toNat,oM⟩;have ho1:=kF (x:=ws);have ho2:=kF (x:=ww);have hw1:=eN (l:=l1);have hw2:=eN (l:=l2);have hw3:=eN (l:=l2.take (ww+1));have hw4:(l2.take (ww+1)).length=ww+1:=by rw[List.length_take];omega
   refine kG (U6 J (bK J J J (Q0 (U0 J (Q1 (W0 (rS (kM J (dD J dE .h2 J (dD J dE .h1 J (eG J J (kG (bI J J KU rfl ?_)))))))))))));unfold Gt;refine rS (aZ J J J (fun b61=>(aY J J (fun b62=>(kM J (Q0 (rS (aH J (aH J (aL J .h1 J (aH J (aH J (aL J .h1 J (aH J (aH J (aL J .h1 J (kO (bV J J (fun h63=>?_) (fun h63=>?_)))))))))))))))))))
   ·refine kO (Z4 J J (fun s1 h1=>wR _ ws s1 h1.wf oM) (fun v1 A1 q1=>?_))
    obtain⟨b64,rfl,rfl⟩:=q1;refine kZ (aK J J .h2 J (by simp[eqV,eqA,eqL,kindEq,aB,V5 hl1.spot,V5 hl2.spot]) (kZ (aK J J .h2 J (by simp[eqV,eqA,eqL,kindEq,aB,V5 hl1.spot,V5 hl2.spot]) (kO (Z4 J J (fun s1 h1=>lH _ _ _ _ s1 h1.wf oM (hl2.ext hs h1.2.1) hp2) (fun v1 A1 q1=>?_))))));obtain⟨b65,rfl,rfl⟩:=q1;refine kZ (aK J J .h3 J (by simp[eqV,eqA,eqL,kindEq,aB,V5 hl1.spot,V5 hl2.spot]) (eG J J (kZ (Q6 J J .h2 J J J J (kZ (aK J J .h3 J (by simp[eqV,eqA,eqL,kindEq,aB,V5 hl1.spot,V5 hl2.spot]) (kM J (Q0 (V2 (nW J dE .nil .h2 J J (kM J (eK J J (eK J J (aY J J (fun b66=>(kZ (Q6 J J .here rfl rfl rfl rfl (kM J (Q0 (rQ (rS (kM J (eP J (Q0 (U0 J (Q1 (W0 (rS ?_))))))))))))))))))))))))))));refine kO (bF J J J (fun b67=>(aY J J (fun b68=>(kZ (cY J J .here rfl rfl (Q0 (rQ (rS (dD J dE .h9 J (kG (bI J J jH rfl ?_))))))))))));unfold pA;refine rS (aZ J J J (fun b69=>(kM J (Q0 (rS (kO (lF J J (kM J (Q0 (V2 (eO J .nil (Q0 (W1 (jM J jI rfl (fun q70 l71 LO72 BO73 hLO72 hBO73=>?_)))))))))))))));unfold pB;refine kQ .h4 (rS (kM J (Q0 (rS (aH J (aL J .h3 J (aJ J hl1.spot (kM J (Q0 (W1 (U4 (fun j e A=>∃(i b cp:Nat) (op:Bool),e=[(0,.func (.yield l71) ⟨[]⟩ ⟨[]⟩),(1,.pointer (some ⟨b69,0,none⟩)),(3,.int .i64 ((l2.length*i:Nat):Int)),(8,.int .i64 (l1.length:Int)),(9,.int .i64 (i:Int))]/\A=(.row b 3 op (ints (kY (cT ws) (fG l2) l2.length (l2.length*i)))::(LO72::(.dfr q70::(.row b69 33 false ([.int .i64 d,.int .i64 r,.slice a1 l1.length c1,.slice a2 l2.length c2,.int .i64 al,.int .i64 up])::(.row b68 22 false ([.slice (some ⟨b,0,none⟩) (l2.length*i+1) cp])::(.row b66 175 false ([.slice (some ⟨b64,0,none⟩) (ws+1) (ws+1),.slice (some ⟨b65,0,none⟩) (l2.length) (l2.length),.int .i64 180000])::(.row b65 3 false (ints (fG l2))::(.row b64 3 false (ints (cT ws))::[]))))))))/\j=l1.length-i/\i<=l1.length/\FT op cp (l2.length*i)) 700 281474976710656 281474976710656 ?_ (j:=_) (env2:=_) (A2:=_) ?_ ?_ ?_ ?_ ⟨0,b67,1,false,rfl,rfl,rfl,oM,(.inr ⟨rfl,rfl,rfl⟩)⟩)))))))))))
    rotate_left
    ·omega
    ·omega
    ·exact lL
    ·exact(.q (.q (.q (.q (.q (.q (.q (.q (.cons _ (.cons _ (.cons _ (.cons _ (.cons _ .slnil)))))))))))))
    rintro n hn j _ _ ⟨i,b,cp,op,rfl,rfl,rfl,hi,hT⟩;have hq9:=uA (x:=(l2.length:Int)) (y:=(i:Int)) oM oM;have hq8:((l2.length*i:Nat):Int)=(l2.length:Int)*(i:Int):=sM
    refine rS (dB J J (fun h74=>?_) (fun h74=>?_))
    ·refine Q0 (rQ (Y0 J (Q1 (W0 (rQ (W1 (rS (kM J (kM J (Q0 (rS (aH J (aL J .h3 J (aJ J hl2.spot (kM J (Q0 (W1 (U4 (fun j e A=>∃(y b cp:Nat) (op:Bool),e=[(0,.func (.yield l71) ⟨[]⟩ ⟨[]⟩),(1,.pointer (some ⟨b69,0,none⟩)),(3,.int .i64 ((l2.length*i+y:Nat):Int)),(4,.int .i64 (i:Int)),(8,.int .i64 (l1.length:Int)),(9,.int .i64 (i:Int)),(14,.int .i64 (l2.length:Int)),(15,.int .i64 (y:Int))]/\A=(.row b 3 op (ints (kY (cT ws) (fG l2) l2.length (l2.length*i+y)))::(LO72::(.dfr q70::(.row b69 33 false ([.int .i64 d,.int .i64 r,.slice a1 l1.length c1,.slice a2 l2.length c2,.int .i64 al,.int .i64 up])::(.row b68 22 false ([.slice (some ⟨b,0,none⟩) (l2.length*i+y+1) cp])::(.row b66 175 false ([.slice (some ⟨b64,0,none⟩) (ws+1) (ws+1),.slice (some ⟨b65,0,none⟩) (l2.length) (l2.length),.int .i64 180000])::(.row b65 3 false (ints (fG l2))::(.row b64 3 false (ints (cT ws))::[]))))))))/\j=l2.length-y/\y<=l2.length/\FT op cp (l2.length*i+y)) 500 0 281474976710656 ?_ (j:=_) (env2:=_) (A2:=_) ?_ ?_ ?_ ?_ ⟨0,b,cp,op,rfl,rfl,rfl,oM,hT⟩))))))))))))))))))
     rotate_left
     ·omega
     ·omega
     ·exact lL
     ·exact(.q (.q (.q (.q (.q (.q (.q (.q .slnil))))))))
     rintro n hn j _ _ ⟨y,b,cp,op,rfl,rfl,rfl,hy,hT2⟩;refine rS (dB J J (fun h75=>?_) (fun h75=>?_))
     ·refine Q0 (rQ (Y0 J (Q1 (W0 (rQ (W1 (rS (kM J (kM J (Q0 (rS (kM J (aX J J oM (kM J (Q0 (rS (kM J (kM J (kM J (kM J (eG J J (kG (fP J J hLO72 hBO73 sM J J (rI ?_))))))))))))))))))))))))
      refine aY J J (fun b76=>(kZ (Q6 J J .here rfl rfl rfl rfl (Q0 (⟨_,.h2,(W1 (rS (kM J (Q0 (rQ (rS (aH J (aL J .here rfl (aH J (aL J .h6 J (kO (cK J (dB J J (fun h77=>?_) (fun h77=>?_))))))))))))))⟩)))))
      ·refine kM J (kG (Q2 J (kG (Y1 J .here rfl (kG (Q2 J (kG (Y1 J .h6 J (kG (cK J (kG (W5 J J (fun h78=>?_) (fun h78=>?_)))))))))))))
       ·refine cA J J J (Q0 (Y0 J (rI (aH J (aL J .h6 J (aH J (aL J .here rfl (cN (j:=i) J J oM oM (kO (dM J .h8 (by first|omega|(simp;done)|(simp;omega)) (aH J (aL J .h6 J (aH J (aL J .here rfl (cN (j:=y) J J oM oM (kO (dM J .h7 (by first|omega|(simp;done)|(simp;omega)) (aV J J (qD (by first|exact fI hp1 _|exact oC _ _) (by first|exact fI hp2 _|exact fI (lZ hp2 oM oM) _|exact oC _ _)) (kM J (Q0 (W0 (rI (aL J .h5 J (kM J (kO (bF J J J (fun b79=>?_)))))))))))))))))))))))))))
        refine kO (cO J J (fK.own .here rfl sM) .h2 (by rw[bU,fD,Nat.mul_one]) (fS hT2) dE oM oM (fun b80=>(kZ (cY J J .h6 J J (Q0 (Z1 (⟨_,.h3,(eP J (Q0 (U0 J (Q1 (Z1 (W0 (rI (aX J J oM (kM J (Q0 (W0 ?_)))))))))))⟩)))))));exact⟨rfl,_,_,_,(show l2.length-(y+1)<l2.length-y from oM),lL,(.q (.cons _ (.cons _ (.q (.q (.q (.q (.q (.q (.q .slnil)))))))))),⟨y+1,b80,_,_,rfl,(by simp only[List.set_cons_zero];first|(rw[gI (n:=l2.length) (i:=i) (y:=y) oM];first|done|rfl)|(rw[cX (al:=cT ws) (up:=fG l2) (n:=l2.length) (i:=i) (y:=y) oM (.inl oM)];first|done|rfl)|(rw[cX (al:=cT ws) (up:=fG l2) (n:=l2.length) (i:=i) (y:=y) oM (.inr oM)];first|done|rfl)),rfl,oM,(.inl ⟨rfl,rfl⟩)⟩⟩
       ·refine cA J J J (Q0 (U0 J (Q1 (W0 (rI (aL J .h5 J (kM J (kO (bF J J J (fun b81=>(kO (cO J J (fK.own .here rfl sM) .h2 (by rw[bU,fD,Nat.mul_one]) (fS hT2) dE oM oM (fun b82=>(kZ (cY J J .h6 J J (Q0 (Z1 (⟨_,.h3,(eP J (Q0 (U0 J (Q1 (Z1 (W0 (rI (aX J J oM (kM J (Q0 ?_))))))))))⟩))))))))))))))))))
        refine W0 ?_;exact⟨rfl,_,_,_,(show l2.length-(y+1)<l2.length-y from oM),lL,(.q (.cons _ (.cons _ (.q (.q (.q (.q (.q (.q (.q .slnil)))))))))),⟨y+1,b82,_,_,rfl,(by simp only[List.set_cons_zero];first|(rw[gI (n:=l2.length) (i:=i) (y:=y) oM];first|done|rfl)|(rw[cX (al:=cT ws) (up:=fG l2) (n:=l2.length) (i:=i) (y:=y) oM (.inl oM)];first|done|rfl)|(rw[cX (al:=cT ws) (up:=fG l2) (n:=l2.length) (i:=i) (y:=y) oM (.inr oM)];first|done|rfl)),rfl,oM,(.inl ⟨rfl,rfl⟩)⟩⟩
      ·refine kM J (V0 (V0 (V0 (V0 (V0 (V0 (bK J J J (Q0 (U0 J (Q1 (W0 (rI (aL J .h5 J (kM J (kO (bF J J J (fun b83=>(kO (cO J J (fK.own .here rfl sM) .h2 (by rw[bU,fD,Nat.mul_one]) (fS hT2) dE oM oM (fun b84=>(kZ (cY J J .h6 J J (Q0 (Z1 (⟨_,.h3,(eP J (Q0 (U0 J ?_)))⟩)))))))))))))))))))))))))
       refine Q1 (Z1 (W0 (rI (aX J J oM (kM J (Q0 (W0 ?_)))))));exact⟨rfl,_,_,_,(show l2.length-(y+1)<l2.length-y from oM),lL,(.q (.cons _ (.cons _ (.q (.q (.q (.q (.q (.q (.q .slnil)))))))))),⟨y+1,b84,_,_,rfl,(by simp only[List.set_cons_zero];first|(rw[gI (n:=l2.length) (i:=i) (y:=y) oM];first|done|rfl)|(rw[cX (al:=cT ws) (up:=fG l2) (n:=l2.length) (i:=i) (y:=y) oM (.inl oM)];first|done|rfl)|(rw[cX (al:=cT ws) (up:=fG l2) (n:=l2.length) (i:=i) (y:=y) oM (.inr oM)];first|done|rfl)),rfl,oM,(.inl ⟨rfl,rfl⟩)⟩⟩
     ·refine Q0 (rQ (U0 J (Y4 (Z2 (Z2 (Q3 (Z1 (W0 (rI (aX J J oM (kM J (Q0 (W0 ?_)))))))))))))
      have hyl:y=l2.length:=oM;subst hyl;exact⟨rfl,_,_,_,(show l1.length-(i+1)<l1.length-i from oM),lL,(.q (.q (.q (.q (.q (.q (.q (.q .slnil)))))))),⟨i+1,b,_,_,rfl,rfl,rfl,oM,hT2⟩⟩
    ·refine Q0 (rQ (U0 J (Y4 (Z2 (Z2 (Q3 (bH .nil (.inl ⟨_,.h1,(Z1 (W0 (rS (aL J .h3 J (aH J (aL J .h4 J (kM J (kM J (kM J (Q0 (V2 ?_)))))))))))⟩))))))))
     have hil:i=l1.length:=oM
     subst hil;obtain⟨rfl,rfl⟩:=CJ hT (Nat.mul_pos oM oM);exact lG J J J (.cons .h1 .nil) (.q (.cons _ (.cons _ (.cons _ (.cons _ (.cons _ .slnil)))))) (.inl ⟨oM,b,rfl,rfl⟩)
   ·refine kO (Z4 J J (fun s1 h1=>wR _ ws s1 h1.wf oM) (fun v1 A1 q1=>?_))
    obtain⟨b85,rfl,rfl⟩:=q1;refine kZ (aK J J .h2 J (by simp[eqV,eqA,eqL,kindEq,aB,V5 hl1.spot,V5 hl2.spot]) (kZ (aK J J .h2 J (by simp[eqV,eqA,eqL,kindEq,aB,V5 hl1.spot,V5 hl2.spot]) (kO (Z4 J J (fun s1 h1=>lH _ _ _ _ s1 h1.wf oM (hl2.ext hs h1.2.1) hp2) (fun v1 A1 q1=>?_))))));obtain⟨b86,rfl,rfl⟩:=q1;refine kZ (aK J J .h3 J (by simp[eqV,eqA,eqL,kindEq,aB,V5 hl1.spot,V5 hl2.spot]) (eG J J (kZ (Q6 J J .h2 J J J J (kZ (aK J J .h3 J (by simp[eqV,eqA,eqL,kindEq,aB,V5 hl1.spot,V5 hl2.spot]) (kM J (Q0 (V2 (nW J dE .nil .h2 J J (kM J (eK J J (eK J J (aY J J (fun b87=>(kZ (Q6 J J .here rfl rfl rfl rfl (kM J (Q0 (rQ (rS (kM J (eP J (Q0 (Y0 J (rS (kM J (kM J ?_))))))))))))))))))))))))))));refine kM J (Q0 (V2 (W3 (lG J J J .nil (List.nil_sublist _) (.inr ⟨?_,rfl,rfl⟩)))))
    first|omega|(intro h;omega)
  ·refine kG (U6 J (bK J J J (Q0 (Y0 J (rS (kM J (kM J (kM J (Q0 (V2 (W3 (lG J J J .nil (List.nil_sublist _) (.inr ⟨?_,rfl,rfl⟩)))))))))))))
   first|omega|(intro h;omega)
 ·subst hkey
  refine kM J (eK J J (eK J J (kM J (kM J (Q0 (rQ (rS (kM J (eP J (kM J (kG (V4 J dE .h2 J (kG (Q2 J (kG (Y1 J .h1 J (kG (Q2 J (kG (Y1 J .h1 J (kG (bB J J (fun s1 h1=>DE _ _ _ _ _ _ _ _ _ _ _ _ _ s1 h1.wf oM (hl1.ext hs h1.2.1) (hl2.ext hs h1.2.1)) (fun h88=>?_) (fun h88=>?_)))))))))))))))))))))))
  ·have hhas:=h88
   obtain⟨ws,rfl⟩:∃q:Nat,ws=(q:Int):=⟨ws.toNat,oM⟩;obtain⟨ww,rfl⟩:∃q:Nat,ww=(q:Int):=⟨ww.toNat,oM⟩;have ho1:=kF (x:=ws);have ho2:=kF (x:=ww);have hw1:=eN (l:=l1);have hw2:=eN (l:=l2);have hw3:=eN (l:=l2.take (ww+1));have hw4:(l2.take (ww+1)).length=ww+1:=by rw[List.length_take];omega
   refine kG (U6 J (bK J J J (Q0 (U0 J (Q1 (W0 (rS (kM J (dD J dE .h2 J (dD J dE .h1 J (eG J J (kG (bI J J KV rfl ?_)))))))))))));unfold Gu;refine rS (aZ J J J (fun b89=>(aY J J (fun b90=>(kM J (Q0 (rS (aH J (aH J (aL J .h1 J (aH J (aH J (aL J .h1 J (kO (Z4 J J (fun s1 h1=>wR _ ws s1 h1.wf oM) (fun v1 A1 q1=>?_))))))))))))))));obtain⟨b91,rfl,rfl⟩:=q1;refine kZ (aK J J .h2 J (by simp[eqV,eqA,eqL,kindEq,aB,V5 hl1.spot,V5 hl2.spot]) (kO (Z4 J J (fun s1 h1=>wR _ ww s1 h1.wf oM) (fun v1 A1 q1=>?_))));obtain⟨b92,rfl,rfl⟩:=q1;refine eG J J (kZ (Q6 J J .h2 J J J J (kM J (Q0 (V2 (nW J dE .nil .h2 J J (kM J (eK J J (eK J J (aY J J (fun b93=>(kZ (Q6 J J .here rfl rfl rfl rfl (kM J (Q0 (rQ (rS (kM J (eP J (Q0 (U0 J (Q1 (W0 (rS (kO (bF J J J (fun b94=>(aY J J (fun b95=>?_)))))))))))))))))))))))))))));refine kZ (cY J J .here rfl rfl (Q0 (rQ (rS (dD J dE .h9 J (kG (bI J J jH rfl ?_)))))));unfold pA;refine rS (aZ J J J (fun b96=>(kM J (Q0 (rS (kO (lF J J (kM J (Q0 (V2 (eO J .nil (Q0 (W1 (jM J jI rfl (fun q97 l98 LO99 BO100 hLO99 hBO100=>?_)))))))))))))));unfold pB;refine kQ .h4 (rS (kM J (Q0 (rS (aH J (aL J .h3 J (aJ J hl1.spot (kM J (Q0 (W1 (U4 (fun j e A=>∃(i b cp:Nat) (op:Bool),e=[(0,.func (.yield l98) ⟨[]⟩ ⟨[]⟩),(1,.pointer (some ⟨b96,0,none⟩)),(3,.int .i64 ((l2.length*i:Nat):Int)),(8,.int .i64 (l1.length:Int)),(9,.int .i64 (i:Int))]/\A=(.row b 3 op (ints (kY (cT ws) (cT ww) l2.length (l2.length*i)))::(LO99::(.dfr q97::(.row b96 33 false ([.int .i64 d,.int .i64 r,.slice a1 l1.length c1,.slice a2 l2.length c2,.int .i64 al,.int .i64 up])::(.row b95 22 false ([.slice (some ⟨b,0,none⟩) (l2.length*i+1) cp])::(.row b93 175 false ([.slice (some ⟨b91,0,none⟩) (ws+1) (ws+1),.slice (some ⟨b92,0,none⟩) (ww+1) (ww+1),.int .i64 1])::(.row b92 3 false (ints (cT ww))::(.row b91 3 false (ints (cT ws))::[]))))))))/\j=l1.length-i/\i<=l1.length/\FT op cp (l2.length*i)) 700 281474976710656 281474976710656 ?_ (j:=_) (env2:=_) (A2:=_) ?_ ?_ ?_ ?_ ⟨0,b94,1,false,rfl,rfl,rfl,oM,(.inr ⟨rfl,rfl,rfl⟩)⟩)))))))))))
   rotate_left
   ·omega
   ·omega
   ·exact lL
   ·exact(.q (.q (.q (.q (.q (.q (.q (.q (.cons _ (.cons _ (.cons _ (.cons _ (.cons _ .slnil)))))))))))))
   rintro n hn j _ _ ⟨i,b,cp,op,rfl,rfl,rfl,hi,hT⟩;have hq9:=uA (x:=(l2.length:Int)) (y:=(i:Int)) oM oM;have hq8:((l2.length*i:Nat):Int)=(l2.length:Int)*(i:Int):=sM
   refine rS (dB J J (fun h101=>?_) (fun h101=>?_))
   ·refine Q0 (rQ (Y0 J (Q1 (W0 (rQ (W1 (rS (kM J (kM J (Q0 (rS (aH J (aL J .h3 J (aJ J hl2.spot (kM J (Q0 (W1 (U4 (fun j e A=>∃(y b cp:Nat) (op:Bool),e=[(0,.func (.yield l98) ⟨[]⟩ ⟨[]⟩),(1,.pointer (some ⟨b96,0,none⟩)),(3,.int .i64 ((l2.length*i+y:Nat):Int)),(4,.int .i64 (i:Int)),(8,.int .i64 (l1.length:Int)),(9,.int .i64 (i:Int)),(14,.int .i64 (l2.length:Int)),(15,.int .i64 (y:Int))]/\A=(.row b 3 op (ints (kY (cT ws) (cT ww) l2.length (l2.length*i+y)))::(LO99::(.dfr q97::(.row b96 33 false ([.int .i64 d,.int .i64 r,.slice a1 l1.length c1,.slice a2 l2.length c2,.int .i64 al,.int .i64 up])::(.row b95 22 false ([.slice (some ⟨b,0,none⟩) (l2.length*i+y+1) cp])::(.row b93 175 false ([.slice (some ⟨b91,0,none⟩) (ws+1) (ws+1),.slice (some ⟨b92,0,none⟩) (ww+1) (ww+1),.int .i64 1])::(.row b92 3 false (ints (cT ww))::(.row b91 3 false (ints (cT ws))::[]))))))))/\j=l2.length-y/\y<=l2.length/\FT op cp (l2.length*i+y)) 500 0 281474976710656 ?_ (j:=_) (env2:=_) (A2:=_) ?_ ?_ ?_ ?_ ⟨0,b,cp,op,rfl,rfl,rfl,oM,hT⟩))))))))))))))))))
    rotate_left
    ·omega
    ·omega
    ·exact lL
    ·exact(.q (.q (.q (.q (.q (.q (.q (.q .slnil))))))))
    rintro n hn j _ _ ⟨y,b,cp,op,rfl,rfl,rfl,hy,hT2⟩;refine rS (dB J J (fun h102=>?_) (fun h102=>?_))
    ·refine Q0 (rQ (Y0 J (Q1 (W0 (rQ (W1 (rS (kM J (kM J (Q0 (rS (kM J (aX J J oM (kM J (Q0 (rS (kM J (kM J (kM J (kM J (eG J J (kG (fP J J hLO99 hBO100 sM J J (rI ?_))))))))))))))))))))))))
     refine aY J J (fun b103=>(kZ (Q6 J J .here rfl rfl rfl rfl (Q0 (⟨_,.h2,(W1 (rS (kM J (Q0 (rQ (rS (aH J (aL J .here rfl (aH J (aL J .h6 J (kO (cK J (dB J J (fun h104=>?_) (fun h104=>?_))))))))))))))⟩)))))
     ·refine kM J (kG (Q2 J (kG (Y1 J .here rfl (kG (Q2 J (kG (Y1 J .h6 J (kG (cK J (kG (W5 J J (fun h105=>?_) (fun h105=>?_)))))))))))))
      ·refine cA J J J (Q0 (Y0 J (rI (aH J (aL J .h6 J (aH J (aL J .here rfl (cN (j:=i) J J oM oM (kO (dM J .h8 (by first|omega|(simp;done)|(simp;omega)) (aH J (aL J .h6 J (aH J (aL J .here rfl (cN (j:=y) J J oM oM (kO (dM J .h7 (by first|omega|(simp;done)|(simp;omega)) (aV J J (qD (by first|exact fI hp1 _|exact oC _ _) (by first|exact fI hp2 _|exact fI (lZ hp2 oM oM) _|exact oC _ _)) (kM J (Q0 (W0 (rI (aL J .h5 J (kM J (kO (bF J J J (fun b106=>?_)))))))))))))))))))))))))))
       refine kO (cO J J (fK.own .here rfl sM) .h2 (by rw[bU,fD,Nat.mul_one]) (fS hT2) dE oM oM (fun b107=>(kZ (cY J J .h6 J J (Q0 (Z1 (⟨_,.h3,(eP J (Q0 (U0 J (Q1 (Z1 (W0 (rI (aX J J oM (kM J (Q0 (W0 ?_)))))))))))⟩)))))));exact⟨rfl,_,_,_,(show l2.length-(y+1)<l2.length-y from oM),lL,(.q (.cons _ (.cons _ (.q (.q (.q (.q (.q (.q (.q .slnil)))))))))),⟨y+1,b107,_,_,rfl,(by simp only[List.set_cons_zero];first|(rw[gI (n:=l2.length) (i:=i) (y:=y) oM];first|done|rfl)|(rw[cX (al:=cT ws) (up:=cT ww) (n:=l2.length) (i:=i) (y:=y) oM (.inl oM)];first|done|rfl)|(rw[cX (al:=cT ws) (up:=cT ww) (n:=l2.length) (i:=i) (y:=y) oM (.inr oM)];first|done|rfl)),rfl,oM,(.inl ⟨rfl,rfl⟩)⟩⟩
      ·refine cA J J J (Q0 (U0 J (Q1 (W0 (rI (aL J .h5 J (kM J (kO (bF J J J (fun b108=>(kO (cO J J (fK.own .here rfl sM) .h2 (by rw[bU,fD,Nat.mul_one]) (fS hT2) dE oM oM (fun b109=>(kZ (cY J J .h6 J J (Q0 (Z1 (⟨_,.h3,(eP J (Q0 (U0 J (Q1 (Z1 (W0 (rI (aX J J oM (kM J (Q0 ?_))))))))))⟩))))))))))))))))))
       refine W0 ?_;exact⟨rfl,_,_,_,(show l2.length-(y+1)<l2.length-y from oM),lL,(.q (.cons _ (.cons _ (.q (.q (.q (.q (.q (.q (.q .slnil)))))))))),⟨y+1,b109,_,_,rfl,(by simp only[List.set_cons_zero];first|(rw[gI (n:=l2.length) (i:=i) (y:=y) oM];first|done|rfl)|(rw[cX (al:=cT ws) (up:=cT ww) (n:=l2.length) (i:=i) (y:=y) oM (.inl oM)];first|done|rfl)|(rw[cX (al:=cT ws) (up:=cT ww) (n:=l2.length) (i:=i) (y:=y) oM (.inr oM)];first|done|rfl)),rfl,oM,(.inl ⟨rfl,rfl⟩)⟩⟩
     ·refine kM J (V0 (V0 (V0 (V0 (V0 (V0 (bK J J J (Q0 (U0 J (Q1 (W0 (rI (aL J .h5 J (kM J (kO (bF J J J (fun b110=>(kO (cO J J (fK.own .here rfl sM) .h2 (by rw[bU,fD,Nat.mul_one]) (fS hT2) dE oM oM (fun b111=>(kZ (cY J J .h6 J J (Q0 (Z1 (⟨_,.h3,(eP J (Q0 (U0 J ?_)))⟩)))))))))))))))))))))))))
      refine Q1 (Z1 (W0 (rI (aX J J oM (kM J (Q0 (W0 ?_)))))));exact⟨rfl,_,_,_,(show l2.length-(y+1)<l2.length-y from oM),lL,(.q (.cons _ (.cons _ (.q (.q (.q (.q (.q (.q (.q .slnil)))))))))),⟨y+1,b111,_,_,rfl,(by simp only[List.set_cons_zero];first|(rw[gI (n:=l2.length) (i:=i) (y:=y) oM];first|done|rfl)|(rw[cX (al:=cT ws) (up:=cT ww) (n:=l2.length) (i:=i) (y:=y) oM (.inl oM)];first|done|rfl)|(rw[cX (al:=cT ws) (up:=cT ww) (n:=l2.length) (i:=i) (y:=y) oM (.inr oM)];first|done|rfl)),rfl,oM,(.inl ⟨rfl,rfl⟩)⟩⟩
    ·refine Q0 (rQ (U0 J (Y4 (Z2 (Z2 (Q3 (Z1 (W0 (rI (aX J J oM (kM J (Q0 (W0 ?_)))))))))))))
     have hyl:y=l2.length:=oM;subst hyl;exact⟨rfl,_,_,_,(show l1.length-(i+1)<l1.length-i from oM),lL,(.q (.q (.q (.q (.q (.q (.q (.q .slnil)))))))),⟨i+1,b,_,_,rfl,rfl,rfl,oM,hT2⟩⟩
   ·refine Q0 (rQ (U0 J (Y4 (Z2 (Z2 (Q3 (bH .nil (.inl ⟨_,.h1,(Z1 (W0 (rS (aL J .h3 J (aH J (aL J .h4 J (kM J (kM J (kM J (Q0 (V2 ?_)))))))))))⟩))))))))
    have hil:i=l1.length:=oM
    subst hil;obtain⟨rfl,rfl⟩:=CJ hT (Nat.mul_pos oM oM);exact lG J J J (.cons .h1 .nil) (.q (.cons _ (.cons _ (.cons _ (.cons _ (.cons _ .slnil)))))) (.inl ⟨oM,b,rfl,rfl⟩)
  ·refine kG (U6 J (bK J J J (Q0 (Y0 J (rS (kM J (kM J (kM J (Q0 (V2 (W3 (lG J J J .nil (List.nil_sublist _) (.inr ⟨?_,rfl,rfl⟩)))))))))))))
   first|omega|(intro h;omega)
 ·simp only[List.nil_append,List.cons_append,E9 hkey]
  refine kM J (eK J J (eK J J (kM J (kM J (Q0 (rQ (rS (kM J (eP J (kM J (V0 (V0 (V0 (V0 (V0 (V0 (V0 (cA J J J (Q0 (Y0 J (rS (kM J (kM J ?_)))))))))))))))))))))));refine kM J (Q0 (V2 (W3 (lG J J J .nil (List.nil_sublist _) (.inr ⟨?_,rfl,rfl⟩)))))
  first|omega|(intro h;omega)
end
variable{x m y:Int}{L:List Int}
def aW(x m:Int):Int:=(x.tmod m+m).tmod m
theorem zA(h:0<m):-m<x.tmod m/\x.tmod m<m:=by
 rcases Int.lt_or_le x 0 with hx|hx
 ·have e:x.tmod m = -((-x).tmod m):=by rw[Int.neg_tmod,Int.neg_neg]
  have h2:=Int.tmod_lt_of_pos (-x) h;have h3:0<=(-x).tmod m:=Int.tmod_nonneg m oM;rw[e];omega
 ·have h2:=Int.tmod_lt_of_pos x h
  have h3:0<=x.tmod m:=Int.tmod_nonneg m hx;omega
theorem dT(h:0<m):0<=aW x m/\aW x m<m:=by
 have h1:=zA (x:=x) h;unfold aW;exact⟨Int.tmod_nonneg m oM,(zA h).2⟩
def eA(l:List Int)(i:Nat)(m:Int):Int:=if l.length=0 then 0 else aW (l.getD (i % l.length) 0) m
theorem gB{l:List Int}{i:Nat}(h:0<m):0<=eA l i m/\eA l i m<m:=by
 unfold eA;split
 ·omega
 ·exact dT h
theorem uB{x y a b c d:Int}(hx:a<=x/\x<=b)(hy:c<=y/\y<=d)(ha:0<=a)(hc:0<=c):a*c<=x*y/\x*y<=b*d:=
 ⟨Int.mul_le_mul hx.1 hy.1 hc oM,Int.mul_le_mul hx.2 hy.2 oM oM⟩
def Hf(L:List Int)(x:Int):Prop:=kS L=true/\∀z∈L,0<=z/\z<x
theorem Hg:∀{L:List Int} {x:Int},kS L=true->(∀z∈L,z<x)->kS (L++[x])=true
 |[],_,_,_=>rfl
 |[a],x,_,h=>by
  have:=h a sM;show(decide (a<x) && true)=true;rw[decide_eq_true this];rfl
 |a::b::L,x,h1,h=>by
  have h2:(decide (a<b) && kS (b::L))=true:=h1;rw[Bool.and_eq_true] at h2;show(decide (a<b) && kS (b::L++[x]))=true;rw[h2.1,Hg h2.2 (fun z hz=>h z (by simp at hz ⊢;exact .inr hz))];rfl
theorem Hf.add(h:Hf L x)(h0:0<=x)(hy:x<y):Hf (L++[x]) y:=
 ⟨Hg h.1 (fun z hz=>(h.2 z hz).2),fun z hz=>by
  rcases List.mem_append.1 hz with hz|hz
  ·have:=h.2 z hz;omega
  ·rw[List.mem_singleton.1 hz];omega⟩
theorem Hf.one(h0:0<=x)(hy:x<y):Hf [x] y:=⟨rfl,fun z hz=>by rw[List.mem_singleton.1 hz];omega⟩
theorem Hf.plc{x hi m:Int}(h:Hf L x)(hx:x<=hi+1)(h2:2<=L.length)(hm:(L.length:Int)<=m):gJ m hi L=true:=by
 refine iR ⟨oM,hm⟩ ?_ h.1;unfold qT;rw[List.all_eq_true];intro z hz;have:=h.2 z hz;simpa using (show 0<=z/\z<=hi from oM)
def MS(d r al up:Int)(l1 l2:List Int):Prop:=((1<=d/\d<=99999)/\(1<=r/\r<=99999)/\(0<=al/\al<=100000)/\(0<=up/\up<=100000)/\cJ l1 l2=true)/\l1.length<=4/\l2.length<=3/\Hf l1 12000/\Hf l2 6000
theorem Ty{d r al up x y:Int}{l1 l2:List Int}(hd:1<=d/\d<=99999)(hr:1<=r/\r<=99999)(ha:0<=al/\al<=100000)(hu:0<=up/\up<=100000)(h1:Hf l1 x)(hx:x<=12000)(h2:Hf l2 y)(hy:y<=6000)(n1:2<=l1.length/\l1.length<=4)(n2:2<=l2.length/\l2.length<=3):MS d r al up l1 l2:=
 ⟨⟨hd,hr,ha,hu,nG (h1.plc oM n1.1 oM) (h2.plc oM n2.1 oM) oM (by
  unfold qT;rw[List.all_eq_true];intro z hz;have:=h2.2 z hz;simpa using (show 0<=z/\z<=15000 from oM))⟩,n1.2,n2.2,⟨h1.1,fun z hz=>by have:=h1.2 z hz;omega⟩,⟨h2.1,fun z hz=>by have:=h2.2 z hz;omega⟩⟩
theorem sN:ints (L++[x])=ints L++[.int .i64 x]:=by simp[ints]
section
variable{X:FuncId->List Value->St->(Value->St->Bool)->Bool}
theorem fV(n:Nat)(x m:Int)(s:St)(hs:Wf s)(hm:0<m/\m<=100000000):bX Tryz.prog (bZ cB) X (n+40) 27 [.int .i64 x,.int .i64 m] s (fun v A=>v = .int .i64 (aW x m)/\A=[]):=by
 refine enter OO rfl hs ?_;unfold Nk;have hq:=zA (x:=x) hm.1;refine rS (kM J (Q0 (rS (kM J (kM J (kO (xO J J oM (kM J (aX J J oM (kM J (kO (xO J J oM (kM J (Q0 (V2 ?_)))))))))))))));exact aO J ⟨rfl,rfl⟩
theorem gQ(n:Nat)(a:Option Addr)(cap:Nat)(l:List Int)(i:Nat)(m:Int)(s:St)(hs:Wf s)(hi:i<=1000)(hl:aN s a l)(hm:0<m/\m<=100000000):bX Tryz.prog (bZ cB) X (n+100) 112 [.slice a l.length cap,.int .i64 (i:Int),.int .i64 m] s (fun v A=>v = .int .i64 (eA l i m)/\A=[]):=by
 refine enter Kt rfl hs ?_;unfold F1;have hlen:=hl.len;refine rS (kM J (Q0 (rQ (rS (kM J (aJ J hl.spot (kO (bV J J (fun h1=>?_) (fun h1=>?_)))))))))
 ·refine Q0 (Y0 J (rS (kM J (Q0 (V2 (W3 (aO J ⟨congrArg (Value.int .i64) ?_,rfl⟩)))))))
  unfold eA
  first|(rw[if_pos oM];done)|(rw[if_neg oM];done)
 ·have hmd:i % l.length<l.length:=Nat.mod_lt _ oM
  refine Q0 (U0 J (Q1 (W0 (rS (kM J (kM J (kM J (aJ J hl.spot (kO (xO J J oM (kO (Q7 (j:=i % l.length) hl rfl rfl rfl sM oM (fun _ _ a99=>(kO (W6 J (hl.at a99 oM) (kM J (kO (aI J J (fun s1 h1=>fV _ _ _ s1 h1.wf oM) (kM J (Q0 (V2 (aO J ⟨congrArg (Value.int .i64) ?_,rfl⟩))))))))))))))))))))));unfold eA
  first|(rw[if_pos oM];done)|(rw[if_neg oM];done)
theorem DU(n:Nat)(a:Option Addr)(cap:Nat)(l:List Int)(s:St)(hs:Wf s)(hn:281474976710656<=n)(hl:aN s a l):bX Tryz.prog (bZ cB) X (n+1200) 66 [.slice a l.length cap] s (fun v A=>∃b1 b2 d r al up l1 l2,v = .agg ⟨[.int .i64 d,.int .i64 r,.slice (some ⟨b1,0,none⟩) l1.length OPEN,.slice (some ⟨b2,0,none⟩) l2.length OPEN,.int .i64 al,.int .i64 up]⟩/\A=[.row b2 3 true (ints l2),.row b1 3 true (ints l1)]/\MS d r al up l1 l2):=by
 refine enter Pa rfl hs ?_;unfold N4;have hlen:=hl.len;have p0:=gB (l:=l) (i:=0) (m:=99) dE;have p1:=gB (l:=l) (i:=1) (m:=9) dE;have p2:=gB (l:=l) (i:=2) (m:=9) dE;have p3:=gB (l:=l) (i:=3) (m:=3) dE;have p4:=gB (l:=l) (i:=4) (m:=3) dE;have p8:=gB (l:=l) (i:=8) (m:=2) dE;have p9:=gB (l:=l) (i:=9) (m:=2) dE;have p13:=gB (l:=l) (i:=13) (m:=9) dE;have p14:=gB (l:=l) (i:=14) (m:=5) dE;have p15:=gB (l:=l) (i:=15) (m:=2) dE;have p16:=gB (l:=l) (i:=16) (m:=3) dE;have p19:=gB (l:=l) (i:=19) (m:=30) dE;have p20:=gB (l:=l) (i:=20) (m:=40) dE;have p5:=uB (x:=(100*(1+eA l 2 9))) (y:=1+eA l 4 3) (a:=100) (b:=900) (c:=1) (d:=3) oM oM dE dE;have p6:=uB (x:=eA l 8 2) (y:=eA l 9 2) (a:=0) (b:=1) (c:=0) (d:=1) oM oM dE dE;have p7:=uB (x:=(50*(1+eA l 13 9))) (y:=1+eA l 16 3) (a:=50) (b:=450) (c:=1) (d:=3) oM oM dE dE;refine rS (aY J J (fun b1=>(Q0 (rS (kM J (kO (aI J J (fun s1 h1=>gQ _ _ _ _ (0) _ s1 h1.wf oM (hl.ext hs h1.2.1) oM) (aX J J oM (kM J (kO (aI J J (fun s1 h1=>gQ _ _ _ _ (1) _ s1 h1.wf oM (hl.ext hs h1.2.1) oM) (aX J J oM (eG J J (aY J J (fun b2=>(kZ (Q6 J J .here rfl rfl rfl rfl (Q0 (rS (kM J (kO (aI J J (fun s1 h1=>gQ _ _ _ _ (2) _ s1 h1.wf oM (hl.ext hs h1.2.1) oM) (aX J J oM (aV J J oM (kM J (Q0 (rS (kM J (Q0 ?_)))))))))))))))))))))))))))));refine rQ (rS (kM J (Q0 (W1 (bM (rQ (rS (kM J (kM J (kO (aI J J (fun s1 h1=>gQ _ _ _ _ (3) _ s1 h1.wf oM (hl.ext hs h1.2.1) oM) (aX J J oM (dB J J (fun h3=>?_) (fun h3=>?_))))))))))))))
 ·refine Q0 (Y0 J (Q1 (W0 (rQ (W1 (rS (aH J (aL J .here rfl (kM J (kO (bF J J J (fun b4=>(kO (gZ J J (fK.own .here rfl sM) dE oM oM (fun b5=>(aH J (kZ (cY J J .h2 J J (Q0 (rI (kM J (kM J (kM J (kM J (aX J J dE (kO (aI J J (fun s1 h1=>gQ _ _ _ _ (4) _ s1 h1.wf oM (hl.ext hs h1.2.1) oM) (aX J J oM (aV J J oM ?_)))))))))))))))))))))))))))))
  refine aX J J oM (kM J (kO (aI J J (fun s1 h1=>gQ _ _ _ _ (8) _ s1 h1.wf oM (hl.ext hs h1.2.1) oM) (kM J (kM J (aX J J dE (kO (aI J J (fun s1 h1=>gQ _ _ _ _ (9) _ s1 h1.wf oM (hl.ext hs h1.2.1) oM) (aV J J oM (aV J J oM (aX J J oM (kM J (Q0 (Z1 (W0 (rI (kM J (aX J J dE (kM J (Q0 (W0 (U4 (fun j e A=>∃(i b:Nat) (x:Int) (L:List Int),e=[(0,.slice a l.length cap),(2,.pointer (some ⟨b1,0,none⟩)),(3,.pointer (some ⟨b2,0,none⟩)),(4,.int .i64 (100*(1+eA l 2 9))),(5,.int .i64 x),(6,.int .i64 (i:Int))]/\A=(.row b 3 true (ints L)::(.row b2 33 false ([.int .i64 (1+eA l 0 99),.int .i64 (1+eA l 1 9),.slice (some ⟨b,0,none⟩) i OPEN,.slice none 0 0,.int .i64 0,.int .i64 0])::(.row b1 33 false ([.int .i64 0,.int .i64 0,.slice none 0 0,.slice none 0 0,.int .i64 0,.int .i64 0])::[])))/\j=5-i/\L.length=i/\1<=i/\(i:Int)<=2+eA l 3 3/\Hf L x/\0<=x/\x<=2800*(i:Int)) 500 0 281474976710656 ?_ (j:=_) (env2:=_) (A2:=_) ?_ ?_ ?_ ?_ ⟨1,b5,(0+(100*(1+eA l 2 9))*(1+eA l (4) 3)+eA l 8 2*eA l (9) 2*7),[0],rfl,rfl,rfl,rfl,oM,oM,(.one oM oM),oM⟩))))))))))))))))))))))
  rotate_left
  ·omega
  ·omega
  ·exact lL
  ·exact(.q (.cons _ (.q (.q .slnil))))
  rintro n hn j _ _ ⟨i,b,x,L,rfl,rfl,rfl,hL,hi1,hi,hA,hx⟩;have pa:=gB (l:=l) (i:=4+i) (m:=3) dE;have pb:=gB (l:=l) (i:=9+i) (m:=2) dE;have pc:=uB (x:=(100*(1+eA l 2 9))) (y:=1+eA l (4+i) 3) (a:=100) (b:=900) (c:=1) (d:=3) oM oM dE dE;have pd:=uB (x:=eA l 8 2) (y:=eA l (9+i) 2) (a:=0) (b:=1) (c:=0) (d:=1) oM oM dE dE;refine rQ (rS (kM J (kM J (kO (aI J J (fun s1 h1=>gQ _ _ _ _ (3) _ s1 h1.wf oM (hl.ext hs h1.2.1) oM) (aX J J oM (dB J J (fun h6=>?_) (fun h6=>?_))))))))
  ·refine Q0 (Y0 J (Q1 (W0 (rQ (W1 (rS (aH J (aL J .h1 J (kM J (kO (bF J J J (fun b7=>(kO (cO J J (fK.own .here rfl sM) .h1 (by simp[hL,bU]) (.inl ⟨rfl,rfl⟩) dE oM oM (fun b8=>(aH J (kZ (cY J J .h2 J J (Q0 (rI (kM J (kM J (kM J (kM J (aX J J oM (kO (aI J J (fun s1 h1=>gQ _ _ _ _ (4+i) _ s1 h1.wf oM (hl.ext hs h1.2.1) oM) (aX J J oM (aV J J oM ?_)))))))))))))))))))))))))))))
   refine aX J J oM (kM J (kO (aI J J (fun s1 h1=>gQ _ _ _ _ (8) _ s1 h1.wf oM (hl.ext hs h1.2.1) oM) (kM J (kM J (aX J J oM (kO (aI J J (fun s1 h1=>gQ _ _ _ _ (9+i) _ s1 h1.wf oM (hl.ext hs h1.2.1) oM) (aV J J oM (aV J J oM (aX J J oM (kM J (Q0 (Z1 (W0 (rI (kM J (aX J J oM (kM J (Q0 (W0 ?_)))))))))))))))))))));exact⟨rfl,_,_,_,(show 5-(i+1)<5-i from oM),lL,(.q (.cons _ (.q (.q .slnil)))),⟨i+1,b8,(x+(100*(1+eA l 2 9))*(1+eA l (4+i) 3)+eA l 8 2*eA l (9+i) 2*7),L++[x],rfl,(by rw[sN];rfl),rfl,(by simp[hL]),oM,oM,(hA.add oM oM),oM⟩⟩
  ·refine Q0 (U0 J (Y4 (Z2 (Z2 (Q3 (W0 (rS (kM J (kO (aI J J (fun s1 h1=>gQ _ _ _ _ (13) _ s1 h1.wf oM (hl.ext hs h1.2.1) oM) (aX J J oM (aV J J oM (kM J (Q0 (rS (kM J (kO (aI J J (fun s1 h1=>gQ _ _ _ _ (14) _ s1 h1.wf oM (hl.ext hs h1.2.1) oM) (aV J J oM (kM J (Q0 (rQ (rS (kM J (Q0 ?_)))))))))))))))))))))))))
   refine W1 (bM (rQ (rS (kM J (kM J (kO (aI J J (fun s1 h1=>gQ _ _ _ _ (15) _ s1 h1.wf oM (hl.ext hs h1.2.1) oM) (aX J J oM (dB J J (fun h9=>?_) (fun h9=>?_))))))))))
   ·refine Q0 (Y0 J (Q1 (W0 (rQ (W1 (rS (aH J (aL J .h1 J (kM J (kO (bF J J J (fun b10=>(kO (gZ J J (fK.own .here rfl sM) dE oM oM (fun b11=>(aH J (kZ (cY J J .h3 J J (Q0 (rI (kM J (kM J (kM J (kM J (aX J J dE (kO (aI J J (fun s1 h1=>gQ _ _ _ _ (16) _ s1 h1.wf oM (hl.ext hs h1.2.1) oM) (aX J J oM (aV J J oM ?_)))))))))))))))))))))))))))))
    refine aX J J oM (kM J (Q0 (Z1 (W0 (rI (kM J (aX J J dE (kM J (Q0 (W0 (U4 (fun j e A=>∃(k c:Nat) (y:Int) (M:List Int),e=[(0,.slice a l.length cap),(2,.pointer (some ⟨b1,0,none⟩)),(3,.pointer (some ⟨b2,0,none⟩)),(7,.int .i64 (50*(1+eA l 13 9))),(8,.int .i64 y),(9,.int .i64 (k:Int))]/\A=(.row c 3 true (ints M)::(.row b 3 true (ints L)::(.row b2 33 false ([.int .i64 (1+eA l 0 99),.int .i64 (1+eA l 1 9),.slice (some ⟨b,0,none⟩) i OPEN,.slice (some ⟨c,0,none⟩) k OPEN,.int .i64 0,.int .i64 0])::(.row b1 33 false ([.int .i64 0,.int .i64 0,.slice none 0 0,.slice none 0 0,.int .i64 0,.int .i64 0])::[]))))/\j=5-k/\M.length=k/\1<=k/\(k:Int)<=2+eA l 15 2/\Hf M y/\0<=y/\y<=40+1350*(k:Int)) 500 0 281474976710656 ?_ (j:=_) (env2:=_) (A2:=_) ?_ ?_ ?_ ?_ ⟨1,b11,(10*eA l 14 5+(50*(1+eA l 13 9))*(1+eA l (16) 3)),[10*eA l 14 5],rfl,rfl,rfl,rfl,oM,oM,(.one oM oM),oM⟩)))))))))))
    rotate_left
    ·omega
    ·omega
    ·exact lL
    ·exact(.q (.cons _ (.q (.q (.q .slnil)))))
    rintro n hn j _ _ ⟨k,c,y,M,rfl,rfl,rfl,hM,hk1,hk,hB,hy⟩;have pa:=gB (l:=l) (i:=16+k) (m:=3) dE;have pc:=uB (x:=(50*(1+eA l 13 9))) (y:=1+eA l (16+k) 3) (a:=50) (b:=450) (c:=1) (d:=3) oM oM dE dE;refine rQ (rS (kM J (kM J (kO (aI J J (fun s1 h1=>gQ _ _ _ _ (15) _ s1 h1.wf oM (hl.ext hs h1.2.1) oM) (aX J J oM (dB J J (fun h12=>?_) (fun h12=>?_))))))))
    ·refine Q0 (Y0 J (Q1 (W0 (rQ (W1 (rS (aH J (aL J .h2 J (kM J (kO (bF J J J (fun b13=>(kO (cO J J (fK.own .here rfl sM) .h1 (by simp[hM,bU]) (.inl ⟨rfl,rfl⟩) dE oM oM (fun b14=>(aH J (kZ (cY J J .h3 J J (Q0 (rI (kM J (kM J (kM J (kM J (aX J J oM (kO (aI J J (fun s1 h1=>gQ _ _ _ _ (16+k) _ s1 h1.wf oM (hl.ext hs h1.2.1) oM) (aX J J oM (aV J J oM ?_)))))))))))))))))))))))))))))
     refine aX J J oM (kM J (Q0 (Z1 (W0 (rI (kM J (aX J J oM (kM J (Q0 (W0 ?_))))))))));exact⟨rfl,_,_,_,(show 5-(k+1)<5-k from oM),lL,(.q (.cons _ (.q (.q (.q .slnil))))),⟨k+1,b14,(y+(50*(1+eA l 13 9))*(1+eA l (16+k) 3)),M++[y],rfl,(by rw[sN];rfl),rfl,(by simp[hM]),oM,oM,(hB.add oM oM),oM⟩⟩
    ·refine Q0 (U0 J (Y4 (Z2 (Z2 (Q3 (W0 (rS (kM J (kO (aI J J (fun s1 h1=>gQ _ _ _ _ (19) _ s1 h1.wf oM (hl.ext hs h1.2.1) oM) (aV J J oM (kM J (kO (aI J J (fun s1 h1=>gQ _ _ _ _ (20) _ s1 h1.wf oM (hl.ext hs h1.2.1) oM) (aV J J oM (eG J J (aH J (kZ (Q6 J J .h2 J J J J (Q0 (rS (dD J dE .h2 J (kZ (Q6 J J .h3 J J J J (Q0 (V2 ?_))))))))))))))))))))))))))
     subst hL;subst hM;refine⟨rfl,[_],_,⟨_,_,_,[],rfl,rfl,dE,⟨_,_,_,.h3,rfl⟩,rfl⟩,(.q (.q (.cons _ (.cons _ .slnil)))),b,c,_,_,_,_,L,M,rfl,rfl,Ty oM oM oM oM hA oM hB oM oM oM⟩
   ·exfalso;omega
 ·exfalso;omega
end
theorem Hh{m:Int}{ls:List (List Int)}(h:fR m ls=0):m<=64/\mU m ls=true:=by
 unfold fR at h;split at h
 ·split at h
  ·cases h
  ·split at h
   ·exact⟨oM,aM⟩
   ·cases h
 ·cases h
def Ij(T:Nat->Nat->Int)(N:Nat):Prop:=∀a,a<N->0<=T a a
theorem LC{T:Nat->Nat->Int}{i:Nat}(h:∀a,a<i->0<=T a a)(h2:¬T i i<0):∀a,a<i+1->0<=T a a:=fun a ha=>by
 by_cases q:a=i
 ·rw[q];omega
 ·exact h a oM
def PB(x:List Int)(c:Int):Prop:=∀i:Nat,-c<=x.getD i 0/\x.getD i 0<=c
theorem PB.add{x:List Int}{c d z:Int}(h:PB x c)(hc:c<=d)(hz:-d<=z/\z<=d)(hd:0<=d):PB (x++[z]) d:=by
 intro i;have h1:=h i;rw[List.getD_eq_getElem?_getD] at h1 ⊢;rcases Nat.lt_or_ge i x.length with q|q
 ·rw[List.getElem?_append_left q];omega
 ·rw[List.getElem?_append_right q]
  rcases Nat.eq_zero_or_pos (i-x.length) with e|e
  ·rw[e];exact hz
  ·rw[List.getElem?_eq_none (by simp;omega)]
   show -d<=0/\0<=d;omega
theorem PB.one{c:Int}(h:0<=c):PB [0] c:=fun i=>by
 match i with
 |0=>exact⟨by show -c<=0;omega,h⟩
 |i+1=>exact⟨by show -c<=0;omega,h⟩
def Rt(a:Nat)(z f c:Int):Prop:=(a=0/\z=f)∨(0<a/\-c<=z/\z<=c)
def qI(l:List Int)(i:Nat)(m:Int):Int:=if l.length=0∨m<1 then 0 else aW (l.getD (i % l.length) 0) m
theorem LD{l:List Int}{i:Nat}{m:Int}:0<=qI l i m/\(qI l i m<m∨qI l i m=0):=by
 unfold qI;split
 ·exact⟨Int.le_refl _,.inr rfl⟩
 ·have:=dT (x:=l.getD (i % l.length) 0) (m:=m) oM
  exact⟨this.1,.inl this.2⟩
section
variable{X:FuncId->List Value->St->(Value->St->Bool)->Bool}
theorem DV(n:Nat)(M:Nat)(al:Option Addr)(cl:Nat)(ls:List (List Int))(s:St)(hs:Wf s)(hn:1970324836974592<=n)(hL:RowsE s 4 al ls)(hWB:fR (M:Int) ls=0->WB ls (M+1)):bX Tryz.prog (bZ cB) X (n+1700) 113 [.agg ⟨[.int .i64 (M:Int),.slice al ls.length cl]⟩] s (fun v A=>(¬fR (M:Int) ls=0/\v = .tuple #[.slice none 0 0,.int .i64 (fR (M:Int) ls)]/\A=[])∨(fR (M:Int) ls=0/\¬Ij (wm ls (M+1) (M+1)) (M+1)/\v = .tuple #[.slice none 0 0,.int .i64 23]/\A=[])∨(fR (M:Int) ls=0/\Ij (wm ls (M+1) (M+1)) (M+1)/\∃b B,v = .tuple #[.slice (some ⟨b,0,none⟩) (M+1) (M+1),.int .i64 0]/\A=seg B (M+1) (wm ls (M+1) (M+1)) (M+1)++[.row b 22 false (oO B (M+1) (M+1) (M+1))])):=by
 refine enter Ku rfl hs ?_;unfold F2;have hlen:=hL.len;refine rS (aZ J J J (fun b1=>(kM J (kM J (Q0 (rS (dD J dE .here rfl (kO (aI J J (fun s1 h1=>BV _ _ _ _ _ s1 h1.wf oM (hL.ext hs h1.2.1)) (kM J (Q0 (rQ (rS (kM J (kO (V3 J J (fun h2=>?_) (fun h2=>?_)))))))))))))))))
 ·refine Q0 (Y0 J (rS (kM J (kM J (kM J (Q0 (V2 (W3 ?_))))))))
  exact HV J J (.inl ⟨oM,rfl,rfl⟩)
 ·have hsys:fR (M:Int) ls=0:=oM
  obtain⟨hM64,hlm⟩:=Hh hsys;have hM:M<=64:=oM
  refine Q0 (U0 J (Q1 (W0 (rS (dD J dE .here rfl (kO (Z4 J J (fun s1 h1=>PC _ M al cl ls s1 h1.wf oM (hL.ext hs h1.2.1) hM hlm (hWB hsys)) (fun v1 A1 q1=>?_))))))));obtain⟨bw3,Bw4,rfl,rfl⟩:=q1;rw[List.append_assoc,List.singleton_append];refine kM J (Q0 (rQ (rS (kM J (kG (bI J J KQ rfl ?_))))));unfold Gp;refine rS (kM J (Q0 (rQ (rS (kM J (kO (cK J (kM J (Q0 (W1 ?_))))))))));refine U4 (fun j e A=>∃(i:Nat),e=[(0,.slice (some ⟨bw3,0,none⟩) (M+1) (M+1)),(4,.slice (some ⟨bw3,0,none⟩) (M+1) (M+1)),(5,.int .i64 ((M+1:Nat):Int)),(6,.int .i64 (i:Int))]/\A=(seg Bw4 (M+1) (wm ls (M+1) (M+1)) (M+1)++(.row bw3 22 false (oO Bw4 (M+1) (M+1) (M+1))::(.row b1 45 false ([.int .i64 (M:Int),.slice al ls.length cl])::[])))/\j=M+1-i/\i<=M+1/\∀a,a<i->0<=(wm ls (M+1) (M+1)) a a) 100 0 281474976710656 ?_ (j:=_) (env2:=_) (A2:=_) ?_ ?_ ?_ ?_ ⟨0,rfl,rfl,rfl,Nat.zero_le _,(fun a ha=>absurd ha (Nat.not_lt_zero a))⟩
  rotate_left
  ·omega
  ·omega
  ·exact lL
  ·exact(.r (.q (.q .slnil)))
  rintro n hn j _ _ ⟨i,rfl,rfl,rfl,hi,hsd⟩;refine rS (dB J J (fun h5=>?_) (fun h5=>?_))
  ·refine Q0 (rQ (Y0 J (Q1 (W0 (rQ (W1 (rS (kM J (kM J (Q0 (rS (kM J (kM J (cN (j:=i) J J oM oM (aL J (.app .here) (hJ oM oM) (kM J (cN (j:=i) J J oM oM (kO (Q5 (x:=(wm ls (M+1) (M+1)) (i) (i)) J (jX oM) (by rw[fQ];omega) (iG oM) (dB J J (fun h6=>?_) (fun h6=>?_)))))))))))))))))))))
   ·refine Q0 (Y0 J (rS (kM J (Q0 (V2 (Y6 (W3 (W3 (Y6 (W3 (eO J .nil (eP J (Q0 (Y0 J (rS (kM J (kM J (Q0 (V2 (W3 ?_))))))))))))))))))))
    exact HV J J (.inr (.inl ⟨hsys,fun q=>by (have:=q i oM;omega),rfl,rfl⟩))
   ·refine Q0 (U0 J (Q1 (Z1 (W0 (rI (aX J J oM (kM J (Q0 (W0 ?_)))))))))
    exact⟨rfl,_,_,_,(show M+1-(i+1)<M+1-i from oM),lL,(.r (.q (.q .slnil))),⟨i+1,rfl,rfl,rfl,oM,(LC hsd aM)⟩⟩
  ·refine Q0 (rQ (U0 J (Y4 (Z2 (Z2 (Q3 (W0 (rS (kM J (Q0 (V2 (eO J .nil (eP J (Q0 (U0 J (Q1 (W0 (rS (kM J (kM J (kM J (Q0 (V2 ?_)))))))))))))))))))))))
   exact kE J J (.r (.q (.cons _ .slnil))) (.inr (.inr ⟨hsys,(fun a ha=>hsd a oM),_,_,rfl,rfl⟩))
theorem PI(n:Nat)(a:Option Addr)(cap:Nat)(l:List Int)(z:Int)(i:Nat)(m:Int)(s:St)(hs:Wf s)(hl:aN s a l)(hz:z=(i:Int))(hm:-4000000000<=m/\m<=4000000000):bX Tryz.prog (bZ cB) X (n+100) 158 [.slice a l.length cap,.int .i64 z,.int .i64 m] s (fun v A=>v = .int .i64 (qI l i m)/\A=[]):=by
 refine enter KR rfl hs ?_;unfold Gq;subst hz;have hlen:=hl.len;refine rS (kM J (Q0 (rQ (rS (kM J (aJ J hl.spot (kO (bV J J (fun h1=>?_) (fun h1=>?_)))))))))
 ·refine kM J (V0 (V0 (cA J J J (Q0 (Y0 J (rS (kM J (Q0 (V2 (W3 (aO J ⟨congrArg (Value.int .i64) ?_,rfl⟩)))))))))))
  unfold qI
  first|(rw[if_pos oM];done)|(rw[if_neg oM];done)|(rw[if_neg oM];rfl)
 ·refine kM J (kG (U2 J (kG (W5 J J (fun h2=>?_) (fun h2=>?_)))))
  ·refine bK J J J (Q0 (Y0 J (rS (kM J (Q0 (V2 (W3 (aO J ⟨congrArg (Value.int .i64) ?_,rfl⟩))))))))
   unfold qI
   first|(rw[if_pos oM];done)|(rw[if_neg oM];done)|(rw[if_neg oM];rfl)
  ·have hmd:i % l.length<l.length:=Nat.mod_lt _ oM
   have hq:=zA (x:=l.getD (i % l.length) 0) (m:=m) oM;refine bK J J J (Q0 (U0 J (Q1 (W0 (rS (kM J (kM J (kM J (aJ J hl.spot (kO (xO J J oM (kO (Q7 (j:=i % l.length) hl rfl rfl rfl sM oM (fun _ _ a99=>(kO (W6 J (hl.at a99 oM) (kM J (kO (xO J J oM (kM J (aX J J oM (kM J (kO (xO J J oM (kM J (Q0 (V2 (aO J ⟨congrArg (Value.int .i64) ?_,rfl⟩))))))))))))))))))))))))))));unfold qI
   first|(rw[if_pos oM];done)|(rw[if_neg oM];done)|(rw[if_neg oM];rfl)
theorem LE(n:Nat)(M:Nat)(al:Option Addr)(cl:Nat)(ls:List (List Int))(ap:Option Addr)(cpk:Nat)(ps:List Int)(s:St)(hs:Wf s)(hn:2533274790395904<=n)(hL:RowsE s 4 al ls)(hWB:fR (M:Int) ls=0->WB ls (M+1))(hFuS:fR (M:Int) ls=0->Fu (wm ls (M+1) (M+1)) (M+1))(hP:aN s ap ps):bX Tryz.prog (bZ cB) X (n+1900) 115 [.agg ⟨[.int .i64 (M:Int),.slice al ls.length cl]⟩,.slice ap ps.length cpk] s (fun v A=>(¬fR (M:Int) ls=0/\v = .tuple #[.slice none 0 0,.int .i64 (fR (M:Int) ls)]/\A=[])∨(fR (M:Int) ls=0/\¬Ij (wm ls (M+1) (M+1)) (M+1)/\v = .tuple #[.slice none 0 0,.int .i64 23]/\A=[])∨(fR (M:Int) ls=0/\Ij (wm ls (M+1) (M+1)) (M+1)/\∃b op cq x,v = .tuple #[.slice (some ⟨b,0,none⟩) (M+1) cq,.int .i64 0]/\A=[.row b 3 op (ints x)]/\x.length=M+1/\PB x 163840000/\xR op (M+1) cq)):=by
 refine enter Kv rfl hs ?_;unfold F3;have hlen:=hL.len;have hlenP:=hP.len;refine rS (aZ J J J (fun b1=>(kM J (kM J (Q0 (rS (dD J dE .here rfl (kO (Z4 J J (fun s1 h1=>DV _ M al cl ls s1 h1.wf oM (hL.ext hs h1.2.1) hWB) (fun v1 A1 q1=>?_))))))))));rcases q1 with ⟨hc1,rfl,rfl⟩|⟨hc1,hc2,rfl,rfl⟩|⟨hc1,hc2,q1⟩
 ·have hsys:=hc1
  refine kM J (eK J J (eK J J (kM J (kM J (Q0 (rQ (rS (kM J (kO (V3 J J (fun h4=>?_) (fun h4=>?_)))))))))))
  ·refine Q0 (Y0 J (rS (kM J (kM J (kM J (Q0 (V2 (W3 ?_))))))))
   exact HV J J (.inl ⟨oM,rfl,rfl⟩)
  ·exfalso;omega
 ·refine kM J (eK J J (eK J J (kM J (kM J (Q0 (rQ (rS (kM J (kO (V3 J J (fun _=>(Q0 (Y0 J (rS (kM J (kM J (kM J (Q0 (V2 (W3 ?_)))))))))) (fun h=>absurd h dE)))))))))))
  exact HV J J (.inr (.inl ⟨hc1,hc2,rfl,rfl⟩))
 ·obtain⟨bw2,Bw3,rfl,rfl⟩:=q1
  rw[List.append_assoc,List.singleton_append];obtain⟨hM64,hlm⟩:=Hh hc1;have hM:M<=64:=oM
  have hFu:=hFuS hc1;refine kM J (eK J J (eK J J (kM J (kM J (Q0 (rQ (rS (kM J (kO (V3 J J (fun h=>absurd h dE) (fun _=>(Q0 (U0 J (Q1 (W0 (rS (kO (bF J J J (fun b7=>(kM J (Q0 (rQ (rS (kM J (Q0 (W1 ?_))))))))))))))))))))))))));refine U4 (fun j e A=>∃(w b cp:Nat) (op:Bool) (xs:List Int),e=[(1,.slice ap ps.length cpk),(2,.pointer (some ⟨b1,0,none⟩)),(6,.slice (some ⟨bw2,0,none⟩) (M+1) (M+1)),(8,.slice (some ⟨b,0,none⟩) (w+1) cp),(9,.int .i64 ((w+1:Nat):Int))]/\A=(.row b 3 op (ints xs)::(seg Bw3 (M+1) (wm ls (M+1) (M+1)) (M+1)++(.row bw2 22 false (oO Bw3 (M+1) (M+1) (M+1))::(.row b1 45 false ([.int .i64 (M:Int),.slice al ls.length cl])::[]))))/\j=M-w/\w<=M/\xs.length=w+1/\FT op cp w/\PB xs ((w:Int)*2560000)) 500 562949953421312 281474976710656 ?_ (j:=_) (env2:=_) (A2:=_) ?_ ?_ ?_ ?_ ⟨0,b7,1,false,[0],rfl,rfl,rfl,Nat.zero_le _,rfl,(.inr ⟨rfl,rfl,rfl⟩),(PB.one dE)⟩
  rotate_left
  ·omega
  ·omega
  ·exact lL
  ·exact(.q (.r (.q (.q .slnil))))
  rintro n hn j _ _ ⟨w,b,cp,op,xs,rfl,rfl,rfl,hj,hxl,hT,hB⟩;have hjM:(w:Int)<=64:=oM
  refine rQ (rS (kM J (aH J (aL J (.next (.app .h1)) J (kO (eV J J (fun h8=>?_) (fun h8=>?_)))))))
  ·refine Q0 (Y0 J (Q1 (W0 (rQ (W1 (rS (kM J (Q0 (rS (kM J (Q0 (rQ (rS (kM J (kO (cK J (kM J (Q0 (W1 ?_)))))))))))))))))))
   refine U4 (fun j e A=>∃(a:Nat) (lo hi:Int),e=[(1,.slice ap ps.length cpk),(2,.pointer (some ⟨b1,0,none⟩)),(6,.slice (some ⟨bw2,0,none⟩) (M+1) (M+1)),(8,.slice (some ⟨b,0,none⟩) (w+1) cp),(9,.int .i64 ((w+1:Nat):Int)),(10,.int .i64 lo),(11,.int .i64 hi),(30,.int .i64 ((w+1:Nat):Int)),(31,.int .i64 (a:Int))]/\A=(.row b 3 op (ints xs)::(seg Bw3 (M+1) (wm ls (M+1) (M+1)) (M+1)++(.row bw2 22 false (oO Bw3 (M+1) (M+1) (M+1))::(.row b1 45 false ([.int .i64 (M:Int),.slice al ls.length cl])::[]))))/\j=w+1-a/\a<=w+1/\Rt a lo (-1000000000) (((w:Int)+1)*2560000)/\Rt a hi 1000000000 (((w:Int)+1)*2560000)) 200 0 281474976710656 ?_ (j:=_) (env2:=_) (A2:=_) ?_ ?_ ?_ ?_ ⟨0,_,_,rfl,rfl,rfl,Nat.zero_le _,(.inl ⟨rfl,rfl⟩),(.inl ⟨rfl,rfl⟩)⟩
   rotate_left
   ·omega
   ·omega
   ·exact lL
   ·exact(.q (.r (.q (.q .slnil))))
   rintro n hn j _ _ ⟨a,lo,hi,rfl,rfl,rfl,ha,hlo,hhi⟩;refine rS (dB J J (fun h9=>?_) (fun h9=>?_))
   ·have hf1:=hFu (w+1) a oM oM
    have hf2:=hFu a (w+1) oM oM;unfold Ek at hf1 hf2;have hxa:=hB a;unfold Rt at hlo hhi;refine Q0 (rQ (Y0 J (Q1 (W0 (rQ (W1 (rS (kM J (kM J (Q0 (rQ (rS (kM J (kM J (cN (j:=w+1) J J oM oM (aL J (.next (.app .here)) (hJ oM oM) (kM J (cN (j:=a) J J oM oM (kO (Q5 (x:=(wm ls (M+1) (M+1)) (w+1) (a)) J (.next (jX oM)) (by rw[fQ];omega) (iG oM) (kO (V3 J J (fun h10=>?_) (fun h10=>?_)))))))))))))))))))))))
    ·refine Q0 (Y0 J (rI (kM J (kM J (kM J (cN (j:=a) J J oM oM (kO (dM J .here (by first|omega|(simp;done)|(simp;omega)) (kM J (kM J (cN (j:=w+1) J J oM oM (aL J (.next (.app .here)) (hJ oM oM) (kM J (cN (j:=a) J J oM oM (kO (Q5 (x:=(wm ls (M+1) (M+1)) (w+1) (a)) J (.next (jX oM)) (by rw[fQ];omega) (iG oM) (kO (bN J J oM (kO (Dx J (kM J (Q0 (W0 (rS (kM J (kM J (cN (j:=a) J J oM oM ?_)))))))))))))))))))))))))))
     refine aL J (.next (.app .here)) (hJ oM oM) (kM J (cN (j:=w+1) J J oM oM (kO (Q5 (x:=(wm ls (M+1) (M+1)) (a) (w+1)) J (.next (jX oM)) (by rw[fQ];omega) (iG oM) (kO (V3 J J (fun h11=>?_) (fun h11=>?_)))))))
     ·refine Q0 (Y0 J (rI (kM J (kM J (kM J (cN (j:=a) J J oM oM (kO (dM J .here (by first|omega|(simp;done)|(simp;omega)) (kM J (kM J (cN (j:=a) J J oM oM (aL J (.next (.app .here)) (hJ oM oM) (kM J (cN (j:=w+1) J J oM oM (kO (Q5 (x:=(wm ls (M+1) (M+1)) (a) (w+1)) J (.next (jX oM)) (by rw[fQ];omega) (iG oM) (aX J J oM (kO (qS J (kM J (Q0 (Z1 (W0 (rI (aX J J oM (kM J ?_))))))))))))))))))))))))))
      refine Q0 (W0 ?_);exact⟨rfl,_,_,_,(show w+1-(a+1)<w+1-a from oM),lL,(.q (.r (.q (.q .slnil)))),⟨a+1,_,_,rfl,rfl,rfl,oM,(.inr oM),(.inr oM)⟩⟩
     ·exfalso;omega
    ·exfalso;omega
   ·have haj:a=w+1:=oM
    subst haj;unfold Rt at hlo hhi;refine Q0 (rQ (U0 J (Y4 (Z2 (Z2 (Q3 (W0 (rS (kM J (Q0 (rQ (W1 (rS (kM J (kO (V3 J J (fun h12=>?_) (fun h12=>?_)))))))))))))))))
    ·refine kM J (kG (U2 J (kG (V3 J J (fun h13=>?_) (fun h13=>?_)))))
     ·refine cA J J J (kM J (Q0 (Y0 J (rI (kM J (kM J (kM J (kO (bN J J oM (kM J (kM J (kO (bN J J oM (aX J J oM (kO (aI J J (fun s1 h1=>PI _ _ _ _ _ w _ s1 h1.wf (hP.ext hs h1.2.1) oM oM) ?_))))))))))))))))
      have hpk:=LD (l:=ps) (i:=w) (m:=hi-lo+1);refine aX J J oM (kM J (Q0 (Z1 (W0 (rI (kM J (kM J (kO (bF J J J (fun b14=>(kO (cO J J (fK.own .here rfl sM) .h1 (by rw[bU,hxl,Nat.mul_one]) (fS hT) dE oM oM (fun b15=>(kM J (Q0 (Z1 (W0 (rI (kM J (aX J J oM (kM J (Q0 (W0 ?_)))))))))))))))))))))));exact⟨rfl,_,_,_,(show M-(w+1)<M-w from oM),lL,(.q (.cons _ (.r (.q (.q .slnil))))),⟨w+1,b15,_,_,xs++[lo+qI ps w (hi-lo+1)],rfl,(by rw[sN];rfl),rfl,oM,(by simp[hxl]),(.inl ⟨rfl,rfl⟩),(hB.add oM oM oM)⟩⟩
     ·exfalso;omega
    ·exfalso;omega
  ·refine Q0 (U0 J (Y4 (Z2 (Z2 (Q3 (W0 (rS (kM J (kM J (kM J (Q0 (V2 ?_))))))))))))
   have hjM2:w=M:=oM
   subst hjM2;exact kE J J (.q (sR (.cons _ (.cons _ .slnil)))) (.inr (.inr ⟨hc1,hc2,_,_,_,_,rfl,rfl,hxl,(fun i=>by (have:=hB i;omega)),fS hT⟩))
end
end Ev
end Go.Proofs.YtjkdkpckjgaplaaGreat
