import Derived.Test.YtjkdkpckjgaplaaGreatZl14
import Derived.Test.YtjkdkpckjgaplaaGreatZl16
import Derived.Test.YtjkdkpckjgaplaaGreatZl10
import Derived.Test.YtjkdkpckjgaplaaGreatProg
set_option linter.unusedVariables false
set_option linter.unusedSimpArgs false
namespace Go.Proofs.YtjkdkpckjgaplaaGreat
open Go Go.RowKit
namespace Ev
variable{w:List Int}{i k:Nat}{c a b:Int}
def bW(f:Nat->Int):Nat->Int
 |0=>0
 |k+1=>bW f k+f k
theorem nL{f g:Nat->Int}:∀{k:Nat},(∀j,j<k->f j=g j)->bW f k=bW g k
 |0,_=>rfl
 |k+1,h=>by
  show bW f k+f k=bW g k+g k;rw[nL (fun j hj=>h j oM),h k oM]
theorem DZ{f:Nat->Int}{a:Nat}:∀b,bW f (a+b)=bW f a+bW (fun j=>f (a+j)) b
 |0=>(Int.add_zero _).symm
 |b+1=>by
  show bW f (a+b)+f (a+b)=_+(bW (fun j=>f (a+j)) b+f (a+b));rw[DZ b];omega
theorem BW{f:Nat->Int}{c:Int}:∀k,bW (fun j=>c*f j) k=c*bW f k
 |0=>(Int.mul_zero c).symm
 |k+1=>by
  show bW (fun j=>c*f j) k+c*f k=c*(bW f k+f k);rw[BW k,Int.mul_add]
theorem BX{f g:Nat->Int}{n:Nat}(hn:0<n):∀m,bW (fun t=>f (t / n)*g (t % n)) (n*m)=bW f m*bW g n
 |0=>by rw[Nat.mul_zero];exact(Int.zero_mul _).symm
 |m+1=>by
  rw[Nat.mul_add,Nat.mul_one,DZ,BX hn m];have e:bW (fun j=>f ((n*m+j) / n)*g ((n*m+j) % n)) n=f m*bW g n:=by
   rw[<-BW];refine nL (fun j hj=>?_);rw[Nat.mul_add_div hn,Nat.mul_add_mod,Nat.div_eq_of_lt hj,Nat.mod_eq_of_lt hj,Nat.add_zero]
  rw[e];show _=(bW f m+f m)*_;rw[Int.add_mul]
theorem BY{f:Nat->Int}(h:∀j,0<=f j){a b:Nat}(hab:a<=b):bW f a<=bW f b:=by
 obtain⟨d,rfl⟩:∃d,b=a+d:=⟨b-a,oM⟩
 induction d with
 |zero=>exact Int.le_refl _
 |succ d ih=>have:=ih oM;show bW f a<=bW f (a+d)+f (a+d);have:=h (a+d);omega
theorem PP{f:Nat->Int}(h:∀j,0<=f j)(k:Nat):0<=bW f k:=BY h (Nat.zero_le k)
theorem BZ{f:Nat->Int}{a:Nat}(h:∀j,a<=j->f j=0):∀d,bW f (a+d)=bW f a
 |0=>rfl
 |d+1=>by
  show bW f (a+d)+f (a+d)=_;rw[BZ h d,h _ oM];omega
def pN(x:Int):Int:=max x (-x)
theorem Fc(x:Int):0<=pN x:=by unfold pN;omega
theorem PQ(x y:Int):pN (x+y)<=pN x+pN y:=by unfold pN;omega
theorem PS(x y:Int):pN (x*y)=pN x*pN y:=by
 unfold pN;rcases Int.le_total 0 x with hx|hx <;> rcases Int.le_total 0 y with hy|hy
 ·have:=Int.mul_nonneg hx hy
  rw[Int.max_eq_left oM,Int.max_eq_left oM,Int.max_eq_left oM]
 ·have:=Int.mul_nonneg hx (show 0<=-y from oM)
  rw[Int.mul_neg] at this;rw[Int.max_eq_right oM,Int.max_eq_left oM,Int.max_eq_right oM,Int.mul_neg]
 ·have:=Int.mul_nonneg (show 0<=-x from oM) hy
  rw[Int.neg_mul] at this;rw[Int.max_eq_right oM,Int.max_eq_right oM,Int.max_eq_left oM,Int.neg_mul]
 ·have:=Int.mul_nonneg (show 0<=-x from oM) (show 0<=-y from oM)
  rw[Int.neg_mul_neg] at this;rw[Int.max_eq_left oM,Int.max_eq_right oM,Int.max_eq_right oM,Int.neg_mul_neg]
def rA(w:List Int)(k:Nat):Int:=bW (fun j=>w.getD j 0) k
def dA(w:List Int)(k:Nat):Int:=bW (fun j=>pN (w.getD j 0)) k
theorem mB{v:Int}(h:i<w.length):(w.set i v).getD i 0=v:=by simp[List.getD_eq_getElem?_getD,h]
theorem CQ{w:List Int}{i:Nat}{v:Int}(g:Int->Int)(hi:i<w.length):∀{k:Nat},i<k->bW (fun j=>g ((w.set i v).getD j 0)) k=bW (fun j=>g (w.getD j 0)) k-g (w.getD i 0)+g v
 |k+1,hk=>by
  show bW (fun j=>g ((w.set i v).getD j 0)) k+g ((w.set i v).getD k 0)=bW (fun j=>g (w.getD j 0)) k+g (w.getD k 0)-_+_;by_cases h:i=k
  ·subst h
   rw[mB hi,nL (g:=fun j=>g (w.getD j 0)) (fun j hj=>by rw[getD_set_ne oM])];omega
  ·rw[getD_set_ne h,CQ g hi (k:=k) oM];omega
theorem PT{v:Int}(hi:i<w.length)(hk:i<k):rA (w.set i v) k=rA w k-w.getD i 0+v:=CQ (fun x=>x) hi hk
theorem CR(hi:i<w.length)(hk:i<k):dA (w.set i (w.getD i 0+c)) k<=dA w k+pN c:=by
 have h:=CQ (v:=w.getD i 0+c) pN hi hk;have h2:=PQ (w.getD i 0) c;unfold dA;omega
theorem CS(hi:i<w.length)(hk:i<k):rA (w.set i (w.getD i 0+c)) k=rA w k+c:=by rw[PT hi hk];omega
theorem PU:(w.set i a).set (i+1) (w.getD (i+1) 0+b)=(w.set i a).set (i+1) ((w.set i a).getD (i+1) 0+b):=by rw[getD_set_ne (show i≠i+1 from oM)]
theorem H9:((w.set i a).set (i+1) b).set (i+2) (w.getD (i+2) 0+c)=((w.set i a).set (i+1) b).set (i+2) (((w.set i a).set (i+1) b).getD (i+2) 0+c):=by
 rw[getD_set_ne (show i+1≠i+2 from oM),getD_set_ne (show i≠i+2 from oM)]
theorem LX(hk:w.length=k)(hi:i+1<k):rA ((w.set i (w.getD i 0+a)).set (i+1) (w.getD (i+1) 0+b)) k=rA w k+a+b/\dA ((w.set i (w.getD i 0+a)).set (i+1) (w.getD (i+1) 0+b)) k<=dA w k+pN a+pN b:=by
 subst hk;rw[PU];have h1:=CR (w:=w.set i (w.getD i 0+a)) (i:=i+1) (k:=w.length) (c:=b) (by rw[List.length_set];omega) oM;have h2:=CR (w:=w) (i:=i) (k:=w.length) (c:=a) oM oM;rw[CS (by rw[List.length_set];omega) oM,CS oM oM];exact⟨rfl,oM⟩
theorem RX(hk:w.length=k)(hi:i+2<k):rA (((w.set i (w.getD i 0+a)).set (i+1) (w.getD (i+1) 0+b)).set (i+2) (w.getD (i+2) 0+c)) k=rA w k+a+b+c/\dA (((w.set i (w.getD i 0+a)).set (i+1) (w.getD (i+1) 0+b)).set (i+2) (w.getD (i+2) 0+c)) k<=dA w k+pN a+pN b+pN c:=by
 have h0:=LX (i:=i) (a:=a) (b:=b) hk oM;subst hk;rw[H9];have h1:=CR (w:=(w.set i (w.getD i 0+a)).set (i+1) (w.getD (i+1) 0+b)) (i:=i+2) (k:=w.length) (c:=c) (by rw[List.length_set,List.length_set];omega) oM;rw[CS (by rw[List.length_set,List.length_set];omega) oM,h0.1];exact⟨rfl,oM⟩
theorem TA(h:pM a b=1):max a b=min a b:=by unfold pM at h;(repeat' split at h) <;> omega
theorem TB(h:pM a b=2):max a b=2*min a b:=by unfold pM at h;(repeat' split at h) <;> omega
theorem TC(h:pM a b=3):max a b=3*min a b:=by unfold pM at h;(repeat' split at h) <;> omega
theorem Ia{l w:List Int}{i m:Nat}(hp:tP 9 100000 l)(hw:w.length=l.length)(hin:i+m<l.length)(hm:many l i=m) :
 rA (mH l w (i,m)) l.length=rA w l.length+36*(l.getD (i+m) 0-l.getD i 0)/\dA (mH l w (i,m)) l.length<=dA w l.length+48*(l.getD (i+m) 0-l.getD i 0):=by
 unfold mH;rcases iF l i with q|q
 ·obtain rfl:m=1:=oM
  rw[if_pos rfl];have r0:=hp.rise i oM;show rA (xS l w i) _=_/\dA (xS l w i) _<=_;unfold xS;obtain⟨e1,e2⟩:=LX (w:=w) (i:=i) (a:=18*(l.getD (i+1) 0-l.getD i 0)) (b:=18*(l.getD (i+1) 0-l.getD i 0)) hw oM;have hb:pN (18*(l.getD (i+1) 0-l.getD i 0))=18*(l.getD (i+1) 0-l.getD i 0):=by unfold pN;omega
  rw[hb] at e2;exact⟨by rw[e1];omega,oM⟩
 ·obtain rfl:m=2:=oM
  rw[if_neg (by show ¬(2=1);decide)];have r0:=hp.rise i oM;have r1:=hp.rise (i+1) oM;show rA (eB l w i (pM _ _)) _=_/\dA (eB l w i (pM _ _)) _<=_;obtain⟨h1,hh1⟩:∃h1,h1=l.getD (i+1) 0-l.getD i 0:=⟨_,rfl⟩;obtain⟨h2,hh2⟩:∃h2,h2=l.getD (i+2) 0-l.getD (i+1) 0:=⟨_,rfl⟩;have key:∀(a b c:Int),(a+b+c=36*(h1+h2))->(pN a+pN b+pN c<=48*(h1+h2))->rA (((w.set i (w.getD i 0+a)).set (i+1) (w.getD (i+1) 0+b)).set (i+2) (w.getD (i+2) 0+c)) l.length=rA w l.length+36*(l.getD (i+2) 0-l.getD i 0)/\dA (((w.set i (w.getD i 0+a)).set (i+1) (w.getD (i+1) 0+b)).set (i+2) (w.getD (i+2) 0+c)) l.length<=dA w l.length+48*(l.getD (i+2) 0-l.getD i 0):=fun a b c e1 e2=>by
   obtain⟨q1,q2⟩:=RX (w:=w) (i:=i) (a:=a) (b:=b) (c:=c) hw oM;exact⟨by rw[q1];omega,oM⟩
  unfold eB;rw[<-hh1,<-hh2];rcases yT (yS q) with hk|hk|hk
  ·rw[<-hh1,<-hh2] at hk
   have hx:=TA hk;rw[hk];have hu:AB h1 h2 1=12*min h1 h2:=rfl;simp only[hu];split <;> exact key _ _ _ oM (by unfold pN;omega)
  ·rw[<-hh1,<-hh2] at hk
   have hx:=TB hk;rw[hk];have hu:AB h1 h2 2=9*min h1 h2:=rfl;simp only[hu];split <;> exact key _ _ _ oM (by unfold pN;omega)
  ·rw[<-hh1,<-hh2] at hk
   have hx:=TC hk;rw[hk];have hu:AB h1 h2 3=8*min h1 h2:=rfl;simp only[hu];split <;> exact key _ _ _ oM (by unfold pN;omega)
theorem B0{l:List Int}(hp:tP 9 100000 l):∀(f i:Nat) (w:List Int),l.length<=i+f->i<l.length->w.length=l.length ->
 rA ((fW l i).foldl (mH l) w) l.length=rA w l.length+36*(l.getD (l.length-1) 0-l.getD i 0)/\dA ((fW l i).foldl (mH l) w) l.length<=dA w l.length+48*(l.getD (l.length-1) 0-l.getD i 0)
 |0,i,w,hf,hi,hw=>oM
 |f+1,i,w,hf,hi,hw=>by
  by_cases h:i+1<l.length
  ·rw[Qn h,List.foldl_cons]
   have hmm:=iF l i;have hin:i+many l i<l.length:=by unfold many;split <;> omega
   obtain⟨s1,s2⟩:=Ia hp hw hin rfl;obtain⟨t1,t2⟩:=B0 hp f (i+many l i) (mH l w (i,many l i)) oM hin (by rw[DD];exact hw);exact⟨by rw[t1,s1];omega,oM⟩
  ·rw[Ln oM,show i=l.length-1 by omega]
   exact⟨sM,sM⟩
theorem AQ(g:Int->Int)(hg:g 0=0)(n:Nat):∀k,bW (fun j=>g ((List.replicate n (0:Int)).getD j 0)) k=0
 |0=>rfl
 |k+1=>by
  have e:(List.replicate n (0:Int)).getD k 0=0:=by rw[List.getD_eq_getElem?_getD,List.getElem?_replicate];split <;> rfl
  show bW _ k+g ((List.replicate n (0:Int)).getD k 0)=0;rw[AQ g hg n k,e,hg];rfl
theorem AS{l:List Int}(hp:tP 9 100000 l):rA (fG l) l.length=36*(l.getD (l.length-1) 0-l.getD 0 0)/\dA (fG l) l.length<=48*(l.getD (l.length-1) 0-l.getD 0 0):=by
 obtain⟨h1,h2⟩:=B0 hp l.length 0 (List.replicate l.length 0) oM (by have:=hp.h2;omega) sM;have e1:rA (List.replicate l.length 0) l.length=0:=AQ (fun x=>x) J _ _;have e2:dA (List.replicate l.length 0) l.length=0:=AQ pN rfl _ _;rw[e1] at h1;rw[e2] at h2;exact⟨by unfold fG;omega,by unfold fG;omega⟩
theorem D0(h:w.length<=k):dA w k=dA w w.length:=by
 obtain⟨d,rfl⟩:∃d,k=w.length+d:=⟨k-w.length,oM⟩;exact BZ (fun j hj=>by rw[rZ hj];rfl) d
theorem LY{x j:Nat}:(cT x).getD j 0=if j=x then 1 else 0:=by
 unfold cT;by_cases h:j=x
 ·subst h;rw[if_pos rfl,mB sM]
 ·rw[if_neg h,getD_set_ne (Ne.symm h),List.getD_eq_getElem?_getD,List.getElem?_replicate];split <;> rfl
theorem D5(g:Int->Int)(h0:g 0=0){x:Nat}:∀{k:Nat},bW (fun j=>g ((cT x).getD j 0)) k=if x<k then g 1 else 0
 |0=>by rw[if_neg oM];rfl
 |k+1=>by
  show bW _ k+g ((cT x).getD k 0)=_;rw[D5 g h0,LY];by_cases h1:k=x
  ·rw[if_pos h1,if_neg oM,if_pos oM];omega
  ·rw[if_neg h1,h0]
   by_cases h2:x<k
   ·rw[if_pos h2,if_pos oM];omega
   ·rw[if_neg h2,if_neg oM];rfl
theorem D6{x k:Nat}(h:x<k):dA (cT x) k=1:=(D5 pN rfl).trans (if_pos h)
theorem LZ{al up:List Int}{n N t:Nat}(h:t<N):(kY al up n N).getD (t+1) 0=TP al up n t:=by
 unfold kY;rw[List.getD_eq_getElem?_getD,List.getElem?_cons_succ,List.getElem?_map,List.getElem?_range h];rfl
theorem AT{f:Nat->Int}:∀k,bW f (k+1)=f 0+bW (fun j=>f (j+1)) k
 |0=>by show 0+f 0=f 0+0;omega
 |k+1=>by
  show bW f (k+1)+f (k+1)=f 0+(bW (fun j=>f (j+1)) k+f (k+1));rw[AT k];omega
theorem L0{al up:List Int}{n m:Nat}(hn:0<n):dA (kY al up n (n*m)) (n*m+1)=dA al m*dA up n:=by
 unfold dA;rw[AT];have e0:pN ((kY al up n (n*m)).getD 0 0)=0:=rfl;rw[e0,Int.zero_add,<-BX hn];refine nL (fun t ht=>?_);rw[LZ ht];exact PS _ _
section
variable{X:FuncId->List Value->St->(Value->St->Bool)->Bool}
end
variable{w:List Int}
structure RY(s:St)(a:Option Addr)(M:List (List Int)):Prop where
 spot:∀b,a=some b->b.spot=none
 row:∀k,k<M.length->∃b o ai ci,a=some ⟨b,o,none⟩/\At s b (o+k*1) (.slice ai (M.getD k []).length ci)/\aN s ai (M.getD k [])
 len:M.length<140737488355328
theorem RY.ext{s s':St}{a:Option Addr}{M:List (List Int)}(h:RY s a M)(hw:Wf s)(x:sX s s'):RY s' a M:=
 ⟨h.spot,fun k hk=>by
  obtain⟨b,o,ai,ci,h1,h2,h3⟩:=h.row k hk;exact⟨b,o,ai,ci,h1,h2.ext hw x,h3.ext hw x⟩,h.len⟩
def Vb(M:List (List Int))(n t:Nat):Int:=(M.getD (t / n) []).getD (t % n) 0
def hpt(M:List (List Int))(n t:Nat):List Int:=0::(List.range t).map (Vb M n)
theorem CT{a b:Nat}(h:a<=b):dA w a<=dA w b:=BY (fun j=>Fc _) h
theorem CV{a:Nat}:0<=dA w a:=PP (fun j=>Fc _) a
def TD(w:List Int):Bool:=decide (dA w w.length<=3600000000000)
theorem L6{k:Nat}(hk:k<w.length)(h:¬(-(3600000000000-dA w k)<=w.getD k 0/\w.getD k 0<=3600000000000-dA w k)):TD w=false:=by
 have h1:=CT (w:=w) (a:=k+1) (b:=w.length) oM;have h2:dA w (k+1)=dA w k+pN (w.getD k 0):=rfl;unfold TD;refine decide_eq_false (fun q=>h ?_);unfold pN at h2;omega
theorem L7{k:Nat}(hk:k=w.length)(h:dA w k<=3600000000000):TD w=true:=by subst hk;exact decide_eq_true h
def B1(a b:Int):Int:=if a.tmod b<0 then a.tdiv b-1 else a.tdiv b
theorem Hs{a b:Int}(ha:-5000000000000000000<=a/\a<=5000000000000000000)(hb:0<b):-5000000000000000000<=a.tdiv b/\a.tdiv b<=5000000000000000000:=by
 rcases Int.le_total 0 a with h|h
 ·rw[Int.tdiv_eq_ediv_of_nonneg h]
  have h1:=Int.ediv_nonneg h (show 0<=b from oM);have h2:=Int.ediv_le_self b h;omega
 ·have e:a.tdiv b = -((-a).tdiv b):=by rw[Int.neg_tdiv,Int.neg_neg]
  rw[e,Int.tdiv_eq_ediv_of_nonneg (show 0<=-a from oM)];have h1:=Int.ediv_nonneg (show 0<=-a from oM) (show 0<=b from oM);have h2:=Int.ediv_le_self b (show 0<=-a from oM);omega
section
variable{X:FuncId->List Value->St->(Value->St->Bool)->Bool}
theorem zJ(n:Nat)(x y:Int)(s:St)(hs:Wf s)(hx:-5000000000000000000<=x/\x<=5000000000000000000)(hy:0<y):bX Tryz.prog (bZ cB) X (n+60) 62 [.int .i64 x,.int .i64 y] s (fun v A=>v = .int .i64 (B1 x y)/\A=[]):=by
 refine enter O6 rfl hs ?_;unfold NW;have hq:=Hs hx hy;refine rS (kM J (Q0 (rS (kM J (kM J (kO (qR J J oM oM (kM J (Q0 (rQ (rS (kM J (kM J (kO (xO J J oM (dB J J (fun h1=>?_) (fun h1=>?_)))))))))))))))))
 ·refine Q0 (Y0 J (rI (kM J (kO (bN J J oM (kM J (Q0 (W0 (rS (kM J (kM J (Q0 (V2 (aO J ⟨congrArg (Value.int .i64) ?_,rfl⟩))))))))))))))
  unfold B1
  first|exact(if_pos oM).symm|exact(if_neg oM).symm
 ·refine Q0 (U0 J (Q1 (W0 (rS (kM J (kM J (Q0 (V2 (aO J ⟨congrArg (Value.int .i64) ?_,rfl⟩)))))))))
  unfold B1
  first|exact(if_pos oM).symm|exact(if_neg oM).symm
theorem gX(n:Nat)(x lo hi:Int)(s:St)(hs:Wf s):bX Tryz.prog (bZ cB) X (n+20) 153 [.int .i64 x,.int .i64 lo,.int .i64 hi] s (fun v A=>v = .bool (decide (lo<=x/\x<=hi))/\A=[]):=by
 refine enter KM rfl hs ?_;unfold Gk;refine rS (kM J (Q0 (rS (kM J (kM J (kO (eV J J (fun h1=>?_) (fun h1=>?_))))))))
 ·refine kM J (kG (U2 J (kG (U2 J (kG (eV J J (fun h2=>?_) (fun h2=>?_)))))))
  ·refine cA J J J (kM J (Q0 (V2 (aO J ⟨congrArg Value.bool ?_,rfl⟩))))
   first|exact(decide_eq_true oM).symm|exact(decide_eq_false oM).symm
  ·refine cA J J J (kM J (Q0 (V2 (aO J ⟨congrArg Value.bool ?_,rfl⟩))))
   first|exact(decide_eq_true oM).symm|exact(decide_eq_false oM).symm
 ·refine kM J (V0 (V0 (V0 (bK J J J (kM J (Q0 (V2 (aO J ⟨congrArg Value.bool ?_,rfl⟩))))))))
  first|exact(decide_eq_true oM).symm|exact(decide_eq_false oM).symm
theorem L8(n:Nat)(a:Option Addr)(cap:Nat)(l:List Int)(s:St)(hs:Wf s)(hn:281474976710656<=n)(hl:aN s a l)(h65:l.length<=65):bX Tryz.prog (bZ cB) X (n+200) 120 [.slice a l.length cap] s (fun v A=>v = .bool (TD l)/\A=[]):=by
 refine enter Kx rfl hs ?_;unfold F6;have hlen:=hl.len;refine rS (kM J (Q0 (rS (kM J (Q0 (rQ (rS (kM J (aJ J hl.spot (kM J (Q0 (W1 (U4 (fun j e A=>∃(k:Nat),e=[(3,.int .i64 (3600000000000-dA l k)),(6,.slice a l.length cap),(7,.int .i64 (l.length:Int)),(8,.int .i64 (k:Int))]/\A=[]/\j=l.length-k/\k<=l.length/\0<=dA l k/\dA l k<=3600000000000) 120 0 281474976710656 ?_ (j:=_) (env2:=_) (A2:=_) ?_ ?_ ?_ ?_ ⟨0,rfl,rfl,rfl,Nat.zero_le _,(by show 0<=(0:Int)/\(0:Int)<=3600000000000;decide)⟩)))))))))))))
 rotate_left
 ·omega
 ·omega
 ·exact lL
 ·exact .slnil
 rintro n hn j _ _ ⟨k,rfl,rfl,rfl,hk,hb⟩;refine rS (dB J J (fun h1=>?_) (fun h1=>?_))
 ·refine Q0 (rQ (Y0 J (Q1 (W0 (rQ (W1 (rS (kO (Q7 (j:=k) hl rfl rfl oM (by first|rfl|omega) oM (fun _ _ a2=>(kO (W6 J (hl.at a2 oM) (kM J (Q0 (rQ (rS (kM J (kM J (kO (xQ J oM (kM J (kO (bB J J (fun s1 h1=>gX _ _ _ _ s1 h1.wf) (fun h3=>?_) (fun h3=>?_))))))))))))))))))))))))
  ·refine eP J (Q0 (U0 J (Q1 (W0 (rI (kM J (kM J (kM J (kO (xQ J oM (kO (Dx J (kO (bN J J oM (kM J (Q0 (Z1 (W0 (rI (aX J J oM (kM J (Q0 (W0 ?_)))))))))))))))))))))))
   exact⟨rfl,_,_,_,(show l.length-(k+1)<l.length-k from oM),(lc 3 J (lc 6 J (lc 7 J (lc 8 J fF.nil)))),.slnil,⟨k+1,(by rw[show(3600000000000-dA l (k+1):Int)=3600000000000-dA l k-max (l.getD k 0) (-(l.getD k 0)) from by (show 3600000000000-(dA l k+pN (l.getD k 0))=_;unfold pN;omega)];rfl),rfl,rfl,oM,(by show 0<=dA l k+pN (l.getD k 0)/\dA l k+pN (l.getD k 0)<=3600000000000;unfold pN;omega)⟩⟩
  ·refine eP J (Q0 (Y0 J (rS (kM J (Q0 (V2 (W3 (Y6 (W3 (W3 (Y6 (W3 (aO J ⟨congrArg Value.bool ?_,rfl⟩)))))))))))))
   first|exact(L6 (k:=k) oM oM).symm|exact(L7 (k:=k) oM oM).symm
 ·refine Q0 (rQ (U0 J (Y4 (Z2 (Z2 (Q3 (W0 (rS (kM J (Q0 (V2 (aO J ⟨congrArg Value.bool ?_,rfl⟩))))))))))))
  first|exact(L6 (k:=k) oM oM).symm|exact(L7 (k:=k) oM oM).symm
theorem D7(n:Nat)(a:Option Addr)(cap:Nat)(l:List Int)(m:Int)(s:St)(hs:Wf s)(hn:281474976710656<=n)(hl:aN s a l)(hm:0<=m/\m<=1000000000):bX Tryz.prog (bZ cB) X (n+200) 121 [.slice a l.length cap,.int .i64 m] s (fun v A=>v = .bool (qT (-m) m l)/\A=[]):=by
 refine enter Ky rfl hs ?_;unfold F7;have hlen:=hl.len;refine rS (kM J (Q0 (rQ (rS (kM J (aJ J hl.spot (kM J (Q0 (W1 (U4 (fun j e A=>∃(k:Nat),e=[(1,.int .i64 m),(7,.slice a l.length cap),(8,.int .i64 (l.length:Int)),(9,.int .i64 (k:Int))]/\A=[]/\j=l.length-k/\k<=l.length/\qT (-m) m l=qT (-m) m (l.drop k)) 120 0 281474976710656 ?_ (j:=_) (env2:=_) (A2:=_) ?_ ?_ ?_ ?_ ⟨0,rfl,rfl,rfl,Nat.zero_le _,rfl⟩))))))))))
 rotate_left
 ·omega
 ·omega
 ·exact lL
 ·exact .slnil
 rintro n hn j _ _ ⟨k,rfl,rfl,rfl,hk,hi⟩;refine rS (dB J J (fun h1=>?_) (fun h1=>?_))
 ·refine Q0 (rQ (Y0 J (Q1 (W0 (rQ (W1 (rS (kO (Q7 (j:=k) hl rfl rfl oM (by first|rfl|omega) oM (fun _ _ a2=>(kO (W6 J (hl.at a2 oM) (kM J (Q0 (rS (kM J (kM J (kO (xQ J oM (kM J (kO (bB J J (fun s1 h1=>gX _ _ _ _ s1 h1.wf) (fun h3=>?_) (fun h3=>?_)))))))))))))))))))))))
  ·refine eP J (Q0 (U0 J (Q1 (Z1 (W0 (rI (aX J J oM (kM J (Q0 (W0 ?_))))))))))
   exact⟨rfl,_,_,_,(show l.length-(k+1)<l.length-k from oM),lL,.slnil,⟨k+1,rfl,rfl,rfl,oM,yR oM hi oM⟩⟩
  ·refine eP J (Q0 (Y0 J (rS (kM J (Q0 (V2 (Y6 (W3 (W3 (Y6 (W3 (aO J ⟨congrArg Value.bool ?_,rfl⟩))))))))))))
   first|exact(nE oM hi oM).symm|exact(nF hi oM).symm
 ·refine Q0 (rQ (U0 J (Y4 (Z2 (Z2 (Q3 (W0 (rS (kM J (Q0 (V2 (aO J ⟨congrArg Value.bool ?_,rfl⟩))))))))))))
  first|exact(nE oM hi oM).symm|exact(nF hi oM).symm
end
variable{l1 l2:List Int}
theorem dN{wk ws ww:Int}:(dL wk ws ww l1 l2).length=l2.length*l1.length+1:=fD
theorem zK{wk:Int}{ws ww:Nat}(hp1:tP 9 100000 l1)(hp2:tP 9 100000 l2)(h15:l2.getD (l2.length-1) 0<=15000)(h1:wk=1->0<ww)(hs:ws<l1.length)(hw:ww<l2.length)(hk:1<=wk/\wk<=4):dA (dL wk ws ww l1 l2) (l2.length*l1.length+1)<=3600000000000:=by
 have hn:=hp2.h2;unfold dL;rw[L0 oM];obtain⟨_,t1⟩:=AS hp1;obtain⟨_,t2⟩:=AS hp2;have a0:=hp1.lo 0;have a1:=hp1.lo (l1.length-1);have b0:=hp2.lo 0;have e1:dA (PF wk (ws:Int).toNat l1) l1.length<=4800000:=by
  unfold PF;split
  ·omega
  ·rw[Int.toNat_natCast,D6 hs];decide
 have e2:dA (PH wk (ww:Int).toNat l2) l2.length<=720000:=by
  unfold PH;rw[Int.toNat_natCast];split
  ·rename_i hk1
   have hq:=lZ hp2 (k:=ww+1) (by have:=h1 hk1;omega) oM;have hl:(l2.take (ww+1)).length=ww+1:=by rw[List.length_take];omega
   obtain⟨_,t3⟩:=AS hq;have hw3:=eN (l:=l2.take (ww+1));rw[D0 oM,hw3];have z0:=hq.lo 0;have z1:(l2.take (ww+1)).getD ((l2.take (ww+1)).length-1) 0<=15000:=by
    rw[hl,List.getD_eq_getElem?_getD,List.getElem?_take,if_pos oM,<-List.getD_eq_getElem?_getD];exact Int.le_trans (AD hp2 (l2.length-1-ww) ww oM) h15
   omega
  ·split
   ·omega
   ·rw[D6 hw];decide
 have f1:0<=dA (PF wk (ws:Int).toNat l1) l1.length:=CV;have f2:0<=dA (PH wk (ww:Int).toNat l2) l2.length:=CV;exact Int.le_trans (Int.mul_le_mul e1 e2 f2 dE) dE
theorem vJ{wk:Int}:0<gV wk/\gV wk<=648000000:=by unfold gV;split <;> (try split) <;> decide
theorem h15(h:cJ l1 l2=true):l2.getD (l2.length-1) 0<=15000:=((yU h).lo _).2
section
variable{X:FuncId->List Value->St->(Value->St->Bool)->Bool}
end
variable{l1 l2:List Int}{i:Nat}
theorem lI{A:List Ob}{b e:Nat}{op:Bool}{l:List Value}(h:Ob.row b e op l∈A):lK A b e op l:=by
 induction A with
 |nil=>cases h
 |cons x A ih=>
  rcases List.mem_cons.1 h with h|h
  ·subst h;exact .here
  ·exact .next (ih h)
def sZ(l1 l2:List Int)(i y:Nat):List Int:=((fG l2).take y).map fun x=>(fG l1).getD i 0*x
theorem AU{i y:Nat}(h:y<=(fG l2).length):(sZ l1 l2 i y).length=y:=by
 unfold sZ;rw[List.length_map,List.length_take];omega
theorem AV{i y:Nat}(h:y<(fG l2).length):ints (sZ l1 l2 i y)++[.int .i64 ((fG l1).getD i 0*(fG l2).getD y 0)]=ints (sZ l1 l2 i (y+1)):=by
 have e:(fG l2).getD y 0=(fG l2)[y]:=by rw[List.getD_eq_getElem?_getD,List.getElem?_eq_getElem h];rfl
 unfold sZ ints;rw[List.take_add_one,List.getElem?_eq_getElem h,List.map_append,List.map_append,e];rfl
theorem D8(h:0<(fG l2).length):ints (sZ l1 l2 i 1)=[.int .i64 ((fG l1).getD i 0*(fG l2).getD 0 0)]:=(AV (y:=0) h).symm
def Sl(n c:Nat):Value:=.slice (some ⟨c,0,none⟩) n OPEN
def Ht(l1 l2:List Int)(bs:List Nat)(T:List Ob):Prop:=∀j c,bs[j]? = some c->Ob.row c 3 true (ints (sZ l1 l2 j l2.length))∈T
theorem B2{bs:List Nat}{T:List Ob}{c i:Nat}(h:Ht l1 l2 bs T)(hi:bs.length=i):Ht l1 l2 (bs++[c]) (.row c 3 true (ints (sZ l1 l2 i l2.length))::T):=by
 intro j d hd;by_cases hj:j<bs.length
 ·rw[List.getElem?_append_left hj] at hd
  exact List.mem_cons_of_mem _ (h j d hd)
 ·rw[List.getElem?_append_right oM] at hd
  have:j=bs.length:=by
   by_cases hq:j-bs.length=0
   ·omega
   ·rw[List.getElem?_eq_none (by simp;omega)] at hd;cases hd
  subst this;simp at hd;subst hd;rw[hi];exact List.mem_cons_self
section
variable{X:FuncId->List Value->St->(Value->St->Bool)->Bool}
theorem PV(n:Nat)(a1 a2:Option Addr)(c1 c2:Nat)(l1 l2:List Int)(s:St)(hs:Wf s)(hn:1407374883553280<=n)(hl1:aN s a1 l1)(hl2:aN s a2 l2)(hpl:cJ l1 l2=true)(hp1:tP 9 100000 l1)(hp2:tP 9 100000 l2):bX Tryz.prog (bZ cB) X (n+1600) 122 [.slice a1 l1.length c1,.slice a2 l2.length c2] s (fun v A=>∃b bs T,v = .tuple #[.slice (some ⟨b,0,none⟩) l1.length OPEN,.int .i64 0]/\A = .row b 22 true (bs.map (Sl l2.length))::T/\bs.length=l1.length/\Ht l1 l2 bs T):=by
 refine enter Kz rfl hs ?_;unfold F8;have hlen1:=hl1.len;have hlen2:=hl2.len;have hw1:=eN (l:=l1);have hw2:=eN (l:=l2);have hm1:=hp1.hm;have hm2:=hp2.hm;have h21:=hp1.h2;have h22:=hp2.h2;refine rS (kM J (kM J (Q0 (rQ (rS (kM J (kM J (kO (qB J J (fun s1 h1=>HZ _ _ _ _ _ _ _ s1 h1.wf oM (hl1.ext hs h1.2.1) (hl2.ext hs h1.2.1)) (fun h1=>?_) (fun h1=>?_))))))))))
 ·refine eP J (Q0 (U0 J (Q1 (W0 (rS (kM J (kO (Z4 J J (fun s1 h1=>tQ _ _ _ _ s1 h1.wf oM (hl1.ext hs h1.2.1) hp1) (fun v1 A1 q1=>?_)))))))))
  obtain⟨b2,rfl,rfl⟩:=q1;refine kM J (Q0 (rS (kM J (kO (Z4 J J (fun s1 h1=>tQ _ _ _ _ s1 h1.wf oM (hl2.ext hs h1.2.1) hp2) (fun v1 A1 q1=>?_))))));obtain⟨b3,rfl,rfl⟩:=q1;refine kM J (Q0 (rS (kM J (Q0 (rQ (rS (kM J (Q0 (W1 (bM (rQ (rS (kM J (kM J (kO (cK J (dB J J (fun h4=>?_) (fun h4=>?_))))))))))))))))))
  ·refine Q0 (Y0 J (Q1 (W0 (rQ (W1 (rS (kM J (Q0 (rQ (rS (kM J (Q0 (W1 (bM (rQ (rS (kM J (kM J (kO (cK J (dB J J (fun h5=>?_) (fun h5=>?_))))))))))))))))))))))
   ·refine Q0 (Y0 J (Q1 (W0 (rQ (W1 (rI (kM J (kM J (kM J (cN (j:=0) J J oM oM (kO (dM J .h1 (by first|omega|(simp;done)|(simp;omega)) (kM J (kM J (cN (j:=0) J J oM oM (kO (dM J .here (by first|omega|(simp;done)|(simp;omega)) (aV J J (qD (fI hp1 _) (fI hp2 _)) (kO (bF J J J (fun b6=>(kO (gZ J J (fK.own .here rfl sM) dE oM oM (fun b7=>(kM J (Q0 (Z1 (W0 (rI ?_)))))))))))))))))))))))))))))
    refine kM J (aX J J dE (kM J (Q0 (W0 (U4 (fun j e A=>∃(y br:Nat),e=[(6,.slice (some ⟨b2,0,none⟩) l1.length l1.length),(7,.slice (some ⟨b3,0,none⟩) l2.length l2.length),(8,.slice none 0 0),(9,.int .i64 0),(10,.slice (some ⟨br,0,none⟩) y OPEN),(11,.int .i64 (y:Int))]/\A=(.row br 3 true (ints (sZ l1 l2 0 y))::(.row b3 3 false (ints (fG l2))::(.row b2 3 false (ints (fG l1))::[])))/\j=l2.length-y/\y<=l2.length) 400 0 281474976710656 ?_ (j:=_) (env2:=_) (A2:=_) ?_ ?_ ?_ ?_ ⟨1,b7,rfl,rfl,rfl,oM⟩)))))
    rotate_left
    ·omega
    ·omega
    ·exact lL
    ·rw[D8 oM]
     exact(.q (.cons _ (.q (.q .slnil))))
    rintro n hn j _ _ ⟨y,br,rfl,rfl,rfl,hy⟩;refine rQ (rS (kM J (kM J (kO (cK J (dB J J (fun h8=>?_) (fun h8=>?_)))))))
    ·refine Q0 (Y0 J (Q1 (W0 (rQ (W1 (rI (kM J (kM J (kM J (cN (j:=0) J J oM oM (kO (dM J .h2 (by first|omega|(simp;done)|(simp;omega)) (kM J (kM J (cN (j:=y) J J oM oM (kO (dM J .h1 (by first|omega|(simp;done)|(simp;omega)) (aV J J (qD (fI hp1 _) (fI hp2 _)) (kO (bF J J J (fun b9=>(kO (cO J J (fK.own .here rfl sM) .h1 (by rw[bU,AU oM,Nat.mul_one]) (.inl ⟨rfl,rfl⟩) dE oM oM (fun b10=>(kM J (Q0 (Z1 (W0 (rI ?_)))))))))))))))))))))))))))))
     refine kM J (aX J J oM (kM J (Q0 (W0 ?_))));exact⟨rfl,_,_,_,(show l2.length-(y+1)<l2.length-y from oM),lL,(.q (.cons _ (.q (.q .slnil)))),⟨y+1,b10,rfl,(by simp only[List.set_cons_zero];rw[AV oM]),rfl,oM⟩⟩
    ·refine Q0 (U0 J (Y4 (Z2 (Z2 (Q3 (W0 (rI (kM J (kM J (kO (bF J J J (fun b11=>(kO (gZ J J (fK.own .here rfl sM) dE oM oM (fun b12=>(kM J (Q0 (Z1 (W0 (rI (kM J (aX J J dE (kM J (Q0 (W0 ?_)))))))))))))))))))))))))
     have hyl:y=l2.length:=oM;subst hyl;refine U4 (fun j e A=>∃(i b:Nat) (bs:List Nat) (T:List Ob),e=[(6,.slice (some ⟨b2,0,none⟩) l1.length l1.length),(7,.slice (some ⟨b3,0,none⟩) l2.length l2.length),(8,.slice (some ⟨b,0,none⟩) i OPEN),(9,.int .i64 (i:Int))]/\A=(.row b 22 true (bs.map (Sl l2.length))::T)/\j=l1.length-i/\i<=l1.length/\bs.length=i/\Ht l1 l2 bs T/\Ob.row b2 3 false (ints (fG l1))∈T/\Ob.row b3 3 false (ints (fG l2))∈T) 900 281474976710656 281474976710656 ?_ (j:=_) (env2:=_) (A2:=_) ?_ ?_ ?_ ?_ ⟨1,b12,[br],[.row br 3 true (ints (sZ l1 l2 0 l2.length)),.row b3 3 false (ints (fG l2)),.row b2 3 false (ints (fG l1))],rfl,rfl,rfl,oM,rfl,(B2 (bs:=[]) (fun _ _ h=>by simp at h) J),sM,sM⟩
     rotate_left
     ·omega
     ·omega
     ·exact lL
     ·exact(.q (.cons _ (.q (.q (.q .slnil)))))
     rintro n hn j _ _ ⟨i,b,bs,T,rfl,rfl,rfl,hi,hbs,hrw,hm1,hm2⟩;refine rQ (rS (kM J (kM J (kO (cK J (dB J J (fun h13=>?_) (fun h13=>?_)))))))
     ·refine Q0 (Y0 J (Q1 (W0 (rQ (W1 (rS (kM J (Q0 (rQ (rS (kM J (Q0 (W1 (bM (rQ (rS (kM J (kM J (kO (cK J (dB J J (fun h14=>?_) (fun h14=>?_))))))))))))))))))))))
      ·refine Q0 (Y0 J (Q1 (W0 (rQ (W1 (rI (kM J (kM J (kM J (cN (j:=i) J J oM oM (kO (dM J (lI (e:=3) (op:=false) (l:=ints (fG l1)) (by simp[hm1])) (by first|omega|(simp;done)|(simp;omega)) (kM J (kM J (cN (j:=0) J J oM oM (kO (dM J (lI (e:=3) (op:=false) (l:=ints (fG l2)) (by simp[hm2])) (by first|omega|(simp;done)|(simp;omega)) (aV J J (qD (fI hp1 _) (fI hp2 _)) (kO (bF J J J (fun b15=>(kO (gZ J J (fK.own .here rfl sM) dE oM oM (fun b16=>(kM J (Q0 (Z1 (W0 (rI ?_)))))))))))))))))))))))))))))
       refine kM J (aX J J dE (kM J (Q0 (W0 (U4 (fun j e A=>∃(y br:Nat),e=[(6,.slice (some ⟨b2,0,none⟩) l1.length l1.length),(7,.slice (some ⟨b3,0,none⟩) l2.length l2.length),(8,.slice (some ⟨b,0,none⟩) i OPEN),(9,.int .i64 (i:Int)),(10,.slice (some ⟨br,0,none⟩) y OPEN),(11,.int .i64 (y:Int))]/\A=(.row br 3 true (ints (sZ l1 l2 i y))::(.row b 22 true (bs.map (Sl l2.length))::T))/\j=l2.length-y/\y<=l2.length) 400 0 281474976710656 ?_ (j:=_) (env2:=_) (A2:=_) ?_ ?_ ?_ ?_ ⟨1,b16,rfl,rfl,rfl,oM⟩)))))
       rotate_left
       ·omega
       ·omega
       ·exact lL
       ·rw[D8 oM]
        exact(.q (.cons _ (.q (.refl _))))
       rintro n hn j _ _ ⟨y,br,rfl,rfl,rfl,hy⟩;refine rQ (rS (kM J (kM J (kO (cK J (dB J J (fun h17=>?_) (fun h17=>?_)))))))
       ·refine Q0 (Y0 J (Q1 (W0 (rQ (W1 (rI (kM J (kM J (kM J (cN (j:=i) J J oM oM (kO (dM J (lI (e:=3) (op:=false) (l:=ints (fG l1)) (by simp[hm1])) (by first|omega|(simp;done)|(simp;omega)) (kM J (kM J (cN (j:=y) J J oM oM (kO (dM J (lI (e:=3) (op:=false) (l:=ints (fG l2)) (by simp[hm2])) (by first|omega|(simp;done)|(simp;omega)) (aV J J (qD (fI hp1 _) (fI hp2 _)) (kO (bF J J J (fun b18=>(kO (cO J J (fK.own .here rfl sM) .h1 (by rw[bU,AU oM,Nat.mul_one]) (.inl ⟨rfl,rfl⟩) dE oM oM (fun b19=>(kM J (Q0 (Z1 (W0 (rI ?_)))))))))))))))))))))))))))))
        refine kM J (aX J J oM (kM J (Q0 (W0 ?_))));exact⟨rfl,_,_,_,(show l2.length-(y+1)<l2.length-y from oM),lL,(.q (.cons _ (.q (.refl _)))),⟨y+1,b19,rfl,(by simp only[List.set_cons_zero];rw[AV oM]),rfl,oM⟩⟩
       ·refine Q0 (U0 J (Y4 (Z2 (Z2 (Q3 (W0 (rI (kM J (kM J (kO (bF J J J (fun b20=>(kO (cO J J (fK.own .here rfl sM) .h2 (by simp[hbs]) (.inl ⟨rfl,rfl⟩) dE oM oM (fun b21=>(kM J (Q0 (Z1 (W0 (rI (kM J (aX J J oM (kM J (Q0 (W0 ?_)))))))))))))))))))))))))
        have hyl:y=l2.length:=oM;subst hyl;exact⟨rfl,_,_,_,(show l1.length-(i+1)<l1.length-i from oM),lL,(.q (.cons _ (.q (.refl _)))),⟨i+1,b21,bs++[br],_,rfl,(by rw[List.map_append];rfl),rfl,oM,(by simp[hbs]),(B2 hrw hbs),(by simp[hm1]),(by simp[hm2])⟩⟩
      ·exfalso;omega
     ·refine Q0 (U0 J (Y4 (Z2 (Z2 (Q3 (W0 (rS (kM J (kM J (kM J (Q0 (V2 ?_))))))))))))
      have hil:i=l1.length:=oM
      subst hil;exact kE J J (.refl _) ⟨b,bs,T,rfl,rfl,hbs,hrw⟩
   ·exfalso;omega
  ·exfalso;omega
 ·rw[hpl] at h1;cases h1
end
variable{tgt O l1 l2:List Int}{m n i y t ws ww:Nat}{P:Nat->Prop}
def Bm(O tgt:List Int)(P:Nat->Prop):Prop:=O.length=tgt.length/\∀t,O.getD t 0=tgt.getD t 0∨(O.getD t 0=0/\¬P t)
theorem qM(h:tgt.length=m)(hP:∀t,¬P t):Bm (List.replicate m 0) tgt P:=by
 refine⟨by simp[h],fun t=> .inr ⟨?_,hP t⟩⟩;rw[List.getD_eq_getElem?_getD,List.getElem?_replicate];split <;> rfl
theorem vL{P P':Nat->Prop}{j:Nat}{v:Int}(h:Bm O tgt P)(hj:j<O.length)(hv:v=tgt.getD j 0)(hP:∀t,P' t->P t∨t=j):Bm (O.set j v) tgt P':=by
 refine⟨by rw[List.length_set];exact h.1,fun t=>?_⟩;by_cases ht:j=t
 ·subst ht
  refine .inl ?_;rw[<-hv];simp[List.getD_eq_getElem?_getD,hj]
 ·rw[getD_set_ne ht]
  rcases h.2 t with h1|⟨h1,h2⟩
  ·exact .inl h1
  ·exact .inr ⟨h1,fun q=>by rcases hP t q with q|q;exact h2 q;exact ht q.symm⟩
theorem Ib{P P':Nat->Prop}(h:Bm O tgt P)(hP:∀t,P' t->P t):Bm O tgt P':=
 ⟨h.1,fun t=>by rcases h.2 t with h1|⟨h1,h2⟩;exact .inl h1;exact .inr ⟨h1,fun q=>h2 (hP t q)⟩⟩
theorem vM(h:Bm O tgt P)(h0:∀t,¬P t->tgt.getD t 0=0):O=tgt:=by
 refine List.ext_getElem h.1 (fun t h1 h2=>?_);have e:O.getD t 0=tgt.getD t 0:=by
  rcases h.2 t with q|⟨q,q2⟩
  ·exact q
  ·rw[q,h0 t q2]
 simpa [List.getD_eq_getElem?_getD,h1,h2] using e
def PG(n m i y:Nat):Nat->Prop:=fun t=>∃i' y',((i'<i/\y'<m)∨(i'=i/\y'<y))/\t=n*i'+y'+1
theorem PW(h:PG n m i (y+1) t):PG n m i y t∨t=n*i+y+1:=by
 obtain⟨i',y',h1,h2⟩:=h;rcases h1 with h1|⟨h1,h3⟩
 ·exact .inl ⟨i',y',.inl h1,h2⟩
 ·by_cases hy:y'=y
  ·subst hy;subst h1;exact .inr h2
  ·exact .inl ⟨i',y',.inr ⟨h1,oM⟩,h2⟩
theorem PX(h:PG n m (i+1) 0 t):PG n m i m t:=by
 obtain⟨i',y',h1,h2⟩:=h;rcases h1 with ⟨h1,h3⟩|⟨_,h3⟩
 ·by_cases hi:i'=i
  ·exact⟨i',y',.inr ⟨hi,h3⟩,h2⟩
  ·exact⟨i',y',.inl ⟨oM,h3⟩,h2⟩
 ·omega
def P2(n w i:Nat):Nat->Prop:=fun t=>∃i',i'<i/\t=n*i'+w+1
def P3(n s y:Nat):Nat->Prop:=fun t=>∃y',y'<y/\t=n*s+y'+1
theorem PY{n w i t:Nat}(h:P2 n w (i+1) t):P2 n w i t∨t=n*i+w+1:=by
 obtain⟨i',h1,h2⟩:=h;by_cases hi:i'=i
 ·subst hi;exact .inr h2
 ·exact .inl ⟨i',oM,h2⟩
theorem PZ{n s y t:Nat}(h:P3 n s (y+1) t):P3 n s y t∨t=n*s+y+1:=by
 obtain⟨y',h1,h2⟩:=h;by_cases hy:y'=y
 ·subst hy;exact .inr h2
 ·exact .inl ⟨y',oM,h2⟩
theorem AW(hy:y<n)(hi:i<m):n*i+y<n*m:=by
 have:n*(i+1)<=n*m:=Nat.mul_le_mul_left _ hi;rw[Nat.mul_add,Nat.mul_one] at this;omega
theorem AX{al up:List Int}(hy:y<n)(hi:i<m):(kY al up n (n*m)).getD (n*i+y+1) 0=al.getD i 0*up.getD y 0:=by
 rw[<-He (al:=al) (up:=up) hy,List.getD_eq_getElem?_getD];have:=AW hy hi;unfold kY;rw[List.getElem?_cons_succ,List.getElem?_map,List.getElem?_range this];rfl
theorem vN{al up:List Int}(h:∀i y,y<n->t=n*i+y+1->i<m->al.getD i 0*up.getD y 0=0):(kY al up n (n*m)).getD t 0=0:=by
 cases t with
 |zero=>rfl
 |succ t=>
  by_cases ht:t<n*m
  ·have hn:0<n:=by
    rcases Nat.eq_zero_or_pos n with q|q
    ·subst q;simp at ht
    ·exact q
   have e:t=n*(t / n)+t % n:=(Nat.div_add_mod t n).symm;have hy:t % n<n:=Nat.mod_lt _ hn;have hi:t / n<m:=(Nat.div_lt_iff_lt_mul hn).2 (by rw[Nat.mul_comm];exact ht);have e2:t+1=n*(t / n)+t % n+1:=oM
   rw[e2,AX hy hi];exact h _ _ hy e2 hi
  ·rw[rZ (by rw[fD];omega)]
theorem zM{x:Nat}:(cT x).getD x 0=1:=by simp[cT,List.getD_eq_getElem?_getD]
theorem zN{x y:Nat}(h:y≠x):(cT x).getD y 0=0:=by
 unfold cT;rw[getD_set_ne (Ne.symm h),List.getD_eq_getElem?_getD,List.getElem?_replicate];split <;> rfl
theorem L9(h:y<l2.length):(sZ l1 l2 i l2.length).getD y 0=(fG l1).getD i 0*(fG l2).getD y 0:=by
 have hw:=eN (l:=l2);have e:(fG l2).getD y 0=(fG l2)[y]'oM:=by rw[List.getD_eq_getElem?_getD,List.getElem?_eq_getElem oM];rfl
 unfold sZ;rw[e,List.getD_eq_getElem?_getD,List.getElem?_map,List.getElem?_take,if_pos oM,List.getElem?_eq_getElem oM];rfl
theorem Ma{wk:Int}(h:wk=1):dL wk ws ww l1 l2=kY (fG l1) (fG (l2.take (ww+1))) l2.length (l2.length*l1.length):=by subst h;rfl
theorem Mb{wk:Int}(h:wk=2):dL wk ws ww l1 l2=kY (fG l1) (cT ww) l2.length (l2.length*l1.length):=by subst h;rfl
theorem Mc{wk:Int}(h:wk=3):dL wk ws ww l1 l2=kY (cT ws) (fG l2) l2.length (l2.length*l1.length):=by subst h;rfl
theorem Md{wk:Int}(h:wk=4):dL wk ws ww l1 l2=kY (cT ws) (cT ww) l2.length (l2.length*l1.length):=by subst h;rfl
theorem vO{wk ws ww:Int}:(dL wk ws ww l1 l2).length=l2.length*l1.length+1:=fD
theorem Ic{k:Nat}(h:cJ l1 l2=true)(h1:2<=k)(h2:k<=l2.length):cJ l1 (l2.take k)=true:=by
 have hq:=yU h;have hp:=yV (lZ (gO h) h1 h2);have hp1:=yV (fZ h);have hl:(l2.take k).length=k:=by rw[List.length_take];omega
 refine eD hp1 hp (by have:=hq.hm;omega) ?_;have e:(l2.take k).getD ((l2.take k).length-1) 0=l2.getD (k-1) 0:=by
  rw[hl,List.getD_eq_getElem?_getD,List.getD_eq_getElem?_getD,List.getElem?_take,if_pos oM]
 rw[e];exact(hq.lo _).2
theorem CW{bs:List Nat}{i c:Nat}(h:bs[i]? = some c):(bs.map (Sl n))[0+i*1]? = some (.slice (some ⟨c,0,none⟩) n OPEN):=by
 rw[Nat.zero_add,Nat.mul_one,List.getElem?_map,h];rfl
theorem RZ{wk:Int}(h:wk=1):gV wk=648000000:=by subst h;rfl
theorem R0{wk:Int}(h:wk=2):gV wk=180000:=by subst h;rfl
theorem R1{wk:Int}(h:wk=3):gV wk=180000:=by subst h;rfl
theorem R2{wk:Int}(h:wk=4):gV wk=1:=by subst h;rfl
section
variable{X:FuncId->List Value->St->(Value->St->Bool)->Bool}
theorem Fd(n:Nat)(d r al up:Int)(a1 a2:Option Addr)(c1 c2:Nat)(l1 l2:List Int)(wk:Int)(ws ww:Nat)(s:St)(hs:Wf s)(hn:2251799813685248<=n)(hl1:aN s a1 l1)(hl2:aN s a2 l2)(hpl:cJ l1 l2=true)(hp1:tP 9 100000 l1)(hp2:tP 9 100000 l2)(hcp:lB s a2 l2.length c2)(hwh:((wk=1/\(ws:Int)=0/\(0<=(ww:Int)/\(ww:Int)<=(l2.length:Int)-1)/\0<(ww:Int))∨(wk=2/\(ws:Int)=0/\(0<=(ww:Int)/\(ww:Int)<=(l2.length:Int)-1))∨(wk=3/\(0<=(ws:Int)/\(ws:Int)<=(l1.length:Int)-1)/\(ww:Int)=0)∨(wk=4/\(0<=(ws:Int)/\(ws:Int)<=(l1.length:Int)-1)/\(0<=(ww:Int)/\(ww:Int)<=(l2.length:Int)-1)))):bX Tryz.prog (bZ cB) X (n+2500) 77 [.agg ⟨[.int .i64 d,.int .i64 r,.slice a1 l1.length c1,.slice a2 l2.length c2,.int .i64 al,.int .i64 up]⟩,.agg ⟨[.int .i64 wk,.int .i64 (ws:Int),.int .i64 (ww:Int)]⟩] s (fun v A=>∃b,v = .tuple #[.slice (some ⟨b,0,none⟩) (l2.length*l1.length+1) (l2.length*l1.length+1),.int .i64 (gV wk)]/\A=[.row b 3 false (ints (dL wk ws ww l1 l2))]):=by
 refine enter Ph rfl hs ?_;unfold Ok;have hlen1:=hl1.len;have hlen2:=hl2.len;have hm1:=hp1.hm;have hm2:=hp2.hm;have h21:=hp1.h2;have h22:=hp2.h2;have hw1:=eN (l:=l1);have hw2:=eN (l:=l2);have hw3:=eN (l:=l2.take (ww+1));have hs9:=uA (x:=(l1.length:Int)) (y:=(l2.length:Int)) oM oM;have hN:((l2.length*l1.length:Nat):Int)=(l1.length:Int)*(l2.length:Int):=by rw[Int.natCast_mul,Int.mul_comm]
 have hww:ww<l2.length:=oM
 have hws:ws<l1.length:=oM
 have hw4:(l2.take (ww+1)).length=ww+1:=by rw[List.length_take];omega
 refine rS (aZ J J J (fun b1=>(aZ J J J (fun b2=>(kM J (kM J (Q0 (rS (dD J dE .h1 J (kO (aI J J (fun s1 h1=>H7 _ _ _ _ _ _ _ _ _ _ _ s1 h1.wf oM (hl1.ext hs h1.2.1) (hl2.ext hs h1.2.1) oM) (aX J J oM (kO (Li (m:=l2.length*l1.length+1) J J oM oM oM (fun b3=>(kM J (Q0 (rQ (rS (aH J (aL J .h1 J (Q0 (W1 (rS (kO (bV J J (fun h4=>?_) (fun h4=>?_)))))))))))))))))))))))))))
 ·have hk1:=h4
  refine kM J (Q0 (Y0 J (rS (aH J (aL J .h2 J (aH J (aL J .h2 J (aH J (aL J .h1 J (aX J J oM (kO (EY (h:=(l2.take (ww+1)).length) hl2 rfl rfl (by rw[List.length_take];omega) oM (by rw[List.length_take];omega) hcp (kO (Z4 J J (fun s1 h1=>PV _ _ _ _ _ _ _ s1 h1.wf oM (hl1.ext hs h1.2.1) ((hl2.take (ww+1)).ext hs h1.2.1) (Ic hpl oM oM) hp1 (lZ hp2 oM oM)) (fun v1 A1 q1=>?_)))))))))))))));obtain⟨b5,bs6,T7,rfl,rfl,hb8,hr9⟩:=q1;refine kM J (eK J J (eK J J (kM J (kM J (Q0 (rQ (rS (kM J (Q0 (W1 ?_))))))))));refine U4 (fun j e A=>∃(i:Nat) (O:List Int),e=[(2,.pointer (some ⟨b1,0,none⟩)),(3,.pointer (some ⟨b2,0,none⟩)),(6,.slice (some ⟨b3,0,none⟩) (l2.length*l1.length+1) (l2.length*l1.length+1)),(7,.slice (some ⟨b5,0,none⟩) l1.length OPEN),(9,.int .i64 (i:Int))]/\A=(.row b5 22 true (bs6.map (Sl (l2.take (ww+1)).length))::(T7++(.row b3 3 false (ints O)::(.row b2 59 false ([.int .i64 wk,.int .i64 (ws:Int),.int .i64 (ww:Int)])::(.row b1 33 false ([.int .i64 d,.int .i64 r,.slice a1 l1.length c1,.slice a2 l2.length c2,.int .i64 al,.int .i64 up])::[])))))/\j=l1.length-i/\i<=l1.length/\O.length=l2.length*l1.length+1/\Bm O (dL wk ws ww l1 l2) (PG l2.length (ww+1) i 0)) 700 281474976710656 281474976710656 ?_ (j:=_) (env2:=_) (A2:=_) ?_ ?_ ?_ ?_ ⟨0,List.replicate (l2.length*l1.length+1) 0,rfl,rfl,rfl,oM,sM,(qM vO (fun t h=>by obtain⟨_,_,h1,_⟩:=h;omega))⟩
  rotate_left
  ·omega
  ·omega
  ·exact lL
  ·exact(.q (.r (.q (.q (.q .slnil)))))
  rintro n hn j _ _ ⟨i,O,rfl,rfl,rfl,hi,hO,hQ⟩;refine rQ (rS (kM J (kM J (kO (cK J (dB J J (fun h10=>?_) (fun h10=>?_)))))))
  ·obtain⟨c,hbi⟩:=AC (l:=bs6) (k:=i) oM
   have hcT:=hr9 _ _ hbi;have hrl:(sZ l1 (l2.take (ww+1)) i (l2.take (ww+1)).length).length=ww+1:=by rw[AU (by rw[hw3];exact Nat.le_refl _),hw4]
   refine Q0 (Y0 J (Q1 (W0 (rQ (W1 (rS (kM J (Q0 (W1 ?_)))))))));refine U4 (fun j e A=>∃(y:Nat) (O2:List Int),e=[(2,.pointer (some ⟨b1,0,none⟩)),(3,.pointer (some ⟨b2,0,none⟩)),(6,.slice (some ⟨b3,0,none⟩) (l2.length*l1.length+1) (l2.length*l1.length+1)),(7,.slice (some ⟨b5,0,none⟩) l1.length OPEN),(9,.int .i64 (i:Int)),(10,.int .i64 (y:Int))]/\A=(.row b5 22 true (bs6.map (Sl (l2.take (ww+1)).length))::(T7++(.row b3 3 false (ints O2)::(.row b2 59 false ([.int .i64 wk,.int .i64 (ws:Int),.int .i64 (ww:Int)])::(.row b1 33 false ([.int .i64 d,.int .i64 r,.slice a1 l1.length c1,.slice a2 l2.length c2,.int .i64 al,.int .i64 up])::[])))))/\j=ww+1-y/\y<=ww+1/\O2.length=l2.length*l1.length+1/\Bm O2 (dL wk ws ww l1 l2) (PG l2.length (ww+1) i y)) 400 0 281474976710656 ?_ (j:=_) (env2:=_) (A2:=_) ?_ ?_ ?_ ?_ ⟨0,O,rfl,rfl,rfl,oM,hO,hQ⟩
   rotate_left
   ·omega
   ·omega
   ·exact lL
   ·exact(.q (.r (.q (.q (.q .slnil)))))
   rintro n hn j _ _ ⟨y,O2,rfl,rfl,rfl,hy,hO2,hQ2⟩;refine rQ (rS (kM J (kM J (kM J (cN (j:=i) J J oM oM (aL J .here (CW hbi) (kO (cK J (dB J J (fun h11=>?_) (fun h11=>?_))))))))))
   ·have hj9:=AW (n:=l2.length) (m:=l1.length) (i:=i) (y:=y) oM oM
    have hc9:((l2.length*i:Nat):Int)=(i:Int)*(l2.length:Int):=by rw[Int.natCast_mul,Int.mul_comm]
    refine Q0 (Y0 J (Q1 (W0 (rQ (W1 (rI (kM J (dD J dE (.next (.app .h2)) J (kM J (kM J (kM J (kM J (cN (j:=i) J J oM oM (aL J .here (CW hbi) (kM J (cN (j:=y) J J oM oM (kO (dM J (lI (e:=3) (op:=true) (l:=ints (sZ l1 (l2.take (ww+1)) i (l2.take (ww+1)).length)) (List.mem_cons_of_mem _ (List.mem_append_left _ hcT))) (by first|omega|(simp;done)|(simp;omega)) (kO (aI J J (fun s1 h1=>vD _ _ _ _ _ _ _ _ _ _ _ _ _ s1 h1.wf oM (hl1.ext hs h1.2.1) (hl2.ext hs h1.2.1) oM oM oM) (kZ (aK J J (lI (e:=3) (op:=true) (l:=ints (sZ l1 (l2.take (ww+1)) i (l2.take (ww+1)).length)) (List.mem_cons_of_mem _ (List.mem_append_left _ hcT))) (rU (by first|omega|(simp;omega))) (by simp[eqV,kindEq,aB]) (kZ (aK J J .here (CW hbi) (by simp[eqV]) (cN (j:=l2.length*i+y+1) J J oM oM (kZ (W7 J J (.next (.app .here)) (by first|omega|(simp;done)|(simp[cI];omega)|(simp;omega)) (Q0 ?_))))))))))))))))))))))))))));refine Z1 (W0 (rI (kM J (aX J J oM (kM J (Q0 (W0 ?_)))))));exact⟨rfl,_,_,_,(show ww+1-(y+1)<ww+1-y from oM),lL,(.q (.r (.q (.q (.q .slnil))))),⟨y+1,_,rfl,rfl,rfl,oM,(by simp[hO2]),(vL hQ2 oM (by rw[Ma hk1,AX oM oM];exact L9 oM) (fun t h=>PW h))⟩⟩
   ·refine Q0 (U0 J (Y4 (Z2 (Z2 (Q3 (Z1 (W0 (rI (kM J (aX J J oM (kM J (Q0 (W0 ?_)))))))))))))
    have hyl:y=ww+1:=oM;subst hyl;exact⟨rfl,_,_,_,(show l1.length-(i+1)<l1.length-i from oM),lL,(.q (.r (.q (.q (.q .slnil))))),⟨i+1,_,rfl,rfl,rfl,oM,hO2,(Ib hQ2 (fun t h=>PX h))⟩⟩
  ·refine Q0 (U0 J (Y4 (Z2 (Z2 (Q3 (W0 (rS (kM J (kM J (kM J (Q0 (V2 (Y6 (W3 ?_))))))))))))))
   have hil:i=l1.length:=oM
   subst hil;have hfin:=vM hQ (fun t ht=>by
    rw[Ma hk1];refine vN (fun i9 y9 hy9 ht9 hi9=>?_);rw[rZ (l:=fG (l2.take (ww+1))) (by rw[hw3,hw4];exact Nat.le_of_not_lt (fun q=>ht ⟨i9,y9,.inl ⟨oM,q⟩,ht9⟩)),Int.mul_zero])
   exact kE J J (.cons _ (sR (.q (.cons _ (.cons _ .slnil))))) ⟨b3,by rw[RZ hk1],by rw[<-hfin]⟩
 ·refine kM J (Q0 (U0 J (rS (kO (bV J J (fun h12=>?_) (fun h12=>?_))))))
  ·have hk2:=h12
   refine kM J (Q0 (Y0 J (rS (aH J (aL J .h2 J (kO (Z4 J J (fun s1 h1=>AE _ _ _ _ s1 h1.wf oM (hl1.ext hs h1.2.1) hp1) (fun v1 A1 q1=>?_))))))));obtain⟨b13,rfl,rfl⟩:=q1;refine kM J (eK J J (eK J J (kM J (kM J (Q0 (rQ (rS (kM J (Q0 (W1 (U4 (fun j e A=>∃(i:Nat) (O:List Int),e=[(2,.pointer (some ⟨b1,0,none⟩)),(3,.pointer (some ⟨b2,0,none⟩)),(6,.slice (some ⟨b3,0,none⟩) (l2.length*l1.length+1) (l2.length*l1.length+1)),(11,.slice (some ⟨b13,0,none⟩) l1.length l1.length),(13,.int .i64 (i:Int))]/\A=(.row b13 3 false (ints (fG l1))::(.row b3 3 false (ints O)::(.row b2 59 false ([.int .i64 wk,.int .i64 (ws:Int),.int .i64 (ww:Int)])::(.row b1 33 false ([.int .i64 d,.int .i64 r,.slice a1 l1.length c1,.slice a2 l2.length c2,.int .i64 al,.int .i64 up])::[]))))/\j=l1.length-i/\i<=l1.length/\O.length=l2.length*l1.length+1/\Bm O (dL wk ws ww l1 l2) (P2 l2.length ww i)) 400 0 281474976710656 ?_ (j:=_) (env2:=_) (A2:=_) ?_ ?_ ?_ ?_ ⟨0,List.replicate (l2.length*l1.length+1) 0,rfl,rfl,rfl,oM,sM,(qM vO (fun t h=>by obtain⟨_,h1,_⟩:=h;omega))⟩)))))))))))
   rotate_left
   ·omega
   ·omega
   ·exact lL
   ·exact(.q (.q (.q (.q .slnil))))
   rintro n hn j _ _ ⟨i,O,rfl,rfl,rfl,hi,hO,hQ⟩;refine rQ (rS (kM J (kM J (kO (cK J (dB J J (fun h14=>?_) (fun h14=>?_)))))))
   ·have hj9:=AW (n:=l2.length) (m:=l1.length) (i:=i) (y:=ww) oM oM
    have hc9:((l2.length*i:Nat):Int)=(i:Int)*(l2.length:Int):=by rw[Int.natCast_mul,Int.mul_comm]
    refine Q0 (Y0 J (Q1 (W0 (rQ (W1 (rI (kM J (dD J dE .h3 J (kM J (aH J (aL J .h2 J (kM J (kM J (cN (j:=i) J J oM oM (kO (dM J .here (by first|omega|(simp;done)|(simp;omega)) (kO (aI J J (fun s1 h1=>vD _ _ _ _ _ _ _ _ _ _ _ _ _ s1 h1.wf oM (hl1.ext hs h1.2.1) (hl2.ext hs h1.2.1) oM oM oM) (kZ (aK J J .here (rU (by first|omega|(simp;omega))) (by simp[eqV,kindEq,aB]) (cN (j:=l2.length*i+ww+1) J J oM oM (kZ (W7 J J .h1 (by first|omega|(simp;done)|(simp[cI];omega)|(simp;omega)) (Q0 (Z1 (W0 (rI ?_)))))))))))))))))))))))))));refine kM J (aX J J oM (kM J (Q0 (W0 ?_))));exact⟨rfl,_,_,_,(show l1.length-(i+1)<l1.length-i from oM),lL,(.q (.q (.q (.q .slnil)))),⟨i+1,_,rfl,rfl,rfl,oM,(by simp[hO]),(vL hQ oM (by rw[Mb hk2,AX oM oM,zM,Int.mul_one]) (fun t h=>PY h))⟩⟩
   ·refine Q0 (U0 J (Y4 (Z2 (Z2 (Q3 (W0 (rS (kM J (kM J (kM J (Q0 (V2 (Y6 (W3 ?_))))))))))))))
    have hil:i=l1.length:=oM
    subst hil;have hfin:=vM hQ (fun t ht=>by
     rw[Mb hk2];refine vN (fun i9 y9 hy9 ht9 hi9=>?_);rw[zN (fun q=>ht ⟨i9,oM,by rw[ht9,q]⟩),Int.mul_zero])
    exact kE J J (.cons _ (.q (.cons _ (.cons _ .slnil)))) ⟨b3,by rw[R0 hk2],by rw[<-hfin]⟩
  ·refine kM J (Q0 (U0 J (rS (kO (bV J J (fun h15=>?_) (fun h15=>?_))))))
   ·have hk3:=h15
    refine kM J (Q0 (Y0 J (rS (aH J (aL J .h2 J (kO (Z4 J J (fun s1 h1=>AE _ _ _ _ s1 h1.wf oM (hl2.ext hs h1.2.1) hp2) (fun v1 A1 q1=>?_))))))));obtain⟨b16,rfl,rfl⟩:=q1;refine kM J (eK J J (eK J J (kM J (kM J (Q0 (rQ (rS (kM J (Q0 (W1 (U4 (fun j e A=>∃(y:Nat) (O:List Int),e=[(2,.pointer (some ⟨b1,0,none⟩)),(3,.pointer (some ⟨b2,0,none⟩)),(6,.slice (some ⟨b3,0,none⟩) (l2.length*l1.length+1) (l2.length*l1.length+1)),(14,.slice (some ⟨b16,0,none⟩) l2.length l2.length),(16,.int .i64 (y:Int))]/\A=(.row b16 3 false (ints (fG l2))::(.row b3 3 false (ints O)::(.row b2 59 false ([.int .i64 wk,.int .i64 (ws:Int),.int .i64 (ww:Int)])::(.row b1 33 false ([.int .i64 d,.int .i64 r,.slice a1 l1.length c1,.slice a2 l2.length c2,.int .i64 al,.int .i64 up])::[]))))/\j=l2.length-y/\y<=l2.length/\O.length=l2.length*l1.length+1/\Bm O (dL wk ws ww l1 l2) (P3 l2.length ws y)) 400 0 281474976710656 ?_ (j:=_) (env2:=_) (A2:=_) ?_ ?_ ?_ ?_ ⟨0,List.replicate (l2.length*l1.length+1) 0,rfl,rfl,rfl,oM,sM,(qM vO (fun t h=>by obtain⟨_,h1,_⟩:=h;omega))⟩)))))))))))
    rotate_left
    ·omega
    ·omega
    ·exact lL
    ·exact(.q (.q (.q (.q .slnil))))
    rintro n hn j _ _ ⟨y,O,rfl,rfl,rfl,hi,hO,hQ⟩;refine rQ (rS (kM J (kM J (kO (cK J (dB J J (fun h17=>?_) (fun h17=>?_)))))))
    ·have hj9:=AW (n:=l2.length) (m:=l1.length) (i:=ws) (y:=y) oM oM
     have hc9:((l2.length*ws:Nat):Int)=(ws:Int)*(l2.length:Int):=by rw[Int.natCast_mul,Int.mul_comm]
     refine Q0 (Y0 J (Q1 (W0 (rQ (W1 (rI (kM J (dD J dE .h3 J (aH J (aL J .h2 J (kM J (kM J (kM J (cN (j:=y) J J oM oM (kO (dM J .here (by first|omega|(simp;done)|(simp;omega)) (kO (aI J J (fun s1 h1=>vD _ _ _ _ _ _ _ _ _ _ _ _ _ s1 h1.wf oM (hl1.ext hs h1.2.1) (hl2.ext hs h1.2.1) oM oM oM) (kZ (aK J J .here (rU (by first|omega|(simp;omega))) (by simp[eqV,kindEq,aB]) (cN (j:=l2.length*ws+y+1) J J oM oM (kZ (W7 J J .h1 (by first|omega|(simp;done)|(simp[cI];omega)|(simp;omega)) (Q0 (Z1 (W0 (rI ?_)))))))))))))))))))))))))));refine kM J (aX J J oM (kM J (Q0 (W0 ?_))));exact⟨rfl,_,_,_,(show l2.length-(y+1)<l2.length-y from oM),lL,(.q (.q (.q (.q .slnil)))),⟨y+1,_,rfl,rfl,rfl,oM,(by simp[hO]),(vL hQ oM (by rw[Mc hk3,AX oM oM,zM,Int.one_mul]) (fun t h=>PZ h))⟩⟩
    ·refine Q0 (U0 J (Y4 (Z2 (Z2 (Q3 (W0 (rS (kM J (kM J (kM J (Q0 (V2 (Y6 (W3 ?_))))))))))))))
     have hil:y=l2.length:=oM
     subst hil;have hfin:=vM hQ (fun t ht=>by
      rw[Mc hk3];refine vN (fun i9 y9 hy9 ht9 hi9=>?_);rw[zN (fun q=>ht ⟨y9,oM,by rw[ht9,q]⟩),Int.zero_mul])
     exact kE J J (.cons _ (.q (.cons _ (.cons _ .slnil)))) ⟨b3,by rw[R1 hk3],by rw[<-hfin]⟩
   ·have hk4:wk=4:=oM
    have hj9:=AW (n:=l2.length) (m:=l1.length) (i:=ws) (y:=ww) oM oM;have hc9:((l2.length*ws:Nat):Int)=(ws:Int)*(l2.length:Int):=by rw[Int.natCast_mul,Int.mul_comm]
    refine kM J (Q0 (U0 J (Q1 (Z1 (W0 (rS (kM J (dD J dE .h2 J (aH J (aL J .h1 J (aH J (aL J .h1 J (kO (aI J J (fun s1 h1=>vD _ _ _ _ _ _ _ _ _ _ _ _ _ s1 h1.wf oM (hl1.ext hs h1.2.1) (hl2.ext hs h1.2.1) oM oM oM) (cN (j:=l2.length*ws+ww+1) J J oM oM (kZ (W7 J J .here (by first|omega|(simp;done)|(simp[cI];omega)|(simp;omega)) (Q0 (rS (kM J (kM J (kM J (Q0 (V2 ?_))))))))))))))))))))))));have hfin:=vM (P:=fun t=>t=l2.length*ws+ww+1) (vL (v:=1) (qM (P:=fun _=>False) vO (fun _ h=>h)) (by first|(simp;done)|(simp;omega)) (by rw[Md hk4,AX oM oM,zM,zM];first|done|rfl) (fun t h=> .inr h)) (fun t ht=>by
     rw[Md hk4];refine vN (fun i9 y9 hy9 ht9 hi9=>?_);by_cases q1:i9=ws
     ·by_cases q2:y9=ww
      ·subst q1;subst q2;exact absurd ht9 ht
      ·rw[zN q2,Int.mul_zero]
     ·rw[zN q1,Int.zero_mul])
    exact kE J J (.q (.cons _ (.cons _ .slnil))) ⟨b3,by rw[R2 hk4],by rw[<-hfin]⟩
end
def hv(M:List (List Int))(n N u:Nat):Int:=(hpt M n N).getD u 0
section
variable{X:FuncId->List Value->St->(Value->St->Bool)->Bool}
end
theorem P0{a b:Int}(ha:-5000000000000000000<=a/\a<=5000000000000000000)(hb:0<b):-5000000000000000000<=a.tdiv b/\a.tdiv b<=5000000000000000000:=Hs ha hb
def UT(M:List (List Int))(n N:Nat)(y0 y1:Nat)(y2:Int):Prop:=y0<=N->y1<=N->hv M n N y1-hv M n N y0<=y2
instance{M:List (List Int)}{n N y0 y1:Nat}{y2:Int}:Decidable (UT M n N y0 y1 y2):=by unfold UT;infer_instance
section
variable{X:FuncId->List Value->St->(Value->St->Bool)->Bool}
theorem Hu(n:Nat)(x y:Int)(s:St)(hs:Wf s)(hx:-5000000000000000000<=x/\x<=5000000000000000000)(hy:0<y):bX Tryz.prog (bZ cB) X (n+60) 65 [.int .i64 x,.int .i64 y] s (fun v A=>v = .int .i64 (B1 x y)/\A=[]):=by
 refine enter O9 rfl hs ?_;unfold N2;have hq:=P0 hx hy;refine rS (kM J (Q0 (rS (kM J (kM J (kO (qR J J oM oM (kM J (Q0 (rQ (rS (kM J (kM J (kO (xO J J oM (dB J J (fun h1=>?_) (fun h1=>?_)))))))))))))))))
 ·refine Q0 (Y0 J (rI (kM J (kO (bN J J oM (kM J (Q0 (W0 (rS (kM J (kM J (Q0 (V2 (aO J ⟨congrArg (Value.int .i64) ?_,rfl⟩))))))))))))))
  unfold B1
  first|exact(if_pos oM).symm|exact(if_neg oM).symm
 ·refine Q0 (U0 J (Q1 (W0 (rS (kM J (kM J (Q0 (V2 (aO J ⟨congrArg (Value.int .i64) ?_,rfl⟩)))))))))
  unfold B1
  first|exact(if_pos oM).symm|exact(if_neg oM).symm
end
theorem vP{m:Int}{ls:List (List Int)}(h:fR m ls=0):0<=m/\m<=64/\(ls.length:Int)<=400/\mU m ls=true:=by
 unfold fR at h;split at h
 ·split at h
  ·cases h
  ·split at h
   ·exact⟨oM,oM,oM,aM⟩
   ·cases h
 ·cases h
theorem zO{m:Int}{ls:List (List Int)}(h1:0<=m/\m<=64)(h2:(ls.length:Int)<=400)(h3:mU m ls=true):fR m ls=0:=by
 unfold fR;rw[if_pos h1,if_neg oM,if_pos h3]
set_option maxRecDepth 100000
def rr(z:Int)(m k:Nat):List Int:=List.replicate k z++List.replicate (m-k) 0
section
variable{X:FuncId->List Value->St->(Value->St->Bool)->Bool}
theorem Bn(n:Nat)(m y0 y1 y2 y3:Int)(s:St)(hs:Wf s):bX Tryz.prog (bZ cB) X (n+100) 169 [.int .i64 m,.agg ⟨[.int .i64 y0,.int .i64 y1,.int .i64 y2,.int .i64 y3]⟩] s (fun v A=>v = .int .i64 (if (0<=m/\m<=64)/\(0<=y0/\y0<=m)/\(0<=y1/\y1<=m)/\¬y0=y1/\(-20000<=y2/\y2<=20000)/\(1<=y3/\y3<=99999) then 0 else 20)/\A=[]):=by
 refine enter KY rfl hs ?_;unfold Gx;refine rS (aZ J J J (fun b1=>(kM J (Q0 (rS (kM J (kO (bB J J (fun s1 h1=>gX _ _ _ _ s1 h1.wf) (fun h2=>?_) (fun h2=>?_)))))))))
 ·refine kM J (kG (Q2 J (kG (Y1 J .here rfl (kG (U2 J (kG (bB J J (fun s1 h1=>gX _ _ _ _ s1 h1.wf) (fun h3=>?_) (fun h3=>?_)))))))))
  ·refine cA J J J (kM J (kG (Q2 J (kG (Y1 J .here rfl (kG (U2 J (kG (bB J J (fun s1 h1=>gX _ _ _ _ s1 h1.wf) (fun h4=>?_) (fun h4=>?_))))))))))
   ·refine cA J J J (kM J (kG (Q2 J (kG (Y1 J .here rfl (kG (Q2 J (kG (Y1 J .here rfl (kG (V3 J J (fun h5=>?_) (fun h5=>?_))))))))))))
    ·refine cA J J J (kM J (kG (Q2 J (kG (Y1 J .here rfl (kG (bB J J (fun s1 h1=>gX _ _ _ _ s1 h1.wf) (fun h6=>?_) (fun h6=>?_))))))))
     ·refine cA J J J (kM J (kG (Q2 J (kG (Y1 J .here rfl (kG (bB J J (fun s1 h1=>gX _ _ _ _ s1 h1.wf) (fun h7=>?_) (fun h7=>?_))))))))
      ·refine cA J J J (kM J (Q0 (rQ (rS (kM J (eP J (Q0 (U0 J (Q1 (W0 (rS (kM J (Q0 (V2 (aO J ⟨congrArg (Value.int .i64) ?_,rfl⟩)))))))))))))))
       first|exact(if_pos oM).symm|exact(if_neg oM).symm
      ·refine cA J J J (kM J (Q0 (rQ (rS (kM J (eP J (Q0 (Y0 J (rS (kM J (Q0 (V2 (W3 (aO J ⟨congrArg (Value.int .i64) ?_,rfl⟩))))))))))))))
       first|exact(if_pos oM).symm|exact(if_neg oM).symm
     ·refine cA J J J (kM J (V0 (V0 (V0 (bK J J J (kM J (Q0 (rQ (rS (kM J (eP J (Q0 (Y0 J (rS (kM J (Q0 (V2 (W3 (aO J ⟨congrArg (Value.int .i64) ?_,rfl⟩)))))))))))))))))))
      first|exact(if_pos oM).symm|exact(if_neg oM).symm
    ·refine cA J J J (kM J (V0 (V0 (V0 (bK J J J (kM J (V0 (V0 (V0 (bK J J J (kM J (Q0 (rQ (rS (kM J (eP J (Q0 (Y0 J (rS (kM J (Q0 (V2 (W3 ?_)))))))))))))))))))))))
     refine aO J ⟨congrArg (Value.int .i64) ?_,rfl⟩
     first|exact(if_pos oM).symm|exact(if_neg oM).symm
   ·refine cA J J J (kM J (V0 (V0 (V0 (V0 (V0 (bK J J J (kM J (V0 (V0 (V0 (bK J J J (kM J (V0 (V0 (V0 (bK J J J (kM J (Q0 (rQ (rS (kM J (eP J ?_)))))))))))))))))))))))
    refine Q0 (Y0 J (rS (kM J (Q0 (V2 (W3 (aO J ⟨congrArg (Value.int .i64) ?_,rfl⟩)))))))
    first|exact(if_pos oM).symm|exact(if_neg oM).symm
  ·refine cA J J J (kM J (V0 (V0 (V0 (V0 (bK J J J (kM J (V0 (V0 (V0 (V0 (V0 (bK J J J (kM J (V0 (V0 (V0 (bK J J J (kM J (V0 (V0 (V0 (bK J J J ?_)))))))))))))))))))))))
   refine kM J (Q0 (rQ (rS (kM J (eP J (Q0 (Y0 J (rS (kM J (Q0 (V2 (W3 (aO J ⟨congrArg (Value.int .i64) ?_,rfl⟩)))))))))))))
   first|exact(if_pos oM).symm|exact(if_neg oM).symm
 ·refine kM J (V0 (V0 (V0 (V0 (bK J J J (kM J (V0 (V0 (V0 (V0 (bK J J J (kM J (V0 (V0 (V0 (V0 (V0 (bK J J J (kM J (V0 (V0 (V0 (bK J J J ?_)))))))))))))))))))))))
  refine kM J (V0 (V0 (V0 (bK J J J (kM J (Q0 (rQ (rS (kM J (eP J (Q0 (Y0 J (rS (kM J (Q0 (V2 (W3 (aO J ⟨congrArg (Value.int .i64) ?_,rfl⟩))))))))))))))))))
  first|exact(if_pos oM).symm|exact(if_neg oM).symm
theorem Me(n:Nat)(m:Int)(al:Option Addr)(cl:Nat)(ls:List (List Int))(s:St)(hs:Wf s)(hn:281474976710656<=n)(hL:RowsE s 4 al ls):bX Tryz.prog (bZ cB) X (n+400) 125 [.agg ⟨[.int .i64 m,.slice al ls.length cl]⟩] s (fun v A=>v = .int .i64 (fR m ls)/\A=[]):=by
 refine enter KB rfl hs ?_;unfold Ga;have hlen:=hL.len;refine rS (aZ J J J (fun b1=>(kM J (Q0 (rQ (rS (aH J (aL J .here rfl (kO (bB J J (fun s1 h1=>gX _ _ _ _ s1 h1.wf) (fun h2=>?_) (fun h2=>?_)))))))))))
 ·refine eP J (Q0 (U0 J (Q1 (W0 (rQ (rS (aH J (aL J .here rfl (aJ J hL.spot (kO (dR J J (fun h3=>?_) (fun h3=>?_))))))))))))
  ·refine Q0 (Y0 J (rS (kM J (Q0 (V2 (W3 (aO J ⟨congrArg (Value.int .i64) ?_,rfl⟩)))))))
   unfold fR
   first
    |(rw[if_neg oM];done)
    |(rw[if_pos oM,if_pos oM];done)
    |(rw[if_pos oM,if_neg oM,oA hx hi oM];rfl)
    |(rw[if_pos oM,if_neg oM,oB hi oM];rfl)
  ·refine Q0 (U0 J (Q1 (W0 (rQ (rS (aH J (aL J .here rfl (aJ J hL.spot (kM J (Q0 (W1 (U4 (fun j e A=>∃(k:Nat),e=[(1,.pointer (some ⟨b1,0,none⟩)),(15,.slice al ls.length cl),(16,.int .i64 (ls.length:Int)),(17,.int .i64 (k:Int))]/\A=(.row b1 45 false ([.int .i64 m,.slice al ls.length cl])::[])/\j=ls.length-k/\k<=ls.length/\mU m ls=mU m (ls.drop k)) 200 0 281474976710656 ?_ (j:=_) (env2:=_) (A2:=_) ?_ ?_ ?_ ?_ ⟨0,rfl,rfl,rfl,Nat.zero_le _,rfl⟩))))))))))))
   rotate_left
   ·omega
   ·omega
   ·exact lL
   ·exact(.q .slnil)
   rintro n hn j _ _ ⟨k,rfl,rfl,rfl,hk,hi⟩;refine rS (dB J J (fun h4=>?_) (fun h4=>?_))
   ·obtain⟨q4,o4,y0,y1,y2,y3,ahL,hx,hat,i0,i1,i2,i3⟩:=hL.row4 (k:=k) oM
    have hat2:=hat;obtain⟨d0,d1,d2,d3,_⟩:=hat2;have:=i0.lo;have:=i0.hi;have:=i1.lo;have:=i1.hi;have:=i2.lo;have:=i2.hi;have:=i3.lo;have:=i3.hi;refine Q0 (rQ (Y0 J (Q1 (W0 (rQ (W1 (rS (kO (cM (j:=k) ahL rfl rfl (by first|rfl|omega) (by first|decide|omega) (kO (dU J dE aM J (aY J J (fun b5=>(kZ (Q6 J J .here rfl rfl rfl rfl (Q0 (rS (aH J (aL J .h1 J (dD J dE .here rfl (kO (iQ J J (fun s1 h1=>Bn _ _ _ _ _ _ s1 h1.wf) (fun h6=>?_) (fun h6=>?_)))))))))))))))))))))))
    ·refine kM J (Q0 (rS (kM J (kO (V3 J J (fun h=>absurd h dE) (fun _=>(Q0 (U0 J (Q1 (Z1 (W0 (rI (aX J J oM (kM J (Q0 (W0 ?_))))))))))))))))
     exact⟨rfl,_,_,_,(show ls.length-(k+1)<ls.length-k from oM),lL,(.cons _ (.q .slnil)),⟨k+1,rfl,rfl,rfl,oM,DP hx hi aM⟩⟩
    ·refine kM J (Q0 (rS (kM J (kO (V3 J J (fun _=>(Q0 (Y0 J (rS (kM J (kM J (Q0 (V2 (Y6 (W3 (W3 (Y6 (W3 (aO J ⟨congrArg (Value.int .i64) ?_,rfl⟩)))))))))))))) (fun h=>absurd h dE))))))
     unfold fR
     first
      |(rw[if_neg oM];done)
      |(rw[if_pos oM,if_pos oM];done)
      |(rw[if_pos oM,if_neg oM,oA hx hi oM];rfl)
      |(rw[if_pos oM,if_neg oM,oB hi oM];rfl)
   ·refine Q0 (rQ (U0 J (Y4 (Z2 (Z2 (Q3 (W0 (rS (kM J (Q0 (V2 (aO J ⟨congrArg (Value.int .i64) ?_,rfl⟩))))))))))))
    unfold fR
    first
     |(rw[if_neg oM];done)
     |(rw[if_pos oM,if_pos oM];done)
     |(rw[if_pos oM,if_neg oM,oA hx hi oM];rfl)
     |(rw[if_pos oM,if_neg oM,oB hi oM];rfl)
 ·refine eP J (Q0 (Y0 J (rS (kM J (Q0 (V2 (W3 (aO J ⟨congrArg (Value.int .i64) ?_,rfl⟩))))))))
  unfold fR
  first
   |(rw[if_neg oM];done)
   |(rw[if_pos oM,if_pos oM];done)
   |(rw[if_pos oM,if_neg oM,oA hx hi oM];rfl)
   |(rw[if_pos oM,if_neg oM,oB hi oM];rfl)
end
variable{ls us:List (List Int)}{k:Nat}{high:Bool}{l:List Int}
theorem CX{t z:Int}(ht:0<=t)(hz:-20000<=z/\z<=20000):-(20000*t)<=t*z/\t*z<=20000*t:=by
 have h1:=Int.mul_le_mul_of_nonneg_left hz.2 ht;have h2:=Int.mul_le_mul_of_nonneg_left hz.1 ht;rw[Int.mul_comm t 20000] at h1;rw[Int.mul_comm t (-20000)] at h2;omega
def la(ls:List (List Int))(i:Nat):Nat:=((ls.getD i []).getD 0 0).toNat
def lb(ls:List (List Int))(i:Nat):Nat:=((ls.getD i []).getD 1 0).toNat
def lw(ls:List (List Int))(i:Nat):Int:=(ls.getD i []).getD 2 0
def pf(us:List (List Int))(k:Nat):Nat:=((us.getD k []).getD 0 0).toNat
def pn(us:List (List Int))(k:Nat):Int:=(us.getD k []).getD 1 0
def bef(us:List (List Int)):Nat->Int
 |0=>-1
 |k+1=>(us.getD k []).getD 0 0
def wZ(ls us:List (List Int))(k:Nat):Prop:=∀j,j<k->(bef us j+1<=(us.getD j []).getD 0 0/\(us.getD j []).getD 0 0<=(ls.length:Int)-1)/\(1<=pn us j/\pn us j<=3600000000000)/\bW (pn us) (j+1)<=230400000000000
theorem wZ.bef:∀{k:Nat},wZ ls us k->-1<=Ev.bef us k/\Ev.bef us k<=max (-1) ((ls.length:Int)-1)
 |0,_=>⟨Int.le_refl _,by show(-1:Int)<=_;omega⟩
 |k+1,h=>by
  have h1:=wZ.bef (k:=k) (fun j hj=>h j oM);have h2:=(h k oM).1;show -1<=(us.getD k []).getD 0 0/\(us.getD k []).getD 0 0<=_;omega
theorem wZ.tot:∀{k:Nat},wZ ls us k->0<=bW (pn us) k/\bW (pn us) k<=230400000000000
 |0,_=>⟨Int.le_refl _,by show(0:Int)<=_;decide⟩
 |k+1,h=>by
  have h1:=wZ.tot (k:=k) (fun j hj=>h j oM);have h2:=(h k oM).2;have e:bW (pn us) (k+1)=bW (pn us) k+pn us k:=rfl;omega
theorem wZ.put(h:wZ ls us k)(h1:Ev.bef us k+1<=(us.getD k []).getD 0 0/\(us.getD k []).getD 0 0<=(ls.length:Int)-1)(h2:1<=pn us k/\pn us k<=3600000000000)(h3:bW (pn us) k+pn us k<=230400000000000):wZ ls us (k+1):=fun j hj=>by
 by_cases e:j=k
 ·subst e;exact⟨h1,h2,h3⟩
 ·exact h j oM
theorem oD{z0 z1:Int}(h:us[k]? = some [z0,z1]):(us.getD k []).getD 0 0=z0/\pn us k=z1:=by
 have e:us.getD k []=[z0,z1]:=by rw[List.getD_eq_getElem?_getD,h];rfl
 unfold pn;rw[e];exact⟨rfl,rfl⟩
theorem Id{k li:Nat}{z1:Int}(h:us[k]? = some [(li:Int),z1]):pf us k=li:=by
 unfold pf;rw[(oD h).1];exact Int.toNat_natCast li
def AY(ls us:List (List Int))(w:List Int):Nat->List Int
 |0=>w
 |k+1=>((AY ls us w k).set (lb ls (pf us k)) ((AY ls us w k).getD (lb ls (pf us k)) 0-pn us k)).set (la ls (pf us k)) ((AY ls us w k).getD (la ls (pf us k)) 0+pn us k)
def uC(ls us:List (List Int))(N:Nat):Nat->List Int
 |0=>List.replicate N 0
 |k+1=>((uC ls us N k).set (lb ls (pf us k)) ((uC ls us N k).getD (lb ls (pf us k)) 0+pn us k)).set (la ls (pf us k)) ((uC ls us N k).getD (la ls (pf us k)) 0-pn us k)
theorem oE{ls us:List (List Int)}{w:List Int}:∀{k:Nat},(AY ls us w k).length=w.length
 |0=>rfl
 |k+1=>by show(List.set (List.set _ _ _) _ _).length=_;rw[List.length_set,List.length_set,oE (k:=k)]
theorem qN{ls us:List (List Int)}{N:Nat}:∀{k:Nat},(uC ls us N k).length=N
 |0=>List.length_replicate
 |k+1=>by show(List.set (List.set _ _ _) _ _).length=_;rw[List.length_set,List.length_set,qN (k:=k)]
theorem Fe{m:List Int}{a b v:Nat}{p q:Int}(ha:a<m.length)(hb:b<m.length)(hab:a≠b):((m.set b p).set a q).getD v 0=if v=a then q else if v=b then p else m.getD v 0:=by
 by_cases h1:v=a
 ·subst h1
  rw[if_pos rfl,mB (by rw[List.length_set];exact ha)]
 ·rw[if_neg h1,getD_set_ne (fun e=>h1 e.symm)]
  by_cases h2:v=b
  ·subst h2;rw[if_pos rfl,mB hb]
  ·rw[if_neg h2,getD_set_ne (fun e=>h2 e.symm)]
def Bo(N:Nat)(ls:List (List Int)):Prop:=∀i,i<ls.length->la ls i<N/\lb ls i<N/\la ls i≠lb ls i/\-20000<=lw ls i/\lw ls i<=20000/\∃y3,ls[i]? = some [(la ls i:Int),(lb ls i:Int),lw ls i,y3]
theorem Mf{k j:Nat}(h:wZ ls us k)(hj:j<k):pf us j<ls.length:=by
 have h1:=(h j hj).1;have h2:=(wZ.bef (k:=j) (fun i hi=>h i oM)).1;unfold pf;omega
theorem sT{ls us:List (List Int)}{w:List Int}{N:Nat}(hl:Bo N ls)(hw:w.length=N):∀{k:Nat},wZ ls us k->∀v,v<N->(AY ls us w k).getD v 0=w.getD v 0-(uC ls us N k).getD v 0
 |0,_,v,hv=>by
  show w.getD v 0=w.getD v 0-(List.replicate N (0:Int)).getD v 0;have:(List.replicate N (0:Int)).getD v 0=0:=by rw[List.getD_eq_getElem?_getD,List.getElem?_replicate];split <;> rfl
  omega
 |k+1,h,v,hv=>by
  have hk:wZ ls us k:=fun j hj=>h j oM
  obtain⟨g1,g2,g3,_⟩:=hl _ (Mf h (Nat.lt_succ_self k));have ih:=sT hl hw hk v hv;have iha:=sT hl hw hk _ g1;have ihb:=sT hl hw hk _ g2;show(List.set (List.set _ _ _) _ _).getD v 0=_-(List.set (List.set _ _ _) _ _).getD v 0;rw[Fe (by rw[oE,hw];exact g1) (by rw[oE,hw];exact g2) g3,Fe (by rw[qN];exact g1) (by rw[qN];exact g2) g3];by_cases h1:v=la ls (pf us k)
  ·subst h1;rw[if_pos rfl,if_pos rfl];omega
  ·rw[if_neg h1,if_neg h1]
   by_cases h2:v=lb ls (pf us k)
   ·subst h2;rw[if_pos rfl,if_pos rfl];omega
   ·rw[if_neg h2,if_neg h2];exact ih
theorem AZ{ls us:List (List Int)}{N:Nat}(hl:Bo N ls):∀{k:Nat},wZ ls us k->∀v,v<N->-(bW (pn us) k)<=(uC ls us N k).getD v 0/\(uC ls us N k).getD v 0<=bW (pn us) k
 |0,_,v,hv=>by
  show -(0:Int)<=(List.replicate N (0:Int)).getD v 0/\(List.replicate N (0:Int)).getD v 0<=0;have:(List.replicate N (0:Int)).getD v 0=0:=by rw[List.getD_eq_getElem?_getD,List.getElem?_replicate];split <;> rfl
  omega
 |k+1,h,v,hv=>by
  have hk:wZ ls us k:=fun j hj=>h j oM
  obtain⟨g1,g2,g3,_⟩:=hl _ (Mf h (Nat.lt_succ_self k));have ih:=AZ hl hk v hv;have iha:=AZ hl hk _ g1;have ihb:=AZ hl hk _ g2;have hp:=(h k (Nat.lt_succ_self k)).2.1;have e:bW (pn us) (k+1)=bW (pn us) k+pn us k:=rfl;show -(bW (pn us) (k+1))<=(List.set (List.set _ _ _) _ _).getD v 0/\(List.set (List.set _ _ _) _ _).getD v 0<=_;rw[Fe (by rw[qN];exact g1) (by rw[qN];exact g2) g3];by_cases h1:v=la ls (pf us k)
  ·rw[if_pos h1];omega
  ·rw[if_neg h1]
   by_cases h2:v=lb ls (pf us k)
   ·rw[if_pos h2];omega
   ·rw[if_neg h2];omega
theorem Hv{ls us:List (List Int)}{N:Nat}(hl:Bo N ls):∀{k:Nat},wZ ls us k->-(20000*bW (pn us) k)<=bW (fun j=>pn us j*lw ls (pf us j)) k/\bW (fun j=>pn us j*lw ls (pf us j)) k<=20000*bW (pn us) k
 |0,_=>⟨by show -(20000*(0:Int))<=0;decide,by show(0:Int)<=20000*0;decide⟩
 |k+1,h=>by
  have ih:=Hv hl (k:=k) (fun j hj=>h j oM);obtain⟨_,_,_,g4,g5,_⟩:=hl _ (Mf h (Nat.lt_succ_self k));have hp:=(h k (Nat.lt_succ_self k)).2.1;have hq:=CX (t:=pn us k) (z:=lw ls (pf us k)) oM ⟨g4,g5⟩;show -(20000*(bW (pn us) k+pn us k))<=bW (fun j=>pn us j*lw ls (pf us j)) k+pn us k*lw ls (pf us k)/\bW (fun j=>pn us j*lw ls (pf us j)) k+pn us k*lw ls (pf us k)<=20000*(bW (pn us) k+pn us k);omega
def D9(ls us:List (List Int))(w:List Int)(N:Nat)(bd:Int):Prop:=wZ ls us us.length/\bW (fun j=>pn us j*lw ls (pf us j)) us.length=bd/\∀v,1<=v->v<N->(AY ls us w us.length).getD v 0=0
theorem Hw{m:Int}{N:Nat}(hN:(N:Int)=m+1)(h:mU m ls=true):Bo N ls:=by
 intro i hi;have key:∀{l:List (List Int)} {i:Nat},mU m l=true->i<l.length->∃y0 y1 y2 y3:Int,l[i]? = some [y0,y1,y2,y3]/\(0<=y0/\y0<=m)/\(0<=y1/\y1<=m)/\¬y0=y1/\(-20000<=y2/\y2<=20000):=by
  intro l
  induction l with
  |nil=>intro i _ hi;exact absurd hi (Nat.not_lt_zero i)
  |cons a l ih=>
   intro i h hi
   match a,h with
   |[y0,y1,y2,y3],h=>
    have h':(decide _ && mU m l)=true:=h;rw[Bool.and_eq_true] at h';have h2:=of_decide_eq_true h'.1;cases i with
    |zero=>exact⟨y0,y1,y2,y3,rfl,h2.2.1,h2.2.2.1,h2.2.2.2.1,h2.2.2.2.2.1⟩
    |succ i=>exact ih h'.2 (by rw[List.length_cons] at hi;omega)
 obtain⟨y0,y1,y2,y3,e,h1,h2,h3,h4⟩:=key h hi;have e9:ls.getD i []=[y0,y1,y2,y3]:=by rw[List.getD_eq_getElem?_getD,e];rfl
 have ea:la ls i=y0.toNat:=by unfold la;rw[e9];rfl
 have eb:lb ls i=y1.toNat:=by unfold lb;rw[e9];rfl
 have ew:lw ls i=y2:=by unfold lw;rw[e9];rfl
 rw[ea,eb,ew];exact⟨oM,oM,oM,h4.1,h4.2,y3,by rw[e,Int.toNat_of_nonneg h1.1,Int.toNat_of_nonneg h2.1]⟩
def sg(high:Bool):Int:=if high=true then 1 else -1
def xW(high:Bool)(l:List Int)(k:Nat):List Int:=(l++List.replicate k 0).map (fun z=>sg high*z)
theorem gC:(xW high l k).length=l.length+k:=by unfold xW;rw[List.length_map,List.length_append,List.length_replicate]
theorem P1{k j:Nat}:(xW high l k).getD j 0=sg high*l.getD j 0:=by
 unfold xW;rw[List.getD_eq_getElem?_getD,List.getElem?_map,List.getD_eq_getElem?_getD];by_cases h:j<l.length
 ·rw[List.getElem?_append_left h,List.getElem?_eq_getElem h];rfl
 ·rw[List.getElem?_append_right oM,List.getElem?_replicate,List.getElem?_eq_none (l:=l) oM]
  split
  ·rfl
  ·show(0:Int)=sg high*0
   rw[Int.mul_zero]
theorem vQ:dA (xW high l k) (xW high l k).length=dA l l.length:=by
 have e:∀n,dA (xW high l k) n=dA l n:=fun n=>nL (fun j _=>by
  rw[P1];unfold sg pN;split <;> omega)
 rw[e,gC];exact D0 oM
theorem qO{w:List Int}{c:Int}(h:dA w w.length<=c){i:Nat}:-c<=w.getD i 0/\w.getD i 0<=c:=by
 have h0:=CV (w:=w) (a:=w.length);by_cases hi:i<w.length
 ·have h1:dA w (i+1)<=dA w w.length:=CT oM
  have h2:dA w (i+1)=dA w i+pN (w.getD i 0):=rfl;have h3:=CV (w:=w) (a:=i);have h4:pN (w.getD i 0)=max (w.getD i 0) (-(w.getD i 0)):=rfl;omega
 ·have:w.getD i 0=0:=by rw[List.getD_eq_getElem?_getD,List.getElem?_eq_none oM];rfl
  omega
theorem vR{w:List Int}{c:Int}(h:dA w w.length<=c)(hc:c<=4000000000000):∀x∈w,-9223372036854775808<=x/\x<9223372036854775808:=fun x hx=>by
 obtain⟨i,hi,e⟩:=List.mem_iff_getElem.1 hx;have:=qO h (i:=i);rw[List.getD_eq_getElem?_getD,List.getElem?_eq_getElem hi,e] at this;have this:-c<=x/\x<=c:=this;omega
theorem Hx{s:St}{a3 a4:Option Addr}{r al up m:Int}{l1 l2:List Int}{rs cs:List (List Int)}(hsr:1<=r/\r<=99999)(hsa:0<=al/\al<=100000)(hsu:0<=up/\up<=100000)(hpl:cJ l1 l2=true)(hcpb:pG cs=true)(hrdb:pF (l1.length:Int) (l2.length:Int) rs=true)(hr:RowsE s 7 a3 rs)(hc:RowsE s 6 a4 cs)(hm:m=(l1.length:Int)*(l2.length:Int)+((dys rs).length:Int))(hm64:m<=64):LV m (Sv.b6 (Sv.mk r al up l1 l2 rs cs)):=by
 have h5:=(DW hsr hsa hsu hpl hcpb hc hm hm64).2.2 cs.length (Nat.le_refl _);have hM:(l1.length:Int)*(l2.length:Int)=((l1.length*l2.length:Nat):Int):=(Int.natCast_mul ..).symm;refine LV.acc h5 rs.length (fun k hk=>?_);obtain⟨_,_,x0,x1,x2,x3,x4,x5,x6,_,hx,_⟩:=hr.row7 (k:=k) hk;have hrd:=mF hrdb hx;have hx':rs.getD k []=[x0,x1,x2,x3,x4,x5,x6]:=Sv.getD_of hx;have hix:=qF (nZ hx);obtain⟨uN,huN,huM⟩:=sP (a:=l1.length) (b:=l2.length) (x1:=x1) (x2:=x2) oM oM;show LV m (mI ((l1.length:Int)*(l2.length:Int)+1+(vU [(rs.getD k []).getD 5 0,(rs.getD k []).getD 6 0] (dys rs):Int)) (1+(rs.getD k []).getD 1 0*(l2.length:Int)+(rs.getD k []).getD 2 0) ((rs.getD k []).getD 3 0+(rs.getD k []).getD 4 0) ((rs.getD k []).getD 4 0-(rs.getD k []).getD 3 0) ((rs.getD k []).getD 0 0));rw[hx'];show LV m (mI ((l1.length:Int)*(l2.length:Int)+1+(vU [x5,x6] (dys rs):Int)) (1+x1*(l2.length:Int)+x2) (x3+x4) (x4-x3) x0);rw[huN,hM];rw[hM] at hm;have h1:0<=x1*(l2.length:Int):=Int.mul_nonneg oM oM;exact LV.lm oM oM oM oM oM oM oM
section
variable{X:FuncId->List Value->St->(Value->St->Bool)->Bool}
end
def UM(M:List (List Int))(n N:Nat)(ls:List (List Int))(f:Nat):Nat->Int
 |0=>1000
 |k+1=>if lb ls k=f then min (UM M n N ls f k) (hv M n N (la ls k)+lw ls k) else UM M n N ls f k
theorem TE{M:List (List Int)}{n N:Nat}{ls:List (List Int)}{f i:Nat}(hi:lb ls i=f):∀k,i<k->UM M n N ls f k<=hv M n N (la ls i)+lw ls i
 |k+1,h=>by
  show(if lb ls k=f then _ else _)<=_;by_cases e:k=i
  ·subst e
   rw[if_pos hi];omega
  ·have ih:=TE hi (M:=M) (n:=n) (N:=N) k oM
   split <;> omega
def UN(N T:Nat)(ls:List (List Int)):Prop:=(∀i,i<ls.length->la ls i<=N∨lb ls i<=N)/\∀j,j<T->∃i,i<ls.length/\la ls i=N+1+j/\lb ls i=0/\lw ls i=1000
/-! The limits of a survey are such. -/
theorem A0{X:List (List Int)}{f:Nat->List (List Int)}{r:List Int}(h:r∈X):∀t,r∈acc X f t
 |0=>h
 |t+1=>List.mem_append_left _ (A0 h t)
theorem Ea{X:List (List Int)}{f:Nat->List (List Int)}{r:List Int}{k:Nat}(h:r∈f k):∀t,k<t->r∈acc X f t
 |t+1,ht=>by
  by_cases e:k=t
  ·subst e;exact List.mem_append_right _ h
  ·exact List.mem_append_left _ (Ea h t oM)
def zP(N:Nat)(L:List (List Int)):Prop:=∀r∈L,r.getD 0 0<=(N:Int)∨r.getD 1 0<=(N:Int)
theorem zP.nil{N:Nat}:zP N []:=fun _ h=>by cases h
theorem zP.lm{N:Nat}{a b m1 m2 y:Int}(h:a<=N∨b<=N):zP N (mI a b m1 m2 y):=fun r hr=>by
 rcases List.mem_cons.1 hr with rfl|hr
 ·exact h
 ·rw[List.mem_singleton.1 hr];exact h.symm
theorem zP.acc{N:Nat}{X:List (List Int)}{f:Nat->List (List Int)}(hX:zP N X):∀t,(∀k,k<t->zP N (f k))->zP N (acc X f t)
 |0,_=>hX
 |t+1,h=>fun r hr=>(List.mem_append.1 hr).elim (zP.acc hX t (fun k hk=>h k oM) r) (h t oM r)
theorem CY{s:St}{a3:Option Addr}{r al up:Int}{l1 l2:List Int}{rs cs:List (List Int)}{N9:Nat}(hrdb:pF (l1.length:Int) (l2.length:Int) rs=true)(hr:RowsE s 7 a3 rs)(h2:1<=l2.length)(hl:Bo N9 (Sv.b6 (Sv.mk r al up l1 l2 rs cs))):UN (l2.length*l1.length) (dys rs).length (Sv.b6 (Sv.mk r al up l1 l2 rs cs)):=by
 have hMi:(l1.length:Int)*(l2.length:Int)=((l2.length*l1.length:Nat):Int):=by rw[Int.natCast_mul,Int.mul_comm]
 have hNB:zP (l2.length*l1.length) (Sv.b6 (Sv.mk r al up l1 l2 rs cs)):=by
  have g1:zP (l2.length*l1.length) (Sv.b1 (Sv.mk r al up l1 l2 rs cs)):=zP.nil.acc _ (fun k hk=>zP.lm (.inl oM));have g2:zP (l2.length*l1.length) (Sv.b2 (Sv.mk r al up l1 l2 rs cs)):=g1.acc _ (fun k hk=>by
   unfold Sv.q2;split
   ·exact zP.lm (.inl (by have:k<l2.length*l1.length:=hk;omega))
   ·exact zP.nil)
  have g3:zP (l2.length*l1.length) (Sv.b3 (Sv.mk r al up l1 l2 rs cs)):=g2.acc _ (fun k hk=>by
   unfold Sv.q3;split
   ·exact zP.lm (.inl (by have:k<l2.length*l1.length:=hk;omega))
   ·exact zP.nil)
  have g4:∀i,zP (l2.length*l1.length) (Sv.b5 (Sv.mk r al up l1 l2 rs cs) i):=by
   intro i
   induction i with
   |zero=>exact g3.acc _ (fun k hk=>zP.lm (.inl oM))
   |succ i ih=>
    refine ih.acc _ (fun k hk=>?_);unfold Sv.q5;split
    ·exact zP.lm (.inl oM)
    ·exact zP.nil
  refine(g4 cs.length).acc _ (fun k hk=>?_);obtain⟨_,_,x0,x1,x2,x3,x4,x5,x6,_,hx,_⟩:=hr.row7 (k:=k) hk;have hrd:=mF hrdb hx;rw[Sv.q6_at (y:=(Sv.mk r al up l1 l2 rs cs)) hx];refine zP.lm (.inr ?_);obtain⟨uN,huN,huM⟩:=sP (a:=l1.length) (b:=l2.length) (x1:=x1) (x2:=x2) oM oM;show 1+x1*(l2.length:Int)+x2<=_;rw[huN,<-hMi,<-Int.natCast_mul];omega
 refine⟨fun i hi=>?_,fun j hj=>?_⟩
 ·have h1:=hNB ((Sv.b6 (Sv.mk r al up l1 l2 rs cs))[i]) (List.getElem_mem hi)
  have e:(Sv.b6 (Sv.mk r al up l1 l2 rs cs)).getD i []=(Sv.b6 (Sv.mk r al up l1 l2 rs cs))[i]:=by rw[List.getD_eq_getElem?_getD,List.getElem?_eq_getElem hi];rfl
  rw[<-e] at h1;unfold la lb;omega
 ·have hm:[(((l2.length*l1.length+1+j:Nat):Int)),0,1000,r]∈Sv.b6 (Sv.mk r al up l1 l2 rs cs):=by
   refine A0 ?_ _;have g5:∀i,[(((l2.length*l1.length+1+j:Nat):Int)),0,1000,r]∈Sv.b5 (Sv.mk r al up l1 l2 rs cs) i:=by
    intro i
    induction i with
    |zero=>
     refine Ea (k:=j) ?_ _ hj;show _∈mI 0 ((l1.length:Int)*(l2.length:Int)+1+(j:Int)) 1000 1000 r;rw[hMi,show((l2.length*l1.length:Nat):Int)+1+(j:Int)=((l2.length*l1.length+1+j:Nat):Int) from oM];exact List.mem_cons_of_mem _ (List.mem_cons_self ..)
    |succ i ih=>exact A0 ih _
   exact g5 cs.length
  obtain⟨i,hi,e⟩:=List.getElem_of_mem hm;have e2:(Sv.b6 (Sv.mk r al up l1 l2 rs cs)).getD i []=[(((l2.length*l1.length+1+j:Nat):Int)),0,1000,r]:=by rw[List.getD_eq_getElem?_getD,List.getElem?_eq_getElem hi,e];rfl
  refine⟨i,hi,?_,?_,?_⟩
  ·unfold la;rw[e2];exact Int.toNat_natCast _
  ·unfold lb;rw[e2];rfl
  ·unfold lw;rw[e2];rfl
section
variable{X:FuncId->List Value->St->(Value->St->Bool)->Bool}
end
section
variable{X:FuncId->List Value->St->(Value->St->Bool)->Bool}
end
section
variable{X:FuncId->List Value->St->(Value->St->Bool)->Bool}
end
section
end
variable{b n k:Nat}{l w:List Int}{ls us:List (List Int)}
theorem pK.of{s:St}:∀{l:List Value} {off:Nat},(∀j v,l[j]? = some v->At s b (off+j) v)->pK s b off l
 |[],_,_=>trivial
 |v::l,off,h=>⟨by simpa using h 0 v sM,pK.of (fun j u hj=>by have:=h (j+1) u (by simpa using hj);simpa [Nat.add_assoc,Nat.add_comm 1 j] using this)⟩
theorem TF{P:Program}{C:Nat->(CF->Bool)->Bool}{X:FuncId->List Value->St->(Value->St->Bool)->Bool}{s0:St}{n nt t:Nat}{env:List (Nat×Value)}{A:List Ob}{R:Value->List Ob->Prop}{x y:Ev.X}{a:Option Addr}{m c:Nat}(hx:xv env x=some (.slice a m c))(hy:xv env y=some (.slice none 0 0))(hn:evBin P .eql t 1 (.slice none 0 0) (.slice none 0 0)=some (.bool true))(h0:a=none->m=0/\c=0)(h1:a=none->R (.bool true) A)(h2:¬a=none->R (.bool false) A):fT P C X s0 n nt (.bin .eql t 1 x y) env A R:=by
 cases a with
 |none=>
  obtain⟨rfl,rfl⟩:=h0 rfl;exact I9 hx hy hn (h1 rfl)
 |some a=>exact I9 hx hy rfl (h2 sM)
theorem aN.drop{s:St}{b o:Nat}(h:aN s (some ⟨b,o,none⟩) l)(hk:k<=l.length):aN s (some ⟨b,o+k*1,none⟩) (l.drop k):=by
 refine⟨fun c hc=>by cases hc;rfl,fun _=>⟨b,o+k*1,rfl⟩,fun c o' hc=>?_,fun x hx=>h.fit x (List.mem_of_mem_drop hx),(by have:=h.len;rw[List.length_drop];omega)⟩;cases hc;refine pK.of (fun j v hj=>?_);have hj':(ints l)[k+j]? = some v:=by
  unfold ints at hj ⊢;rw[List.map_drop,List.getElem?_drop] at hj;exact hj
 have:=(h.cells b o rfl).get hj'
 rwa [show o+(k+j)=o+k*1+j by omega] at this
theorem P4{row:Nat->Option (Nat×Nat×Bool)}{b n l k:Nat}(hr:row b=some (k,3,true))(hn:n<=k)(hl:l<=n)(h0:0<n):evSlc row 3 1 (.slice (some ⟨b,0,none⟩) n OPEN) (some (.int .i64 (l:Int))) none none=some (.slice (some ⟨b,0+l*1,none⟩) (n-l) (OPEN+(0+l))):=by
 have hb:Nat.beq n 0=false:=uT oM;show(match row b with
  |some (k,e',op)=>sel (op && Nat.beq 3 e' && Nat.beq 0 ((OPEN-OPEN)*1) && !Nat.beq 1 0 && (Nat.beq OPEN OPEN || !Nat.beq n 0)) (evSlcOpen b 1 l n k (OPEN-OPEN) none) none
  |none=>none)=_
 rw[hr];show sel (Nat.ble l n && Nat.ble ((0+n)*1) k) (some (Value.slice (some ⟨b,(0+l)*1,none⟩) (n-l) (OPEN+(0+l)))) none=_;rw[show Nat.ble l n=true from by rw[Nat.ble_eq];exact hl,show Nat.ble ((0+n)*1) k=true from by rw[Nat.ble_eq];omega,show(0+l)*1=0+l*1 by omega];rfl
theorem R3{P:Program}{C:Nat->(CF->Bool)->Bool}{X:FuncId->List Value->St->(Value->St->Bool)->Bool}{s0:St}{n nt:Nat}{env:List (Nat×Value)}{A:List Ob}{R:Value->List Ob->Prop}{x lo:Ev.X}{b m:Nat}{l:List Value}(hx:xv env x=some (.slice (some ⟨b,0,none⟩) m OPEN))(hlo:xv env lo=some (.int .i64 1))(ho:lK A b 3 true l)(hm:m<=l.length)(h0:0<m)
 (hR:R (.slice (some ⟨b,0+1*1,none⟩) (m-1) (OPEN+(0+1))) A):fT P C X s0 n nt (.slc 3 1 x (some lo) none none) env A R:=.mk fun s hs T hT k hk=>by
 refine U5 hT (k:=fun x=>eU T (some lo) (fun lo=>eU T none (fun hi=>eU T none (fun mx=>nO s 3 1 x lo hi mx (vK s k))))) hx ?_;refine U5 hT (k:=fun v=>nO s 3 1 _ (some v) none none (vK s k)) hlo ?_;unfold nO;obtain⟨c,h3,_⟩:=hs.own ho;have hrow:iW s b=some (l.length,3,true):=by
  unfold iW;rw[h3]
 have key:evSlc (iW s) 3 1 (.slice (some ⟨b,0,none⟩) m OPEN) (some (.int .i64 1)) none none=some (.slice (some ⟨b,0+1*1,none⟩) (m-1) (OPEN+(0+1))):=P4 (l:=1) hrow hm oM h0;rw[key];show gY (Value.slice (some ⟨b,0+1*1,none⟩) (m-1) (OPEN+(0+1))) (vK s k)=true;rw[eC];exact hk _ _ ⟨A,hs,hR⟩
theorem B3{k j:Nat}:(l.drop k).getD j 0=l.getD (j+k) 0:=by
 rw[List.getD_eq_getElem?_getD,List.getElem?_drop,List.getD_eq_getElem?_getD,Nat.add_comm]
theorem R4(h:∀k,k<l.length->l.getD k 0=0):qT (-0) 0 l=true:=by
 unfold qT;rw[List.all_eq_true];intro x hx;obtain⟨j,hj,e⟩:=List.mem_iff_getElem.1 hx;have:=h j hj;rw[List.getD_eq_getElem?_getD,List.getElem?_eq_getElem hj,e] at this;have this:x=0:=this;subst this;decide
theorem R5{N:Nat}(hl:Bo N ls)(hw:w.length=N)(hwb:∀v,v<N->-3600000000000<=w.getD v 0/\w.getD v 0<=3600000000000)(h:wZ ls us k):∀v,v<N->-3600000000000-bW (pn us) k<=(AY ls us w k).getD v 0/\(AY ls us w k).getD v 0<=3600000000000+bW (pn us) k:=fun v hv=>by
 have h1:=sT hl hw h v hv;have h2:=AZ hl h v hv;have h3:=hwb v hv;omega
theorem TG{N:Nat}{bd:Int}(hw:w.length=N)(h:wZ ls us us.length)(hs:bW (fun j=>pn us j*lw ls (pf us j)) us.length=bd)(hi:qT (-0) 0 ((AY ls us w us.length).drop 1)=true):D9 ls us w N bd:=⟨h,hs,fun v h1 h2=>by
 have:=Lm hi (k:=v-1) (by rw[List.length_drop,oE];omega);rw[B3,show v-1+1=v by omega] at this;omega⟩
theorem tG{N:Nat}{bd:Int}(hw:w.length=N)(hi:¬qT (-0) 0 ((AY ls us w us.length).drop 1)=true):¬D9 ls us w N bd:=fun q=>hi (R4 (fun k hk=>by
 rw[List.length_drop,oE] at hk;rw[B3];exact q.2.2 (k+1) oM oM))
section
variable{X:FuncId->List Value->St->(Value->St->Bool)->Bool}
theorem Mg(n:Nat)(aw:Option Addr)(cw:Nat)(w:List Int)(s:St)(hs:Wf s)(hW:aN s aw w)(hne:w≠[])(h64:w.length<=100000):bX Tryz.prog (bZ cB) X (n+100) 152 [.slice aw w.length cw] s (fun v A=>∃b,v = .slice (some ⟨b,0,none⟩) w.length OPEN/\A=[.row b 3 true (ints w)]):=by
 refine enter KL rfl hs ?_;unfold Gj;have hlen:=hW.len;obtain⟨qw,ow,hqw⟩:=hW.addr hne;refine rS (kM J (Q0 (rQ (rS (kM J (kO (TF J J kR (fun q=>by rw[q] at hqw;cases hqw) (fun h1=>?_) (fun h1=>?_))))))))
 ·rw[h1] at hqw;cases hqw
 ·refine Q0 (U0 J (Q1 (W0 (rS (kO (bF J J J (fun b2=>(kM J (kO (Ll J (fun b hb=>by cases hb;rfl) J (DX hW hne) (fun e=>hne (List.eq_nil_of_length_eq_zero e)) oM oM (fun b3=>(kM J (Q0 (V2 ?_))))))))))))))
  exact gH J (.q (.cons _ .slnil)) ⟨_,rfl,rfl⟩
set_option maxHeartbeats 4000000 in
theorem Eb(n:Nat)(ax:Option Addr)(cx nx:Nat)(x:List Int)(most:Int)(s:St)(hs:Wf s)(hn:281474976710656<=n)(hnx:nx=x.length)(hX:aN s ax x)(hmo:0<=most/\most<=1000000000):bX Tryz.prog (bZ cB) X (n+200) 121 [.slice ax nx cx,.int .i64 most] s (fun v A=>v = .bool (qT (-most) most x)/\A=[]):=by
 subst hnx;exact D7 n ax cx x most s hs hn hX hmo
set_option maxHeartbeats 4000000 in
theorem Mh(n:Nat)(m:Int)(al:Option Addr)(cl:Nat)(ls:List (List Int))(aw:Option Addr)(cw:Nat)(w:List Int)(ap:Option Addr)(cp:Nat)(us:List (List Int))(bd:Int)(N:Nat)(s:St)(hs:Wf s)(hn:1125899906842624<=n)(hL:RowsE s 4 al ls)(hW:aN s aw w)(hU:RowsE s 2 ap us)(hu:us.length<=400)(hN:(N:Int)=m+1)(hN66:N<=65)(hN0:0<N)(hLg:Bo N ls)(h400:ls.length<=400)(hwl:w.length=N)(hwo:dA w w.length<=3600000000000):bX Tryz.prog (bZ cB) X (n+1500) 109 [.agg ⟨[.int .i64 m,.slice al ls.length cl]⟩,.slice aw w.length cw,.agg ⟨[.int .i64 bd,.slice ap us.length cp]⟩] s (fun v A=>((D9 ls us w N bd/\v = .bool true)∨(¬D9 ls us w N bd/\v = .bool false))/\A=[]):=by
 refine enter Kq rfl hs ?_;unfold FY;have hlen:=hL.len;have hlenW:=hW.len;have hwb:∀v,v<N->-3600000000000<=w.getD v 0/\w.getD v 0<=3600000000000:=fun v hv=>qO hwo
 refine rS (aZ J J J (fun b1=>(aZ J J J (fun b2=>(kM J (Q0 (rS (kM J (kO (Z4 J J (fun s1 h1=>Mg _ aw cw w s1 h1.wf (hW.ext hs h1.2.1) (fun e=>by rw[e] at hwl;have:(0:Nat)=N:=hwl;omega) oM) (fun v1 A1 q1=>?_)))))))))));obtain⟨bd3,rfl,rfl⟩:=q1;refine kM J (Q0 (rS (kM J (kM J (kM J (Q0 (rQ (rS (aH J (aL J .h1 J (aJ J (by first|exact hL.spot|exact hU.spot|exact hW.spot) (kM J (Q0 (W1 (U4 (fun j e A=>∃(k:Nat),e=[(3,.pointer (some ⟨b1,0,none⟩)),(5,.pointer (some ⟨b2,0,none⟩)),(7,.slice (some ⟨bd3,0,none⟩) w.length OPEN),(8,.int .i64 (bef us k)),(9,.int .i64 (bW (pn us) k)),(10,.int .i64 (bW (fun j=>pn us j*lw ls (pf us j)) k)),(17,.slice ap us.length cp),(18,.int .i64 (us.length:Int)),(19,.int .i64 (k:Int))]/\A=(.row bd3 3 true (ints (AY ls us w k))::(.row b2 (62) false ([.int .i64 bd,.slice ap us.length cp])::(.row b1 45 false ([.int .i64 m,.slice al ls.length cl])::[])))/\j=us.length-k/\k<=us.length/\wZ ls us k) 400 281474976710656 281474976710656 ?_ (j:=_) (env2:=_) (A2:=_) ?_ ?_ ?_ ?_ ⟨0,rfl,rfl,rfl,Nat.zero_le _,(fun j hj=>absurd hj (Nat.not_lt_zero j))⟩)))))))))))))))
 rotate_left
 ·omega
 ·omega
 ·exact lL
 ·exact(.q (.q (.q .slnil)))
 rintro n hn j _ _ ⟨k,rfl,rfl,rfl,hk,hUk⟩;have hbe:=hUk.bef;have hto:=hUk.tot;have hml:(AY ls us w k).length=N:=by rw[oE];exact hwl
 have hub:=R5 hLg hwl hwb hUk;have hus:=Hv hLg hUk;refine rS (dB J J (fun h4=>?_) (fun h4=>?_))
 ·obtain⟨q5,o5,z0,z1,ahU,hux,huat,j0,j1⟩:=hU.row2 (k:=k) oM
  obtain⟨ur1,ur2⟩:=oD hux;have:=j0.lo;have:=j0.hi;have:=j1.lo;have:=j1.hi;refine Q0 (rQ (Y0 J (Q1 (W0 (rQ (W1 (rS (kO (cM (j:=k) ahU rfl rfl (by first|rfl|omega) (by first|decide|omega) (kO (dU J dE aM J (aY J J (fun b5=>(kZ (Q6 J J .here rfl rfl rfl rfl (Q0 (rQ (rS (aH J (aL J .here rfl (kM J (aX J J oM (aH J (aL J .h3 J (aJ J (by first|exact hL.spot|exact hU.spot|exact hW.spot) (kO (bN J J oM (kO (bB J J (fun s1 h1=>gX _ _ _ _ s1 h1.wf) (fun h6=>?_) (fun h6=>?_))))))))))))))))))))))))))))))
  ·have hin1:=h6
   obtain⟨li,rfl⟩:∃q:Nat,z0=(q:Int):=⟨z0.toNat,oM⟩;refine eP J (kM J (kG (Q2 J (kG (Y1 J .here rfl (kG (bB J J (fun s1 h1=>gX _ _ _ _ s1 h1.wf) (fun h7=>?_) (fun h7=>?_))))))))
   ·have hin2:=h7
    refine kG (U6 J (bK J J J (Q0 (U0 J (Q1 (W0 (rS (aH J (aL J .here rfl (kM J (Q0 (rQ (rS (kM J (aH J (aL J .here rfl (aX J J oM (kM J (Q0 (rS (kM J (kO (dR J J (fun h8=>?_) (fun h8=>?_))))))))))))))))))))))))
    ·refine Q0 (Y0 J (rS (kM J (Q0 (V2 (W3 (Y6 (W3 (W3 (Y6 (W3 ?_)))))))))))
     exact aO J ⟨.inr ⟨(by first|exact(fun q=>absurd q.2.1 aM)|exact tG hwl aM|exact tG hwl (by rw[Bool.not_eq_true];assumption)|exact(fun q=>by have q1:=q.1 k oM;have e9:bW (pn us) (k+1)=bW (pn us) k+pn us k:=rfl;omega)),rfl⟩,rfl⟩
    ·have hUk2:=hUk.put oM oM (show bW (pn us) k+pn us k<=_ from oM)
     refine Q0 (U0 J (Q1 (W0 (rS (aH J (aL J .h3 J (aH J (aL J .here rfl ?_))))))));obtain⟨q4,o4,y0,y1,y2,y3,ahL,hx,hat,i0,i1,i2,i3⟩:=hL.row4 (k:=li) oM;have hat2:=hat;have:=i0.lo;have:=i0.hi;have:=i1.lo;have:=i1.hi;have:=i2.lo;have:=i2.hi;have:=i3.lo;have:=i3.hi;obtain⟨hg1,hg2,hg3,hg4,hg5,y9,hx9⟩:=hLg li oM;rw[hx] at hx9;simp only[Option.some.injEq,List.cons.injEq,and_true] at hx9;obtain⟨e0,e1,e2,e3⟩:=hx9;subst e0 e1 e2;have:=hub _ hg1;have:=hub _ hg2;refine kO (cM (j:=li) ahL rfl rfl (by first|rfl|omega) (by first|decide|omega) (kO (dU J dE aM J (aY J J (fun b9=>(kZ (Q6 J J .here rfl rfl rfl rfl (Q0 (rS (kM J (aH J (aL J .here rfl (cN (j:=(lb ls li)) J J oM oM (kO (dM J .h2 (by first|omega|(simp;done)|(simp;omega)) (aH J (aL J .h1 J (kO (bN J J oM (cN (j:=(lb ls li)) J J oM oM (kZ (W7 J J .h2 (by first|omega|(simp;done)|(simp[cI];omega)|(simp;omega)) (Q0 (rS (kM J (aH J (aL J .here rfl ?_)))))))))))))))))))))))))));have hud:∀z:Int,((AY ls us w k).set (lb ls li) z).getD (la ls li) 0=(AY ls us w k).getD (la ls li) 0:=fun z=>getD_set_ne (fun e=>hg3 e.symm)
     have hud2:=hud ((AY ls us w k).getD (lb ls li) 0-z1);refine cN (j:=(la ls li)) J J oM oM (kO (dM J .h2 (by first|omega|(simp;done)|(simp;omega)) (aH J (aL J .h1 J (aX J J oM (cN (j:=(la ls li)) J J oM oM (kZ (W7 J J .h2 (by first|omega|(simp;done)|(simp[cI];omega)|(simp;omega)) (Q0 (rI (kM J (aH J (aL J .h1 J (aH J (aL J .here rfl ?_)))))))))))))));have hpr:=CX (t:=z1) (z:=lw ls li) oM ⟨oM,oM⟩;refine aV J J oM (aX J J oM (kM J (Q0 (Z1 (W0 (rI (aX J J oM (kM J (Q0 (W0 ?_))))))))));exact⟨rfl,_,_,_,(show us.length-(k+1)<us.length-k from oM),(lc 3 J (lc 5 J (lc 7 J (lc 8 (by show some (Value.int .i64 (li:Int))=some (Value.int .i64 ((us.getD k []).getD 0 0));rw[(oD hux).1]) (lc 9 (by show some (Value.int .i64 (bW (pn us) k+z1))=some (Value.int .i64 (bW (pn us) k+pn us k));rw[(oD hux).2]) (lc 10 (by show some (Value.int .i64 (_+z1*lw ls li))=some (Value.int .i64 (bW (fun j=>pn us j*lw ls (pf us j)) k+pn us k*lw ls (pf us k)));rw[(oD hux).2,Id hux]) (lc 17 J (lc 18 J (lc 19 J fF.nil))))))))),(.cons _ (.cons _ (.q (.q (.q .slnil))))),⟨k+1,rfl,(by rw[show AY ls us w (k+1)=((AY ls us w k).set (lb ls li) ((AY ls us w k).getD (lb ls li) 0-z1)).set (la ls li) (((AY ls us w k).set (lb ls li) ((AY ls us w k).getD (lb ls li) 0-z1)).getD (la ls li) 0+z1) from by rw[getD_set_ne (fun e=>hg3 e.symm),<-Id hux,<-(oD hux).2];rfl]),rfl,oM,hUk2⟩⟩
   ·refine kG (U6 J (bK J J J (Q0 (Y0 J (rS (kM J (Q0 (V2 (W3 (Y6 (W3 (W3 (Y6 (W3 ?_))))))))))))))
    exact aO J ⟨.inr ⟨(by first|exact(fun q=>absurd q.2.1 aM)|exact tG hwl aM|exact tG hwl (by rw[Bool.not_eq_true];assumption)|exact(fun q=>by have q1:=q.1 k oM;have e9:bW (pn us) (k+1)=bW (pn us) k+pn us k:=rfl;omega)),rfl⟩,rfl⟩
  ·refine eP J (kM J (V0 (V0 (V0 (V0 (cA J J J (Q0 (Y0 J (rS (kM J (Q0 (V2 (W3 (Y6 (W3 (W3 (Y6 (W3 ?_))))))))))))))))))
   exact aO J ⟨.inr ⟨(by first|exact(fun q=>absurd q.2.1 aM)|exact tG hwl aM|exact tG hwl (by rw[Bool.not_eq_true];assumption)|exact(fun q=>by have q1:=q.1 k oM;have e9:bW (pn us) (k+1)=bW (pn us) k+pn us k:=rfl;omega)),rfl⟩,rfl⟩
 ·have hku:k=us.length:=oM
  subst hku;have hU9:=hUk;refine Q0 (rQ (U0 J (Y4 (Z2 (Z2 (Q3 (W0 (rS (kM J (aH J (aL J .h1 J (kO (bV J J (fun h10=>?_) (fun h10=>?_))))))))))))))
  ·refine kM J (kG (U2 J (kG (R3 J J .here (by rw[bU,oE];omega) oM (kG (qB J J (fun s1 h1=>Eb _ _ _ _ ((AY ls us w us.length).drop 1) 0 s1 h1.wf oM (by rw[List.length_drop,oE]) ((aN.own (h1.own .here) (fun z hz=>by obtain⟨k9,hk9,rfl⟩:=List.mem_iff_getElem.1 hz;have:=hub k9 oM;rw[List.getD_eq_getElem?_getD,List.getElem?_eq_getElem hk9] at this;have this:_<=(AY ls us w us.length)[k9]/\(AY ls us w us.length)[k9]<=_:=this;omega) oM).drop oM) oM) (fun h11=>?_) (fun h11=>?_)))))))
   ·refine cA J J J (kM J (Q0 (V2 ?_)))
    exact aO J ⟨.inl ⟨TG hwl hU9 aM aM,rfl⟩,rfl⟩
   ·refine cA J J J (kM J (Q0 (V2 ?_)))
    exact aO J ⟨.inr ⟨(by first|exact(fun q=>absurd q.2.1 aM)|exact tG hwl aM|exact tG hwl (by rw[Bool.not_eq_true];assumption)|exact(fun q=>by have q1:=q.1 k oM;have e9:bW (pn us) (k+1)=bW (pn us) k+pn us k:=rfl;omega)),rfl⟩,rfl⟩
  ·refine kM J (V0 (V0 (V0 (bK J J J (kM J (Q0 (V2 ?_)))))))
   exact aO J ⟨.inr ⟨(by first|exact(fun q=>absurd q.2.1 aM)|exact tG hwl aM|exact tG hwl (by rw[Bool.not_eq_true];assumption)|exact(fun q=>by have q1:=q.1 k oM;have e9:bW (pn us) (k+1)=bW (pn us) k+pn us k:=rfl;omega)),rfl⟩,rfl⟩
end
end Ev
end Go.Proofs.YtjkdkpckjgaplaaGreat
