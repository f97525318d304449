import Derived.Test.YtjkdkpckjgaplaaGreatZi14
import Derived.Test.YtjkdkpckjgaplaaGreatZi16
set_option linter.unusedVariables false
set_option linter.unusedSimpArgs false
namespace Go.Proofs.YtjkdkpckjgaplaaGreat
open Go Go.RowKit
namespace Ev
variable{w:List Int}{i k:Nat}{c a b:Int}
def fW(f:Nat->Int):Nat->Int
 |0=>0
 |k+1=>fW f k+f k
theorem rJ{f g:Nat->Int}:∀{k:Nat},(∀j,j<k->f j=g j)->fW f k=fW g k
 |0,_=>rfl
 |k+1,h=>by
  show fW f k+f k=fW g k+g k;rw[rJ (fun j hj=>h j oM),h k oM]
theorem Ew{f:Nat->Int}{a:Nat}:∀b,fW f (a+b)=fW f a+fW (fun j=>f (a+j)) b
 |0=>(Int.add_zero _).symm
 |b+1=>by
  show fW f (a+b)+f (a+b)=_+(fW (fun j=>f (a+j)) b+f (a+b));rw[Ew b];omega
theorem Ck{f:Nat->Int}{c:Int}:∀k,fW (fun j=>c*f j) k=c*fW f k
 |0=>(Int.mul_zero c).symm
 |k+1=>by
  show fW (fun j=>c*f j) k+c*f k=c*(fW f k+f k);rw[Ck k,Int.mul_add]
theorem Cl{f g:Nat->Int}{n:Nat}(hn:0<n):∀m,fW (fun t=>f (t / n)*g (t % n)) (n*m)=fW f m*fW g n
 |0=>by rw[Nat.mul_zero];exact(Int.zero_mul _).symm
 |m+1=>by
  rw[Nat.mul_add,Nat.mul_one,Ew,Cl hn m];have e:fW (fun j=>f ((n*m+j) / n)*g ((n*m+j) % n)) n=f m*fW g n:=by
   rw[<-Ck];refine rJ (fun j hj=>?_);rw[Nat.mul_add_div hn,Nat.mul_add_mod,Nat.div_eq_of_lt hj,Nat.mod_eq_of_lt hj,Nat.add_zero]
  rw[e];show _=(fW f m+f m)*_;rw[Int.add_mul]
theorem Cm{f:Nat->Int}(h:∀j,0<=f j){a b:Nat}(hab:a<=b):fW f a<=fW f b:=by
 obtain⟨d,rfl⟩:∃d,b=a+d:=⟨b-a,oM⟩
 induction d with
 |zero=>exact Int.le_refl _
 |succ d ih=>have:=ih oM;show fW f a<=fW f (a+d)+f (a+d);have:=h (a+d);omega
theorem Rf{f:Nat->Int}(h:∀j,0<=f j)(k:Nat):0<=fW f k:=Cm h (Nat.zero_le k)
theorem Cn{f:Nat->Int}{a:Nat}(h:∀j,a<=j->f j=0):∀d,fW f (a+d)=fW f a
 |0=>rfl
 |d+1=>by
  show fW f (a+d)+f (a+d)=_;rw[Cn h d,h _ oM];omega
def oH(x:Int):Int:=max x (-x)
theorem FG(x:Int):0<=oH x:=by unfold oH;omega
theorem Rg(x y:Int):oH (x+y)<=oH x+oH y:=by unfold oH;omega
theorem HQ(x y:Int):oH (x*y)=oH x*oH y:=by
 unfold oH;rcases Int.le_total 0 x with hx|hx <;> rcases Int.le_total 0 y with hy|hy
 ·have:=Int.mul_nonneg hx hy
  rw[Int.max_eq_left oM,Int.max_eq_left oM,Int.max_eq_left oM]
 ·have:=Int.mul_nonneg hx (show 0<=-y from oM)
  rw[Int.mul_neg] at this;rw[Int.max_eq_right oM,Int.max_eq_left oM,Int.max_eq_right oM,Int.mul_neg]
 ·have:=Int.mul_nonneg (show 0<=-x from oM) hy
  rw[Int.neg_mul] at this;rw[Int.max_eq_right oM,Int.max_eq_right oM,Int.max_eq_left oM,Int.neg_mul]
 ·have:=Int.mul_nonneg (show 0<=-x from oM) (show 0<=-y from oM)
  rw[Int.neg_mul_neg] at this;rw[Int.max_eq_left oM,Int.max_eq_right oM,Int.max_eq_right oM,Int.neg_mul_neg]
def rX(w:List Int)(k:Nat):Int:=fW (fun j=>w.getD j 0) k
def eE(w:List Int)(k:Nat):Int:=fW (fun j=>oH (w.getD j 0)) k
theorem tB{v:Int}(h:i<w.length):(w.set i v).getD i 0=v:=by simp[List.getD_eq_getElem?_getD,h]
theorem Dc{w:List Int}{i:Nat}{v:Int}(g:Int->Int)(hi:i<w.length):∀{k:Nat},i<k->fW (fun j=>g ((w.set i v).getD j 0)) k=fW (fun j=>g (w.getD j 0)) k-g (w.getD i 0)+g v
 |k+1,hk=>by
  show fW (fun j=>g ((w.set i v).getD j 0)) k+g ((w.set i v).getD k 0)=fW (fun j=>g (w.getD j 0)) k+g (w.getD k 0)-_+_;by_cases h:i=k
  ·subst h
   rw[tB hi,rJ (g:=fun j=>g (w.getD j 0)) (fun j hj=>by rw[getD_set_ne oM])];omega
  ·rw[getD_set_ne h,Dc g hi (k:=k) oM];omega
theorem Rh{v:Int}(hi:i<w.length)(hk:i<k):rX (w.set i v) k=rX w k-w.getD i 0+v:=Dc (fun x=>x) hi hk
theorem Dd(hi:i<w.length)(hk:i<k):eE (w.set i (w.getD i 0+c)) k<=eE w k+oH c:=by
 have h:=Dc (v:=w.getD i 0+c) oH hi hk;have h2:=Rg (w.getD i 0) c;unfold eE;omega
theorem De(hi:i<w.length)(hk:i<k):rX (w.set i (w.getD i 0+c)) k=rX w k+c:=by rw[Rh hi hk];omega
theorem Ri:(w.set i a).set (i+1) (w.getD (i+1) 0+b)=(w.set i a).set (i+1) ((w.set i a).getD (i+1) 0+b):=by rw[getD_set_ne (show i≠i+1 from oM)]
theorem IB:((w.set i a).set (i+1) b).set (i+2) (w.getD (i+2) 0+c)=((w.set i a).set (i+1) b).set (i+2) (((w.set i a).set (i+1) b).getD (i+2) 0+c):=by
 rw[getD_set_ne (show i+1≠i+2 from oM),getD_set_ne (show i≠i+2 from oM)]
theorem My(hk:w.length=k)(hi:i+1<k):rX ((w.set i (w.getD i 0+a)).set (i+1) (w.getD (i+1) 0+b)) k=rX w k+a+b/\eE ((w.set i (w.getD i 0+a)).set (i+1) (w.getD (i+1) 0+b)) k<=eE w k+oH a+oH b:=by
 subst hk;rw[Ri];have h1:=Dd (w:=w.set i (w.getD i 0+a)) (i:=i+1) (k:=w.length) (c:=b) (by rw[List.length_set];omega) oM;have h2:=Dd (w:=w) (i:=i) (k:=w.length) (c:=a) oM oM;rw[De (by rw[List.length_set];omega) oM,De oM oM];exact⟨rfl,oM⟩
theorem Tt(hk:w.length=k)(hi:i+2<k):rX (((w.set i (w.getD i 0+a)).set (i+1) (w.getD (i+1) 0+b)).set (i+2) (w.getD (i+2) 0+c)) k=rX w k+a+b+c/\eE (((w.set i (w.getD i 0+a)).set (i+1) (w.getD (i+1) 0+b)).set (i+2) (w.getD (i+2) 0+c)) k<=eE w k+oH a+oH b+oH c:=by
 have h0:=My (i:=i) (a:=a) (b:=b) hk oM;subst hk;rw[IB];have h1:=Dd (w:=(w.set i (w.getD i 0+a)).set (i+1) (w.getD (i+1) 0+b)) (i:=i+2) (k:=w.length) (c:=c) (by rw[List.length_set,List.length_set];omega) oM;rw[De (by rw[List.length_set,List.length_set];omega) oM,h0.1];exact⟨rfl,oM⟩
theorem Vt(h:qG a b=1):max a b=min a b:=by unfold qG at h;(repeat' split at h) <;> omega
theorem Vu(h:qG a b=2):max a b=2*min a b:=by unfold qG at h;(repeat' split at h) <;> omega
theorem Vv(h:qG a b=3):max a b=3*min a b:=by unfold qG at h;(repeat' split at h) <;> omega
theorem IC{l w:List Int}{i m:Nat}(hp:uC 9 100000 l)(hw:w.length=l.length)(hin:i+m<l.length)(hm:many l i=m) :
 rX (mX l w (i,m)) l.length=rX w l.length+36*(l.getD (i+m) 0-l.getD i 0)/\eE (mX l w (i,m)) l.length<=eE w l.length+48*(l.getD (i+m) 0-l.getD i 0):=by
 unfold mX;rcases iI l i with q|q
 ·obtain rfl:m=1:=oM
  rw[if_pos rfl];have r0:=hp.rise i oM;show rX (zF l w i) _=_/\eE (zF l w i) _<=_;unfold zF;obtain⟨e1,e2⟩:=My (w:=w) (i:=i) (a:=18*(l.getD (i+1) 0-l.getD i 0)) (b:=18*(l.getD (i+1) 0-l.getD i 0)) hw oM;have hb:oH (18*(l.getD (i+1) 0-l.getD i 0))=18*(l.getD (i+1) 0-l.getD i 0):=by unfold oH;omega
  rw[hb] at e2;exact⟨by rw[e1];omega,oM⟩
 ·obtain rfl:m=2:=oM
  rw[if_neg (by show ¬(2=1);decide)];have r0:=hp.rise i oM;have r1:=hp.rise (i+1) oM;show rX (dX l w i (qG _ _)) _=_/\eE (dX l w i (qG _ _)) _<=_;obtain⟨h1,hh1⟩:∃h1,h1=l.getD (i+1) 0-l.getD i 0:=⟨_,rfl⟩;obtain⟨h2,hh2⟩:∃h2,h2=l.getD (i+2) 0-l.getD (i+1) 0:=⟨_,rfl⟩;have key:∀(a b c:Int),(a+b+c=36*(h1+h2))->(oH a+oH b+oH c<=48*(h1+h2))->rX (((w.set i (w.getD i 0+a)).set (i+1) (w.getD (i+1) 0+b)).set (i+2) (w.getD (i+2) 0+c)) l.length=rX w l.length+36*(l.getD (i+2) 0-l.getD i 0)/\eE (((w.set i (w.getD i 0+a)).set (i+1) (w.getD (i+1) 0+b)).set (i+2) (w.getD (i+2) 0+c)) l.length<=eE w l.length+48*(l.getD (i+2) 0-l.getD i 0):=fun a b c e1 e2=>by
   obtain⟨q1,q2⟩:=Tt (w:=w) (i:=i) (a:=a) (b:=b) (c:=c) hw oM;exact⟨by rw[q1];omega,oM⟩
  unfold dX;rw[<-hh1,<-hh2];rcases Ac (Ab q) with hk|hk|hk
  ·rw[<-hh1,<-hh2] at hk
   have hx:=Vt hk;rw[hk];have hu:Bb h1 h2 1=12*min h1 h2:=rfl;simp only[hu];split <;> exact key _ _ _ oM (by unfold oH;omega)
  ·rw[<-hh1,<-hh2] at hk
   have hx:=Vu hk;rw[hk];have hu:Bb h1 h2 2=9*min h1 h2:=rfl;simp only[hu];split <;> exact key _ _ _ oM (by unfold oH;omega)
  ·rw[<-hh1,<-hh2] at hk
   have hx:=Vv hk;rw[hk];have hu:Bb h1 h2 3=8*min h1 h2:=rfl;simp only[hu];split <;> exact key _ _ _ oM (by unfold oH;omega)
theorem Co{l:List Int}(hp:uC 9 100000 l):∀(f i:Nat) (w:List Int),l.length<=i+f->i<l.length->w.length=l.length ->
 rX ((fZ l i).foldl (mX l) w) l.length=rX w l.length+36*(l.getD (l.length-1) 0-l.getD i 0)/\eE ((fZ l i).foldl (mX l) w) l.length<=eE w l.length+48*(l.getD (l.length-1) 0-l.getD i 0)
 |0,i,w,hf,hi,hw=>oM
 |f+1,i,w,hf,hi,hw=>by
  by_cases h:i+1<l.length
  ·rw[RO h,List.foldl_cons]
   have hmm:=iI l i;have hin:i+many l i<l.length:=by unfold many;split <;> omega
   obtain⟨s1,s2⟩:=IC hp hw hin rfl;obtain⟨t1,t2⟩:=Co hp f (i+many l i) (mX l w (i,many l i)) oM hin (by rw[Ec];exact hw);exact⟨by rw[t1,s1];omega,oM⟩
  ·rw[LQ oM,show i=l.length-1 by omega]
   exact⟨sM,sM⟩
theorem Bv(g:Int->Int)(hg:g 0=0)(n:Nat):∀k,fW (fun j=>g ((List.replicate n (0:Int)).getD j 0)) k=0
 |0=>rfl
 |k+1=>by
  have e:(List.replicate n (0:Int)).getD k 0=0:=by rw[List.getD_eq_getElem?_getD,List.getElem?_replicate];split <;> rfl
  show fW _ k+g ((List.replicate n (0:Int)).getD k 0)=0;rw[Bv g hg n k,e,hg];rfl
theorem Bw{l:List Int}(hp:uC 9 100000 l):rX (fI l) l.length=36*(l.getD (l.length-1) 0-l.getD 0 0)/\eE (fI l) l.length<=48*(l.getD (l.length-1) 0-l.getD 0 0):=by
 obtain⟨h1,h2⟩:=Co hp l.length 0 (List.replicate l.length 0) oM (by have:=hp.h2;omega) sM;have e1:rX (List.replicate l.length 0) l.length=0:=Bv (fun x=>x) J _ _;have e2:eE (List.replicate l.length 0) l.length=0:=Bv oH rfl _ _;rw[e1] at h1;rw[e2] at h2;exact⟨by unfold fI;omega,by unfold fI;omega⟩
theorem Mz(h:w.length<=k):eE w k=eE w w.length:=by
 obtain⟨d,rfl⟩:∃d,k=w.length+d:=⟨k-w.length,oM⟩;exact Cn (fun j hj=>by rw[mI hj];rfl) d
theorem MA{x j:Nat}:(cV x).getD j 0=if j=x then 1 else 0:=by
 unfold cV;by_cases h:j=x
 ·subst h;rw[if_pos rfl,tB sM]
 ·rw[if_neg h,getD_set_ne (Ne.symm h),List.getD_eq_getElem?_getD,List.getElem?_replicate];split <;> rfl
theorem Ex(g:Int->Int)(h0:g 0=0){x:Nat}:∀{k:Nat},fW (fun j=>g ((cV x).getD j 0)) k=if x<k then g 1 else 0
 |0=>by rw[if_neg oM];rfl
 |k+1=>by
  show fW _ k+g ((cV x).getD k 0)=_;rw[Ex g h0,MA];by_cases h1:k=x
  ·rw[if_pos h1,if_neg oM,if_pos oM];omega
  ·rw[if_neg h1,h0]
   by_cases h2:x<k
   ·rw[if_pos h2,if_pos oM];omega
   ·rw[if_neg h2,if_neg oM];rfl
theorem Ey{x k:Nat}(h:x<k):eE (cV x) k=1:=(Ex oH rfl).trans (if_pos h)
def wK(w x:List Int)(k:Nat):Int:=fW (fun j=>w.getD j 0*x.getD j 0) k
theorem MB{al up:List Int}{n N t:Nat}(h:t<N):(lI al up n N).getD (t+1) 0=VL al up n t:=by
 unfold lI;rw[List.getD_eq_getElem?_getD,List.getElem?_cons_succ,List.getElem?_map,List.getElem?_range h];rfl
theorem Bx{f:Nat->Int}:∀k,fW f (k+1)=f 0+fW (fun j=>f (j+1)) k
 |0=>by show 0+f 0=f 0+0;omega
 |k+1=>by
  show fW f (k+1)+f (k+1)=f 0+(fW (fun j=>f (j+1)) k+f (k+1));rw[Bx k];omega
theorem MC{al up:List Int}{n m:Nat}(hn:0<n):eE (lI al up n (n*m)) (n*m+1)=eE al m*eE up n:=by
 unfold eE;rw[Bx];have e0:oH ((lI al up n (n*m)).getD 0 0)=0:=rfl;rw[e0,Int.zero_add,<-Cl hn];refine rJ (fun t ht=>?_);rw[MB ht];exact HQ _ _
section
variable{X:FuncId->List Value->St->(Value->St->Bool)->Bool}
end
variable{n k:Nat}{w:List Int}
structure pI(s:St)(a:Option Addr)(M:List (List Int)):Prop where
 spot:∀b,a=some b->b.spot=none
 row:∀k,k<M.length->∃b o ai ci,a=some ⟨b,o,none⟩/\At s b (o+k*1) (.slice ai (M.getD k []).length ci)/\aN s ai (M.getD k [])
 len:M.length<140737488355328
theorem pI.ext{s s':St}{a:Option Addr}{M:List (List Int)}(h:pI s a M)(hw:Wf s)(x:uB s s'):pI s' a M:=
 ⟨h.spot,fun k hk=>by
  obtain⟨b,o,ai,ci,h1,h2,h3⟩:=h.row k hk;exact⟨b,o,ai,ci,h1,h2.ext hw x,h3.ext hw x⟩,h.len⟩
def gA(n:Nat)(M:List (List Int)):Bool:=M.all fun r=>decide (r.length=n) && jQ 0 20000 r
theorem By{M:List (List Int)}(hk:k<M.length):gA n (M.drop k)=(decide ((M.getD k []).length=n) && jQ 0 20000 (M.getD k []) && gA n (M.drop (k+1))):=by
 rw[List.drop_eq_getElem_cons hk,List.getD_eq_getElem?_getD,List.getElem?_eq_getElem hk];rfl
theorem mJ{M:List (List Int)}(hk:k<M.length)(hi:gA n M=gA n (M.drop k))(h:¬(M.getD k []).length=n):gA n M=false:=by
 rw[hi,By hk,decide_eq_false h];rfl
theorem mK{M:List (List Int)}(hk:k<M.length)(hi:gA n M=gA n (M.drop k))(h:jQ 0 20000 (M.getD k [])=false):gA n M=false:=by
 rw[hi,By hk,h];simp
theorem Ez{M:List (List Int)}(hk:k<M.length)(hi:gA n M=gA n (M.drop k))(h:(M.getD k []).length=n)(h2:jQ 0 20000 (M.getD k [])=true):gA n M=gA n (M.drop (k+1)):=by
 rw[hi,By hk,decide_eq_true h,h2];rfl
theorem pC{M:List (List Int)}(hi:gA n M=gA n (M.drop k))(hk:M.length<=k):gA n M=true:=by
 rw[hi,List.drop_eq_nil_of_le hk];rfl
theorem Aq{M:List (List Int)}(h:gA n M=true)(hk:k<M.length):(M.getD k []).length=n/\jQ 0 20000 (M.getD k [])=true:=by
 unfold gA at h;have h1:=List.all_eq_true.1 h (M.getD k []) (by rw[List.getD_eq_getElem?_getD,List.getElem?_eq_getElem hk];exact List.getElem_mem hk);rw[Bool.and_eq_true] at h1;exact⟨of_decide_eq_true h1.1,h1.2⟩
def Vw(M:List (List Int))(n t:Nat):Int:=(M.getD (t / n) []).getD (t % n) 0
def hpt(M:List (List Int))(n t:Nat):List Int:=0::(List.range t).map (Vw M n)
theorem lF{M:List (List Int)}{n t:Nat}:(hpt M n t).length=t+1:=by simp[hpt]
theorem Tu{M:List (List Int)}{n i y:Nat}(hy:y<n):Vw M n (n*i+y)=(M.getD i []).getD y 0:=by
 unfold Vw;rw[Nat.mul_add_div oM,Nat.mul_add_mod,Nat.div_eq_of_lt hy,Nat.mod_eq_of_lt hy,Nat.add_zero]
theorem Rj{M:List (List Int)}{n i y:Nat}(hy:y<n):ints (hpt M n (n*i+y))++[.int .i64 ((M.getD i []).getD y 0)]=ints (hpt M n (n*i+(y+1))):=by
 rw[<-Tu (M:=M) (n:=n) (i:=i) hy];show _=ints (hpt M n (n*i+y+1));unfold hpt ints;rw[List.range_succ];simp
theorem Rk{M:List (List Int)}{n N t:Nat}(h:t<N):(hpt M n N).getD (t+1) 0=Vw M n t:=by
 unfold hpt;rw[List.getD_eq_getElem?_getD,List.getElem?_cons_succ,List.getElem?_map,List.getElem?_range h];rfl
theorem MD{M:List (List Int)}{n m:Nat}(hn:0<n)(hm:M.length=m)(h:gA n M=true):jQ (-1280000) 1280000 (hpt M n (n*m))=true:=by
 unfold jQ;rw[List.all_eq_true];intro x hx;rcases List.mem_cons.1 hx with rfl|hx
 ·decide
 ·obtain⟨t,ht,rfl⟩:=List.mem_map.1 hx
  have ht:=List.mem_range.1 ht;have h1:t / n<m:=Nat.div_lt_of_lt_mul ht;have h2:t % n<n:=Nat.mod_lt _ hn;obtain⟨h3,h4⟩:=Aq h (k:=t / n) oM;have h5:=xS h4 (k:=t % n) oM;unfold Vw;simpa using (show -1280000<=(M.getD (t / n) []).getD (t % n) 0/\(M.getD (t / n) []).getD (t % n) 0<=1280000 from oM)
theorem Vx{w x M:Int}(hM:0<=M)(hx:-M<=x/\x<=M):-(M*oH w)<=w*x/\w*x<=M*oH w:=by
 have h1:oH (w*x)<=oH w*M:=by
  rw[HQ];exact Int.mul_le_mul_of_nonneg_left (by unfold oH;omega) (FG w)
 rw[Int.mul_comm (oH w) M] at h1;unfold oH at h1 ⊢;omega
theorem uZ{w x:List Int}(hx:jQ (-1280000) 1280000 x=true)(hl:x.length=w.length):∀{k:Nat},k<=w.length->-(1280000*eE w k)<=wK w x k/\wK w x k<=1280000*eE w k
 |0,_=>by show -(1280000*0)<=(0:Int)/\(0:Int)<=1280000*0;omega
 |k+1,hk=>by
  have h1:=uZ hx hl (k:=k) oM;have h2:=Vx (w:=w.getD k 0) (M:=1280000) dE (xS hx (k:=k) oM);show -(1280000*(eE w k+oH (w.getD k 0)))<=wK w x k+w.getD k 0*x.getD k 0/\wK w x k+w.getD k 0*x.getD k 0<=1280000*(eE w k+oH (w.getD k 0));omega
theorem vA{a b:Nat}(h:a<=b):eE w a<=eE w b:=Cm (fun j=>FG _) h
theorem FH{a:Nat}:0<=eE w a:=Rf (fun j=>FG _) a
def IM(w:List Int):Bool:=decide (eE w w.length<=3600000000000)
theorem ME(hk:k<w.length)(h:¬(-(3600000000000-eE w k)<=w.getD k 0/\w.getD k 0<=3600000000000-eE w k)):IM w=false:=by
 have h1:=vA (w:=w) (a:=k+1) (b:=w.length) oM;have h2:eE w (k+1)=eE w k+oH (w.getD k 0):=rfl;unfold IM;refine decide_eq_false (fun q=>h ?_);unfold oH at h2;omega
theorem MF(hk:k=w.length)(h:eE w k<=3600000000000):IM w=true:=by subst hk;exact decide_eq_true h
def RX(a b:Int):Int:=if a.tmod b<0 then a.tdiv b-1 else a.tdiv b
theorem HR{a b:Int}(ha:-5000000000000000000<=a/\a<=5000000000000000000)(hb:0<b):-5000000000000000000<=a.tdiv b/\a.tdiv b<=5000000000000000000:=by
 rcases Int.le_total 0 a with h|h
 ·rw[Int.tdiv_eq_ediv_of_nonneg h]
  have h1:=Int.ediv_nonneg h (show 0<=b from oM);have h2:=Int.ediv_le_self b h;omega
 ·have e:a.tdiv b = -((-a).tdiv b):=by rw[Int.neg_tdiv,Int.neg_neg]
  rw[e,Int.tdiv_eq_ediv_of_nonneg (show 0<=-a from oM)];have h1:=Int.ediv_nonneg (show 0<=-a from oM) (show 0<=b from oM);have h2:=Int.ediv_le_self b (show 0<=-a from oM);omega
section
variable{X:FuncId->List Value->St->(Value->St->Bool)->Bool}
theorem Rl(n:Nat)(x y:Int)(s:St)(hs:Wf s)(hx:-5000000000000000000<=x/\x<=5000000000000000000)(hy:0<y):bS Tryz.prog (bX bZ) X (n+60) 62 [.int .i64 x,.int .i64 y] s (fun v A=>v = .int .i64 (RX x y)/\A=[]):=by
 refine enter Qk rfl hs ?_;unfold OW;have hq:=HR hx hy;refine rS (kM J (Q0 (rS (kM J (kM J (kO (pU J J oM oM (kM J (Q0 (rQ (rS (kM J (kM J (kO (vZ J J oM (cX J J (fun h1=>?_) (fun h1=>?_)))))))))))))))))
 ·refine Q0 (Y0 J (rI (kM J (kO (bN J J oM (kM J (Q0 (W0 (rS (kM J (kM J (Q0 (V2 (aU J ⟨congrArg (Value.int .i64) ?_,rfl⟩))))))))))))))
  unfold RX
  first|exact(if_pos oM).symm|exact(if_neg oM).symm
 ·refine Q0 (U0 J (Q1 (W0 (rS (kM J (kM J (Q0 (V2 (aU J ⟨congrArg (Value.int .i64) ?_,rfl⟩)))))))))
  unfold RX
  first|exact(if_pos oM).symm|exact(if_neg oM).symm
theorem kP(n:Nat)(x lo hi:Int)(s:St)(hs:Wf s):bS Tryz.prog (bX bZ) X (n+20) 153 [.int .i64 x,.int .i64 lo,.int .i64 hi] s (fun v A=>v = .bool (decide (lo<=x/\x<=hi))/\A=[]):=by
 refine enter Lg rfl hs ?_;unfold GH;refine rS (kM J (Q0 (rS (kM J (kM J (kO (fA J J (fun h1=>?_) (fun h1=>?_))))))))
 ·refine kM J (kG (U2 J (kG (U2 J (kG (fA J J (fun h2=>?_) (fun h2=>?_)))))))
  ·refine cB J J J (kM J (Q0 (V2 (aU J ⟨congrArg Value.bool ?_,rfl⟩))))
   first|exact(decide_eq_true oM).symm|exact(decide_eq_false oM).symm
  ·refine cB J J J (kM J (Q0 (V2 (aU J ⟨congrArg Value.bool ?_,rfl⟩))))
   first|exact(decide_eq_true oM).symm|exact(decide_eq_false oM).symm
 ·refine kM J (V0 (V0 (V0 (bP J J J (kM J (Q0 (V2 (aU J ⟨congrArg Value.bool ?_,rfl⟩))))))))
  first|exact(decide_eq_true oM).symm|exact(decide_eq_false oM).symm
theorem MG(n:Nat)(x:Int)(s:St)(hs:Wf s):bS Tryz.prog (bX bZ) X (n+60) 116 [.int .i64 x] s (fun v A=>v = .bool (decide (¬(0<=x/\x<=20000)))/\A=[]):=by
 refine enter KY rfl hs ?_;unfold Gq;refine rS (kM J (Q0 (rS (kM J (kO (bE J J (fun s1 h1=>gW _ _ _ _ s1 h1.wf) (fun h1=>?_) (fun h1=>?_)))))))
 ·refine eC J (kM J (Q0 (V2 (aU J ⟨congrArg Value.bool ?_,rfl⟩))))
  first|exact(decide_eq_true oM).symm|exact(decide_eq_false oM).symm
 ·refine eC J (kM J (Q0 (V2 (aU J ⟨congrArg Value.bool ?_,rfl⟩))))
  first|exact(decide_eq_true oM).symm|exact(decide_eq_false oM).symm
theorem EA(n:Nat)(a:Option Addr)(cap:Nat)(l:List Int)(s:St)(hs:Wf s)(hn:281474976710656<=n)(hl:aN s a l):bS Tryz.prog (bX bZ) X (n+200) 159 [.slice a l.length cap,.func (.func 116) ⟨[]⟩ ⟨[]⟩] s (fun v A=>(jQ 0 20000 l=true/\v = .int .i64 (-1)/\A=[])∨(jQ 0 20000 l=false/\∃z:Nat,v = .int .i64 (z:Int)/\A=[])):=by
 refine enter Ll rfl hs ?_;unfold GM;have hlen:=hl.len;refine rS (kM J (Q0 (rQ (rS (kM J (aJ J hl.spot (kM J (Q0 (W1 (U4 (fun j e A=>∃(k:Nat),e=[(0,.slice a l.length cap),(1,.func (.func 116) ⟨[]⟩ ⟨[]⟩),(7,.int .i64 (l.length:Int)),(8,.int .i64 (k:Int))]/\A=[]/\j=l.length-k/\k<=l.length/\jQ 0 20000 l=jQ 0 20000 (l.drop k)) 120 0 281474976710656 ?_ (j:=_) (env2:=_) (A2:=_) ?_ ?_ ?_ ?_ ⟨0,rfl,rfl,rfl,Nat.zero_le _,rfl⟩))))))))))
 rotate_left
 ·omega
 ·omega
 ·exact lL
 ·exact .slnil
 rintro n hn j _ _ ⟨k,rfl,rfl,rfl,hk,hi⟩;refine rS (cX J J (fun h1=>?_) (fun h1=>?_))
 ·refine Q0 (rQ (Y0 J (Q1 (W0 (rQ (W1 (rS (kM J (kM J (Q0 (rS (kM J (kM J (kM J (kO (Q7 (j:=k) hl rfl rfl oM (by first|rfl|omega) oM (fun _ _ a2=>(kO (W6 J (hl.at a2 oM) (kO (bE J J (fun s1 h1=>MG _ _ s1 h1.wf) (fun h3=>?_) (fun h3=>?_))))))))))))))))))))))
  ·refine Q0 (Y0 J (rS (kM J (kM J (Q0 (V2 (Y6 (W3 (W3 (Y6 (W3 ?_)))))))))))
   first
    |exact aU J (.inl ⟨lA hi oM,rfl,rfl⟩)
    |exact aU J (.inr ⟨iH oM hi oM,k,rfl,rfl⟩)
  ·refine Q0 (U0 J (Q1 (Z1 (W0 (rI (aW J J oM (kM J (Q0 (W0 ?_)))))))))
   exact⟨rfl,_,_,_,(show l.length-(k+1)<l.length-k from oM),lL,.slnil,⟨k+1,rfl,rfl,rfl,oM,tN oM hi oM⟩⟩
 ·refine Q0 (rQ (U0 J (Y4 (Z2 (Z2 (Q3 (W0 (rS (kM J (Q0 (V2 ?_)))))))))))
  first
   |exact aU J (.inl ⟨lA hi oM,rfl,rfl⟩)
   |exact aU J (.inr ⟨iH oM hi oM,k,rfl,rfl⟩)
theorem Bz(n:Nat)(a:Option Addr)(cap:Nat)(l:List Int)(s:St)(hs:Wf s)(hn:281474976710656<=n)(hl:aN s a l):bS Tryz.prog (bX bZ) X (n+260) 117 [.slice a l.length cap,.func (.func 116) ⟨[]⟩ ⟨[]⟩] s (fun v A=>v = .bool (!jQ 0 20000 l)/\A=[]):=by
 refine enter KZ rfl hs ?_;unfold Gr;refine rS (kM J (Q0 (rS (kM J (kM J (kO (Z4 J J (fun s1 h1=>EA _ _ _ _ s1 h1.wf oM (hl.ext hs h1.2.1)) (fun v1 A1 q1=>?_))))))));rcases q1 with ⟨hin,rfl,rfl⟩|⟨hin,z,rfl,rfl⟩
 ·refine kO (zD J J (fun h=>absurd h dE) (fun _=>(kM J (Q0 (V2 (aU J ⟨congrArg Value.bool ?_,rfl⟩))))))
  first|(rw[hin];rfl)|(exfalso;omega)
 ·refine kO (zD J J (fun h2=>?_) (fun h2=>?_))
  ·refine kM J (Q0 (V2 (aU J ⟨congrArg Value.bool ?_,rfl⟩)))
   first|(rw[hin];rfl)|(exfalso;omega)
  ·refine kM J (Q0 (V2 (aU J ⟨congrArg Value.bool ?_,rfl⟩)))
   first|(rw[hin];rfl)|(exfalso;omega)
theorem BA(n:Nat)(d r al up:Int)(a1 a2:Option Addr)(c1 c2:Nat)(l1 l2:List Int)(a:Option Addr)(cap:Nat)(M:List (List Int))(s:St)(hs:Wf s)(hn:844424930131968<=n)(hl1:aN s a1 l1)(hl2:aN s a2 l2)(hT:pI s a M):bS Tryz.prog (bX bZ) X (n+600) 71 [.agg ⟨[.int .i64 d,.int .i64 r,.slice a1 l1.length c1,.slice a2 l2.length c2,.int .i64 al,.int .i64 up]⟩,.agg ⟨[.slice a M.length cap]⟩] s (fun v A=>v = .bool (decide (M.length=l1.length) && gA l2.length M)/\A=[]):=by
 refine enter Qr rfl hs ?_;unfold Pb;have hlen1:=hl1.len;have hlen2:=hl2.len;have hlenT:=hT.len;refine rS (aZ J J J (fun b1=>(aZ J J J (fun b2=>(kM J (Q0 (rQ (rS (aK J (aO J .here rfl (aJ J (by first|exact hT.spot|exact hli.spot) (aK J (aO J .h1 J (aJ J hl1.spot (kO (V3 J J (fun h3=>?_) (fun h3=>?_)))))))))))))))))
 ·refine Q0 (Y0 J (rS (kM J (Q0 (V2 (W3 (aU J ⟨congrArg Value.bool ?_,rfl⟩)))))))
  first
   |(rw[decide_eq_false oM];rfl)
   |(rw[mJ oM hi oM];simp;done)
   |(rw[mK oM hi (by simpa using (by assumption:(!jQ 0 20000 (M.getD k []))=true))];simp;done)
   |(rw[decide_eq_true oM,pC hi oM];rfl)
 ·refine Q0 (U0 J (Q1 (W0 (rQ (rS (aK J (aO J .here rfl (aJ J (by first|exact hT.spot|exact hli.spot) (kM J (Q0 (W1 (U4 (fun j e A=>∃(k:Nat),e=[(2,.pointer (some ⟨b1,0,none⟩)),(16,.slice a M.length cap),(17,.int .i64 (M.length:Int)),(18,.int .i64 (k:Int))]/\A=(.row b1 33 false ([.int .i64 d,.int .i64 r,.slice a1 l1.length c1,.slice a2 l2.length c2,.int .i64 al,.int .i64 up])::[])/\j=M.length-k/\k<=M.length/\gA l2.length M=gA l2.length (M.drop k)) 400 281474976710656 281474976710656 ?_ (j:=_) (env2:=_) (A2:=_) ?_ ?_ ?_ ?_ ⟨0,rfl,rfl,rfl,Nat.zero_le _,rfl⟩))))))))))))
  rotate_left
  ·omega
  ·omega
  ·exact lL
  ·exact(.cons _ (.q .slnil))
  rintro n hn j _ _ ⟨k,rfl,rfl,rfl,hk,hi⟩;refine rS (cX J J (fun h4=>?_) (fun h4=>?_))
  ·obtain⟨q8,o8,ai,ci,ahT,hat8,hli⟩:=hT.row k oM
   have hlli:=hli.len;refine Q0 (rQ (Y0 J (Q1 (W0 (rQ (W1 (rS (kO (cM (j:=k) ahT rfl rfl (by first|rfl|omega) (by first|decide|omega) (kO (W6 J aM (kM J (Q0 (rS (kM J (Q0 (rS (kM J (aJ J hli.spot (aK J (aO J .here rfl (aJ J hl2.spot (kO (V3 J J (fun h5=>?_) (fun h5=>?_)))))))))))))))))))))))))
   ·refine kM J (V0 (V0 (V0 (cB J J J (Q0 (Y0 J (rS (kM J (Q0 (V2 (Y6 (W3 (W3 (Y6 (W3 (aU J ⟨congrArg Value.bool ?_,rfl⟩))))))))))))))))
    first
     |(rw[decide_eq_false oM];rfl)
     |(rw[mJ oM hi oM];simp;done)
     |(rw[mK oM hi (by simpa using (by assumption:(!jQ 0 20000 (M.getD k []))=true))];simp;done)
     |(rw[decide_eq_true oM,pC hi oM];rfl)
   ·refine kM J (kG (U2 J (kG (U2 J (kG (gB J J (fun s1 h1=>Bz _ _ _ _ s1 h1.wf oM (hli.ext hs h1.2.1)) (fun h6=>?_) (fun h6=>?_)))))))
    ·refine bP J J J (Q0 (Y0 J (rS (kM J (Q0 (V2 (Y6 (W3 (W3 (Y6 (W3 (aU J ⟨congrArg Value.bool ?_,rfl⟩))))))))))))
     first
      |(rw[decide_eq_false oM];rfl)
      |(rw[mJ oM hi oM];simp;done)
      |(rw[mK oM hi (by simpa using (by assumption:(!jQ 0 20000 (M.getD k []))=true))];simp;done)
      |(rw[decide_eq_true oM,pC hi oM];rfl)
    ·refine bP J J J (Q0 (U0 J (Q1 (Z1 (W0 (rI (aW J J oM (kM J (Q0 (W0 ?_))))))))))
     exact⟨rfl,_,_,_,(show M.length-(k+1)<M.length-k from oM),lL,(.q .slnil),⟨k+1,rfl,rfl,rfl,oM,Ez oM hi oM (by simpa using (by assumption:(!jQ 0 20000 (M.getD k []))=false))⟩⟩
  ·refine Q0 (rQ (U0 J (Y4 (Z2 (Z2 (Q3 (W0 (rS (kM J (Q0 (V2 (aU J ⟨congrArg Value.bool ?_,rfl⟩))))))))))))
   first
    |(rw[decide_eq_false oM];rfl)
    |(rw[mJ oM hi oM];simp;done)
    |(rw[mK oM hi (by simpa using (by assumption:(!jQ 0 20000 (M.getD k []))=true))];simp;done)
    |(rw[decide_eq_true oM,pC hi oM];rfl)
theorem MI(n:Nat)(a:Option Addr)(cap:Nat)(l:List Int)(s:St)(hs:Wf s)(hn:281474976710656<=n)(hl:aN s a l)(h65:l.length<=65):bS Tryz.prog (bX bZ) X (n+200) 120 [.slice a l.length cap] s (fun v A=>v = .bool (IM l)/\A=[]):=by
 refine enter K2 rfl hs ?_;unfold Gt;have hlen:=hl.len;refine rS (kM J (Q0 (rS (kM J (Q0 (rQ (rS (kM J (aJ J hl.spot (kM J (Q0 (W1 (U4 (fun j e A=>∃(k:Nat),e=[(3,.int .i64 (3600000000000-eE l k)),(6,.slice a l.length cap),(7,.int .i64 (l.length:Int)),(8,.int .i64 (k:Int))]/\A=[]/\j=l.length-k/\k<=l.length/\0<=eE l k/\eE l k<=3600000000000) 120 0 281474976710656 ?_ (j:=_) (env2:=_) (A2:=_) ?_ ?_ ?_ ?_ ⟨0,rfl,rfl,rfl,Nat.zero_le _,(by show 0<=(0:Int)/\(0:Int)<=3600000000000;decide)⟩)))))))))))))
 rotate_left
 ·omega
 ·omega
 ·exact lL
 ·exact .slnil
 rintro n hn j _ _ ⟨k,rfl,rfl,rfl,hk,hb⟩;refine rS (cX J J (fun h1=>?_) (fun h1=>?_))
 ·refine Q0 (rQ (Y0 J (Q1 (W0 (rQ (W1 (rS (kO (Q7 (j:=k) hl rfl rfl oM (by first|rfl|omega) oM (fun _ _ a2=>(kO (W6 J (hl.at a2 oM) (kM J (Q0 (rQ (rS (kM J (kM J (kO (D6 J oM (kM J (kO (bE J J (fun s1 h1=>kP _ _ _ _ s1 h1.wf) (fun h3=>?_) (fun h3=>?_))))))))))))))))))))))))
  ·refine eC J (Q0 (U0 J (Q1 (W0 (rI (kM J (kM J (kM J (kO (D6 J oM (kO (A8 J (kO (bN J J oM (kM J (Q0 (Z1 (W0 (rI (aW J J oM (kM J (Q0 (W0 ?_)))))))))))))))))))))))
   exact⟨rfl,_,_,_,(show l.length-(k+1)<l.length-k from oM),(lc 3 J (lc 6 J (lc 7 J (lc 8 J eU.nil)))),.slnil,⟨k+1,(by rw[show(3600000000000-eE l (k+1):Int)=3600000000000-eE l k-max (l.getD k 0) (-(l.getD k 0)) from by (show 3600000000000-(eE l k+oH (l.getD k 0))=_;unfold oH;omega)];rfl),rfl,rfl,oM,(by show 0<=eE l k+oH (l.getD k 0)/\eE l k+oH (l.getD k 0)<=3600000000000;unfold oH;omega)⟩⟩
  ·refine eC J (Q0 (Y0 J (rS (kM J (Q0 (V2 (W3 (Y6 (W3 (W3 (Y6 (W3 (aU J ⟨congrArg Value.bool ?_,rfl⟩)))))))))))))
   first|exact(ME (k:=k) oM oM).symm|exact(MF (k:=k) oM oM).symm
 ·refine Q0 (rQ (U0 J (Y4 (Z2 (Z2 (Q3 (W0 (rS (kM J (Q0 (V2 (aU J ⟨congrArg Value.bool ?_,rfl⟩))))))))))))
  first|exact(ME (k:=k) oM oM).symm|exact(MF (k:=k) oM oM).symm
theorem zI(n:Nat)(a:Option Addr)(cap:Nat)(l:List Int)(m:Int)(s:St)(hs:Wf s)(hn:281474976710656<=n)(hl:aN s a l)(hm:0<=m/\m<=1000000000):bS Tryz.prog (bX bZ) X (n+200) 121 [.slice a l.length cap,.int .i64 m] s (fun v A=>v = .bool (jQ (-m) m l)/\A=[]):=by
 refine enter K3 rfl hs ?_;unfold Gu;have hlen:=hl.len;refine rS (kM J (Q0 (rQ (rS (kM J (aJ J hl.spot (kM J (Q0 (W1 (U4 (fun j e A=>∃(k:Nat),e=[(1,.int .i64 m),(7,.slice a l.length cap),(8,.int .i64 (l.length:Int)),(9,.int .i64 (k:Int))]/\A=[]/\j=l.length-k/\k<=l.length/\jQ (-m) m l=jQ (-m) m (l.drop k)) 120 0 281474976710656 ?_ (j:=_) (env2:=_) (A2:=_) ?_ ?_ ?_ ?_ ⟨0,rfl,rfl,rfl,Nat.zero_le _,rfl⟩))))))))))
 rotate_left
 ·omega
 ·omega
 ·exact lL
 ·exact .slnil
 rintro n hn j _ _ ⟨k,rfl,rfl,rfl,hk,hi⟩;refine rS (cX J J (fun h1=>?_) (fun h1=>?_))
 ·refine Q0 (rQ (Y0 J (Q1 (W0 (rQ (W1 (rS (kO (Q7 (j:=k) hl rfl rfl oM (by first|rfl|omega) oM (fun _ _ a2=>(kO (W6 J (hl.at a2 oM) (kM J (Q0 (rS (kM J (kM J (kO (D6 J oM (kM J (kO (bE J J (fun s1 h1=>kP _ _ _ _ s1 h1.wf) (fun h3=>?_) (fun h3=>?_)))))))))))))))))))))))
  ·refine eC J (Q0 (U0 J (Q1 (Z1 (W0 (rI (aW J J oM (kM J (Q0 (W0 ?_))))))))))
   exact⟨rfl,_,_,_,(show l.length-(k+1)<l.length-k from oM),lL,.slnil,⟨k+1,rfl,rfl,rfl,oM,tN oM hi oM⟩⟩
  ·refine eC J (Q0 (Y0 J (rS (kM J (Q0 (V2 (Y6 (W3 (W3 (Y6 (W3 (aU J ⟨congrArg Value.bool ?_,rfl⟩))))))))))))
   first|exact(iH oM hi oM).symm|exact(lA hi oM).symm
 ·refine Q0 (rQ (U0 J (Y4 (Z2 (Z2 (Q3 (W0 (rS (kM J (Q0 (V2 (aU J ⟨congrArg Value.bool ?_,rfl⟩))))))))))))
  first|exact(iH oM hi oM).symm|exact(lA hi oM).symm
theorem MJ(n:Nat)(a1 a2:Option Addr)(c1 c2:Nat)(w x:List Int)(s:St)(hs:Wf s)(hn:562949953421312<=n)(hl1:aN s a1 w)(hl2:aN s a2 x):bS Tryz.prog (bX bZ) X (n+400) 73 [.slice a1 w.length c1,.slice a2 x.length c2] s (fun v A=>(((w.length:Int)<=65/\IM w=true)/\(x.length=w.length/\jQ (-1280000) 1280000 x=true)/\v = .tuple #[.int .i64 (wK w x w.length),.int .i64 0]/\A=[])∨(¬((w.length:Int)<=65/\IM w=true)/\v = .tuple #[.int .i64 0,.int .i64 27]/\A=[])∨(((w.length:Int)<=65/\IM w=true)/\¬(x.length=w.length/\jQ (-1280000) 1280000 x=true)/\v = .tuple #[.int .i64 0,.int .i64 25]/\A=[])):=by
 refine enter Qt rfl hs ?_;unfold Pf;have hlen1:=hl1.len;have hlen2:=hl2.len;refine rS (kM J (kM J (Q0 (rQ (rS (kM J (aJ J hl1.spot (kO (dL J J (fun h1=>?_) (fun h1=>?_))))))))))
 ·refine kM J (V0 (V0 (V0 (cB J J J (Q0 (Y0 J (rS (kM J (kM J (Q0 (V2 (W3 ?_))))))))))))
  exact pF J J (.inr (.inl ⟨fun q=>by obtain⟨q1,q2⟩:=q;first|omega|(simp_all;done),rfl,rfl⟩))
 ·refine kM J (kG (U2 J (kG (gB J J (fun s1 h1=>MI _ _ _ _ s1 h1.wf oM (hl1.ext hs h1.2.1) oM) (fun h2=>?_) (fun h2=>?_)))))
  ·have hwg:=h2
   refine kG (U6 J (bP J J J (Q0 (U0 J (Q1 (W0 (rQ (rS (kM J (aJ J hl2.spot (kM J (aJ J hl1.spot (kO (V3 J J (fun h3=>?_) (fun h3=>?_)))))))))))))))
   ·refine kM J (V0 (V0 (V0 (cB J J J (Q0 (Y0 J (rS (kM J (kM J (Q0 (V2 (W3 ?_))))))))))))
    exact pF J J (.inr (.inr ⟨⟨oM,by simp_all⟩,fun q=>by obtain⟨q1,q2⟩:=q;first|omega|(simp_all;done),rfl,rfl⟩))
   ·refine kM J (kG (U2 J (kG (gB J J (fun s1 h1=>zI _ _ _ _ _ s1 h1.wf oM (hl2.ext hs h1.2.1) dE) (fun h4=>?_) (fun h4=>?_)))))
    ·have hxi:=h4
     have hwt:=of_decide_eq_true hwg;refine kG (U6 J (bP J J J (Q0 (U0 J (Q1 (W0 (rS (kM J (Q0 (rQ (rS (kM J (aJ J hl1.spot (kM J (Q0 (W1 (U4 (fun j e A=>∃(k:Nat),e=[(1,.slice a2 x.length c2),(6,.int .i64 (wK w x k)),(27,.slice a1 w.length c1),(28,.int .i64 (w.length:Int)),(29,.int .i64 (k:Int))]/\A=[]/\j=w.length-k/\k<=w.length) 200 0 281474976710656 ?_ (j:=_) (env2:=_) (A2:=_) ?_ ?_ ?_ ?_ ⟨0,rfl,rfl,rfl,Nat.zero_le _⟩)))))))))))))))))
     rotate_left
     ·omega
     ·omega
     ·exact lL
     ·exact .slnil
     rintro n hn j _ _ ⟨k,rfl,rfl,rfl,hk⟩;have hd0:=uZ hxi (show x.length=w.length from oM) (k:=k) hk;have ht0:=vA (w:=w) hk;refine rS (cX J J (fun h5=>?_) (fun h5=>?_))
     ·refine Q0 (rQ (Y0 J (Q1 (W0 (rQ (W1 (rS (kM J (kO (Q7 (j:=k) hl1 rfl rfl oM (by first|rfl|omega) oM (fun _ _ a6=>(kO (W6 J (hl1.at a6 oM) (kM J (kM J (Q0 (rI (kM J (kM J (kM J (kM J (kO (Q7 (j:=k) hl2 rfl rfl oM (by first|rfl|omega) oM (fun _ _ a7=>(kO (W6 J (hl2.at a7 oM) ?_))))))))))))))))))))))))))
      have hd1:=uZ hxi (show x.length=w.length from oM) (k:=k+1) oM;have ht1:=vA (w:=w) (a:=k+1) (b:=w.length) oM;have hd2:wK w x (k+1)=wK w x k+w.getD k 0*x.getD k 0:=rfl;refine aY J J oM (aW J J oM (kM J (Q0 (Z1 (W0 (rI (aW J J oM (kM J (Q0 (W0 ?_))))))))));exact⟨rfl,_,_,_,(show w.length-(k+1)<w.length-k from oM),lL,.slnil,⟨k+1,rfl,rfl,rfl,oM⟩⟩
     ·refine Q0 (rQ (U0 J (Y4 (Z2 (Z2 (Q3 (W0 (rS (kM J (kM J (kM J (Q0 (V2 ?_)))))))))))))
      have hkw:k=w.length:=oM
      subst hkw;exact pF J J (.inl ⟨⟨oM,hwg⟩,⟨oM,hxi⟩,rfl,rfl⟩)
    ·refine kG (U6 J (bP J J J (Q0 (Y0 J (rS (kM J (kM J (Q0 (V2 (W3 ?_))))))))))
     exact pF J J (.inr (.inr ⟨⟨oM,by simp_all⟩,fun q=>by obtain⟨q1,q2⟩:=q;first|omega|(simp_all;done),rfl,rfl⟩))
  ·refine kG (U6 J (bP J J J (Q0 (Y0 J (rS (kM J (kM J (Q0 (V2 (W3 ?_))))))))))
   exact pF J J (.inr (.inl ⟨fun q=>by obtain⟨q1,q2⟩:=q;first|omega|(simp_all;done),rfl,rfl⟩))
end
variable{l1 l2:List Int}
theorem lV{wk ws ww:Int}:(eR wk ws ww l1 l2).length=l2.length*l1.length+1:=fC
theorem HS{wk:Int}{ws ww:Nat}(hp1:uC 9 100000 l1)(hp2:uC 9 100000 l2)(h15:l2.getD (l2.length-1) 0<=15000)(h1:wk=1->0<ww)(hs:ws<l1.length)(hw:ww<l2.length)(hk:1<=wk/\wk<=4):eE (eR wk ws ww l1 l2) (l2.length*l1.length+1)<=3600000000000:=by
 have hn:=hp2.h2;unfold eR;rw[MC oM];obtain⟨_,t1⟩:=Bw hp1;obtain⟨_,t2⟩:=Bw hp2;have a0:=hp1.lo 0;have a1:=hp1.lo (l1.length-1);have b0:=hp2.lo 0;have e1:eE (QX wk (ws:Int).toNat l1) l1.length<=4800000:=by
  unfold QX;split
  ·omega
  ·rw[Int.toNat_natCast,Ey hs];decide
 have e2:eE (QY wk (ww:Int).toNat l2) l2.length<=720000:=by
  unfold QY;rw[Int.toNat_natCast];split
  ·rename_i hk1
   have hq:=mF hp2 (k:=ww+1) (by have:=h1 hk1;omega) oM;have hl:(l2.take (ww+1)).length=ww+1:=by rw[List.length_take];omega
   obtain⟨_,t3⟩:=Bw hq;have hw3:=eJ (l:=l2.take (ww+1));rw[Mz oM,hw3];have z0:=hq.lo 0;have z1:(l2.take (ww+1)).getD ((l2.take (ww+1)).length-1) 0<=15000:=by
    rw[hl,List.getD_eq_getElem?_getD,List.getElem?_take,if_pos oM,<-List.getD_eq_getElem?_getD];exact Int.le_trans (Be hp2 (l2.length-1-ww) ww oM) h15
   omega
  ·split
   ·omega
   ·rw[Ey hw];decide
 have f1:0<=eE (QX wk (ws:Int).toNat l1) l1.length:=FH;have f2:0<=eE (QY wk (ww:Int).toNat l2) l2.length:=FH;exact Int.le_trans (Int.mul_le_mul e1 e2 f2 dE) dE
def Rm(wk ws ww:Int)(l1 l2:List Int)(M:List (List Int)):Int:=RX (wK (eR wk ws ww l1 l2) (hpt M l2.length (l2.length*l1.length)) (l2.length*l1.length+1)) (Bq wk)
theorem EB{wk:Int}:0<Bq wk/\Bq wk<=648000000:=by unfold Bq;split <;> (try split) <;> decide
theorem Wy(h:bW l1 l2=true):(l2.length:Int)<=7:=by
 unfold bW at h;rw[Bool.and_eq_true] at h;have h2:=h.2;unfold gG at h2;rw[Bool.and_eq_true,Bool.and_eq_true] at h2;exact(of_decide_eq_true h2.1.1).2
theorem h15(h:bW l1 l2=true):l2.getD (l2.length-1) 0<=15000:=((Ad h).lo _).2
theorem EC{M:List (List Int)}{wk ws ww:Int}:(hpt M l2.length (l2.length*l1.length)).length=(eR wk ws ww l1 l2).length:=by rw[lF,lV]
theorem MK{wk:Int}{ws ww:Nat}(h:eE (eR wk ws ww l1 l2) (l2.length*l1.length+1)<=3600000000000):∀x∈eR wk ws ww l1 l2,-9223372036854775808<=x/\x<9223372036854775808:=by
 intro x hx;obtain⟨k,hk,rfl⟩:=List.getElem_of_mem hx;have hl:=lV (wk:=wk) (ws:=ws) (ww:=ww) (l1:=l1) (l2:=l2);have h1:eE (eR wk ws ww l1 l2) (k+1)<=eE (eR wk ws ww l1 l2) (l2.length*l1.length+1):=vA oM;have h2:eE (eR wk ws ww l1 l2) (k+1)=eE (eR wk ws ww l1 l2) k+oH ((eR wk ws ww l1 l2).getD k 0):=rfl;have h3:(eR wk ws ww l1 l2).getD k 0=(eR wk ws ww l1 l2)[k]:=by rw[List.getD_eq_getElem?_getD,List.getElem?_eq_getElem hk];rfl
 have h4:=FH (w:=eR wk ws ww l1 l2) (a:=k);rw[h3] at h2;unfold oH at h2;omega
theorem Tv{l:List Int}(h:jQ (-1280000) 1280000 l=true):∀x∈l,-9223372036854775808<=x/\x<9223372036854775808:=by
 intro x hx;unfold jQ at h;have:=List.all_eq_true.1 h x hx;simp at this;omega
section
variable{X:FuncId->List Value->St->(Value->St->Bool)->Bool}
theorem yF(n:Nat)(d r al up:Int)(a1 a2:Option Addr)(c1 c2:Nat)(l1 l2:List Int)(a:Option Addr)(cap:Nat)(M:List (List Int))(s:St)(hs:Wf s)(hn:1688849860263936<=n)(hl1:aN s a1 l1)(hl2:aN s a2 l2)(hT:pI s a M)(hp1:uC 9 100000 l1)(hp2:uC 9 100000 l2)(hTl:M.length=l1.length)(hall:gA l2.length M=true):bS Tryz.prog (bX bZ) X (n+2500) 74 [.agg ⟨[.int .i64 d,.int .i64 r,.slice a1 l1.length c1,.slice a2 l2.length c2,.int .i64 al,.int .i64 up]⟩,.agg ⟨[.slice a M.length cap]⟩] s (fun v A=>∃b,v = .slice (some ⟨b,0,none⟩) (l2.length*l1.length+1) OPEN/\A=[.row b 3 true (ints (hpt M l2.length (l2.length*l1.length)))]):=by
 refine LH Qu rfl hs ?_;unfold Ph;have hlen1:=hl1.len;have hlen2:=hl2.len;have hlenT:=hT.len;have hm1:=hp1.hm;have hm2:=hp2.hm;have h21:=hp1.h2;have h22:=hp2.h2;refine rS (aZ J J J (fun b1=>(aZ J J J (fun b2=>(kM J (Q0 (rS (bB J J J (fun b3=>(bA J J (fun b4=>(kZ (cW J J .here rfl rfl (Q0 (rQ (rS (cI J dE .h3 J (kG (cA J J iE rfl ?_)))))))))))))))))));unfold oU;refine rS (aZ J J J (fun b5=>(kM J (Q0 (rS (kO (nD J J (kM J (Q0 (V2 (kJ J .nil (Q0 (W1 (iG J iF rfl (fun q6 l7 LO8 BO9 hLO8 hBO9=>?_)))))))))))))));unfold oV;refine jP .h4 (rS (kM J (Q0 (rS (aK J (aO J .h3 J (aJ J hl1.spot (kM J (Q0 (W1 (U4 (fun j e A=>∃(i b cp:Nat) (op:Bool),e=[(0,.func (.yield l7) ⟨[]⟩ ⟨[]⟩),(1,.pointer (some ⟨b5,0,none⟩)),(3,.int .i64 ((l2.length*i:Nat):Int)),(8,.int .i64 (l1.length:Int)),(9,.int .i64 (i:Int))]/\A=(.row b 3 op (ints (hpt M l2.length (l2.length*i)))::(LO8::(.dfr q6::(.row b5 33 false ([.int .i64 d,.int .i64 r,.slice a1 l1.length c1,.slice a2 l2.length c2,.int .i64 al,.int .i64 up])::(.row b4 22 false ([.slice (some ⟨b,0,none⟩) (l2.length*i+1) cp])::(.row b2 69 false ([.slice a M.length cap])::[]))))))/\j=l1.length-i/\i<=l1.length/\FT op cp (l2.length*i)) 700 281474976710656 281474976710656 ?_ (j:=_) (env2:=_) (A2:=_) ?_ ?_ ?_ ?_ ⟨0,b3,1,false,rfl,rfl,rfl,oM,(.inr ⟨rfl,rfl,rfl⟩)⟩)))))))))))
 rotate_left
 ·omega
 ·omega
 ·exact lL
 ·exact(.q (.q (.q (.q (.q (.q (.cons _ .slnil)))))))
 rintro n hn j _ _ ⟨i,b,cp,op,rfl,rfl,rfl,hi,hT1⟩;have hq9:=rD (x:=(l2.length:Int)) (y:=(i:Int)) oM oM;have hq8:((l2.length*i:Nat):Int)=(l2.length:Int)*(i:Int):=sM
 refine rS (cX J J (fun h10=>?_) (fun h10=>?_))
 ·refine Q0 (rQ (Y0 J (Q1 (W0 (rQ (W1 (rS (kM J (kM J (Q0 (rS (aK J (aO J .h3 J (aJ J hl2.spot (kM J (Q0 (W1 (U4 (fun j e A=>∃(k b cp:Nat) (op:Bool),e=[(0,.func (.yield l7) ⟨[]⟩ ⟨[]⟩),(1,.pointer (some ⟨b5,0,none⟩)),(3,.int .i64 ((l2.length*i+k:Nat):Int)),(4,.int .i64 (i:Int)),(8,.int .i64 (l1.length:Int)),(9,.int .i64 (i:Int)),(14,.int .i64 (l2.length:Int)),(15,.int .i64 (k:Int))]/\A=(.row b 3 op (ints (hpt M l2.length (l2.length*i+k)))::(LO8::(.dfr q6::(.row b5 33 false ([.int .i64 d,.int .i64 r,.slice a1 l1.length c1,.slice a2 l2.length c2,.int .i64 al,.int .i64 up])::(.row b4 22 false ([.slice (some ⟨b,0,none⟩) (l2.length*i+k+1) cp])::(.row b2 69 false ([.slice a M.length cap])::[]))))))/\j=l2.length-k/\k<=l2.length/\FT op cp (l2.length*i+k)) 500 0 281474976710656 ?_ (j:=_) (env2:=_) (A2:=_) ?_ ?_ ?_ ?_ ⟨0,b,cp,op,rfl,rfl,rfl,oM,hT1⟩))))))))))))))))))
  rotate_left
  ·omega
  ·omega
  ·exact lL
  ·exact(.q (.q (.q (.q (.q (.q .slnil))))))
  rintro n hn j _ _ ⟨k,b,cp,op,rfl,rfl,rfl,hk,hT2⟩;obtain⟨q8,o8,ai,ci,ahT,hat8,hli⟩:=hT.row i oM;have hlli:=hli.len;obtain⟨hrl,hri⟩:=Aq hall (k:=i) oM;refine rS (cX J J (fun h11=>?_) (fun h11=>?_))
  ·refine Q0 (rQ (Y0 J (Q1 (W0 (rQ (W1 (rS (kM J (kM J (Q0 (rS (kM J (aW J J oM (kM J (Q0 (rS (kM J (kM J (kM J (kM J (eI J J (kG (fB J J hLO8 hBO9 sM J J (rI ?_))))))))))))))))))))))))
   refine bA J J (fun b12=>(kZ (Q6 J J .here rfl rfl rfl rfl (Q0 (⟨_,.h2,(W1 (rI (aO J .h5 J (aK J (aO J .h6 J (aK J (aO J .here rfl (kO (cM (j:=i) ahT rfl rfl (by first|rfl|omega) (by first|decide|omega) (kO (W6 J aM (aK J (aO J .here rfl (kO (Q7 (j:=k) hli rfl rfl oM (by first|rfl|omega) oM (fun _ _ a13=>(kO (W6 J (hli.at a13 oM) (bB J J J (fun b14=>(kO (cK J J (fH.own .here rfl sM) .h2 (by rw[bO,lF,Nat.mul_one]) (fD hT2) dE oM oM (fun b15=>(kZ (cW J J .h6 J J (Q0 (Z1 (⟨_,.h3,(eC J ?_)⟩))))))))))))))))))))))))))))⟩)))));refine Q0 (U0 J (Q1 (Z1 (W0 (rI (aW J J oM (kM J (Q0 (W0 ?_)))))))));exact⟨rfl,_,_,_,(show l2.length-(k+1)<l2.length-k from oM),lL,(.q (.cons _ (.cons _ (.q (.q (.q (.q (.q .slnil)))))))),⟨k+1,b15,_,_,rfl,(by simp only[List.set_cons_zero];rw[Rj (n:=l2.length) (i:=i) (y:=k) oM];first|done|rfl),rfl,oM,(.inl ⟨rfl,rfl⟩)⟩⟩
  ·refine Q0 (rQ (U0 J (Y4 (Z2 (Z2 (Q3 (Z1 (W0 (rI (aW J J oM (kM J (Q0 (W0 ?_)))))))))))))
   have hyl:k=l2.length:=oM;subst hyl;exact⟨rfl,_,_,_,(show l1.length-(i+1)<l1.length-i from oM),lL,(.q (.q (.q (.q (.q (.q .slnil)))))),⟨i+1,b,_,_,rfl,rfl,rfl,oM,hT2⟩⟩
 ·refine Q0 (rQ (U0 J (Y4 (Z2 (Z2 (Q3 (bI .nil (.inl ⟨_,.h1,(Z1 (W0 (rS (aO J .h3 J (kM J (Q0 (V2 ?_)))))))⟩))))))))
  have hil:i=l1.length:=oM
  subst hil;obtain⟨rfl,rfl⟩:=Bp hT1 (Nat.mul_pos oM oM);exact S4 J (.cons .h1 .nil) (.q (.cons _ (.cons _ (.cons _ .slnil)))) ⟨b,rfl,rfl⟩
theorem ML(n:Nat)(a1 a2:Option Addr)(c1 c2:Nat)(w x:List Int)(nw nx:Nat)(s:St)(hs:Wf s)(hn:562949953421312<=n)(hnw:nw=w.length)(hnx:nx=x.length)(hl1:aN s a1 w)(hl2:aN s a2 x):bS Tryz.prog (bX bZ) X (n+400) 73 [.slice a1 nw c1,.slice a2 nx c2] s (fun v A=>(((w.length:Int)<=65/\IM w=true)/\(x.length=w.length/\jQ (-1280000) 1280000 x=true)/\v = .tuple #[.int .i64 (wK w x w.length),.int .i64 0]/\A=[])∨(¬((w.length:Int)<=65/\IM w=true)/\v = .tuple #[.int .i64 0,.int .i64 27]/\A=[])∨(((w.length:Int)<=65/\IM w=true)/\¬(x.length=w.length/\jQ (-1280000) 1280000 x=true)/\v = .tuple #[.int .i64 0,.int .i64 25]/\A=[])):=by
 subst hnw;subst hnx;exact MJ n _ _ _ _ w x s hs hn hl1 hl2
theorem MM(n:Nat)(d r al up:Int)(a1 a2:Option Addr)(c1 c2:Nat)(l1 l2:List Int)(wk ws ww:Int)(a:Option Addr)(cap:Nat)(M:List (List Int))(s:St)(hs:Wf s)(hn:2814749767106560<=n)(hl1:aN s a1 l1)(hl2:aN s a2 l2)(hT:pI s a M)(hcp:jM s a2 l2.length c2):bS Tryz.prog (bX bZ) X (n+3200) 29 [.agg ⟨[.int .i64 d,.int .i64 r,.slice a1 l1.length c1,.slice a2 l2.length c2,.int .i64 al,.int .i64 up]⟩,.agg ⟨[.slice a M.length cap]⟩,.agg ⟨[.int .i64 wk,.int .i64 ws,.int .i64 ww]⟩] s (fun v A=>(¬((1<=d/\d<=99999)/\(1<=r/\r<=99999)/\(0<=al/\al<=100000)/\(0<=up/\up<=100000)/\bW l1 l2=true)/\v = .tuple #[.int .i64 0,.int .i64 30]/\A=[])∨(((1<=d/\d<=99999)/\(1<=r/\r<=99999)/\(0<=al/\al<=100000)/\(0<=up/\up<=100000)/\bW l1 l2=true)/\¬(M.length=l1.length/\gA l2.length M=true)/\v = .tuple #[.int .i64 0,.int .i64 34]/\A=[])∨((((1<=d/\d<=99999)/\(1<=r/\r<=99999)/\(0<=al/\al<=100000)/\(0<=up/\up<=100000)/\bW l1 l2=true)/\M.length=l1.length/\gA l2.length M=true)/\¬((wk=1/\ws=0/\(0<=ww/\ww<=(l2.length:Int)-1)/\0<ww)∨(wk=2/\ws=0/\(0<=ww/\ww<=(l2.length:Int)-1))∨(wk=3/\(0<=ws/\ws<=(l1.length:Int)-1)/\ww=0)∨(wk=4/\(0<=ws/\ws<=(l1.length:Int)-1)/\(0<=ww/\ww<=(l2.length:Int)-1)))/\v = .tuple #[.int .i64 0,.int .i64 33]/\A=[])∨((((1<=d/\d<=99999)/\(1<=r/\r<=99999)/\(0<=al/\al<=100000)/\(0<=up/\up<=100000)/\bW l1 l2=true)/\M.length=l1.length/\gA l2.length M=true)/\((wk=1/\ws=0/\(0<=ww/\ww<=(l2.length:Int)-1)/\0<ww)∨(wk=2/\ws=0/\(0<=ww/\ww<=(l2.length:Int)-1))∨(wk=3/\(0<=ws/\ws<=(l1.length:Int)-1)/\ww=0)∨(wk=4/\(0<=ws/\ws<=(l1.length:Int)-1)/\(0<=ww/\ww<=(l2.length:Int)-1)))/\v = .tuple #[.int .i64 (Rm wk ws ww l1 l2 M),.int .i64 0]/\A=[])):=by
 refine enter P0 rfl hs ?_;unfold Oi;have hlen1:=hl1.len;have hlen2:=hl2.len;have hlenT:=hT.len;refine rS (aZ J J J (fun b1=>(aZ J J J (fun b2=>(aZ J J J (fun b3=>(kM J (kM J (Q0 (rQ (rS (cI J dE .h2 J (kO (fQ J J (fun s1 h1=>wD _ _ _ _ _ _ _ _ _ _ _ s1 h1.wf oM (hl1.ext hs h1.2.1) (hl2.ext hs h1.2.1)) (fun h4=>?_) (fun h4=>?_)))))))))))))))
 ·have hsp:=h4
  have hpl:=h4.2.2.2.2;have hp1:=fG hpl;have hp2:=fR hpl;have hm1:=hp1.hm;have hm2:=hp2.hm;have h22:=hp2.h2;have h21:=hp1.h2;have hm7:=Wy hpl;have hmn:l2.length*l1.length<=63:=Nat.mul_le_mul (show l2.length<=7 from oM) (show l1.length<=9 from oM);refine kM J (Q0 (rS (kM J (kO (V3 J J (fun h=>absurd h dE) (fun _=>(Q0 (U0 J (Q1 (W0 (rQ (rS (cI J dE .h2 J (cI J dE .h1 J (kO (gB J J (fun s1 h1=>BA _ _ _ _ _ _ _ _ _ _ _ _ _ _ s1 h1.wf oM (hl1.ext hs h1.2.1) (hl2.ext hs h1.2.1) (hT.ext hs h1.2.1)) (fun h6=>?_) (fun h6=>?_)))))))))))))))))
  ·have hih:=h6
   rw[Bool.and_eq_true] at hih;have hTl:M.length=l1.length:=of_decide_eq_true hih.1;have hall:=hih.2;have hin:=MD (n:=l2.length) (m:=l1.length) oM hTl hall;refine eC J (Q0 (U0 J (Q1 (W0 (rS (cI J dE .h2 J (cI J dE .here rfl (kO (Z4 J J (fun s1 h1=>C7 _ _ _ _ _ _ _ _ _ _ _ _ _ _ s1 h1.wf oM (hl1.ext hs h1.2.1) (hl2.ext hs h1.2.1) hp1 hp2 (hcp.ext hs h1.2.1)) (fun v1 A1 q1=>?_))))))))));rcases q1 with ⟨hw,b9,rfl,rfl⟩|⟨hw,rfl,rfl⟩
   ·obtain⟨ws,rfl⟩:∃q:Nat,ws=(q:Int):=⟨ws.toNat,oM⟩
    obtain⟨ww,rfl⟩:∃q:Nat,ww=(q:Int):=⟨ww.toNat,oM⟩;have hrb:=HS (wk:=wk) hp1 hp2 (h15 hpl) (fun h=>oM) (show ws<l1.length from oM) (show ww<l2.length from oM) oM;refine kM J (eP J J (eP J J (eP J J (kM J (kM J (kM J (Q0 (rQ (rS (kM J (kO (V3 J J (fun h=>absurd h dE) (fun _=>(Q0 (U0 J (Q1 (W0 (rS (kM J (cI J dE .h3 J (cI J dE .h2 J (kO (Z4 J J (fun s1 h1=>yF _ _ _ _ _ _ _ _ _ _ _ _ _ _ s1 h1.wf oM (hl1.ext hs h1.2.1) (hl2.ext hs h1.2.1) (hT.ext hs h1.2.1) aM aM oM hall) (fun v1 A1 q1=>?_))))))))))))))))))))))));obtain⟨bp8,rfl,rfl⟩:=q1;have hwgr:IM (eR wk ws ww l1 l2)=true:=(by unfold IM;rw[lV];exact decide_eq_true hrb);have hdb:=uZ (w:=eR wk ws ww l1 l2) hin EC (k:=(eR wk ws ww l1 l2).length) (Nat.le_refl _);have hrb2:eE (eR wk ws ww l1 l2) (eR wk ws ww l1 l2).length<=3600000000000:=(by rw[lV];exact hrb);have hrd:=EB (wk:=wk);refine kO (Z4 J J (fun s1 h1=>ML _ _ _ _ _ _ (hpt M l2.length (l2.length*l1.length)) _ _ s1 h1.wf oM lV.symm lF.symm (aN.own (h1.own .h1) (MK hrb) (by rw[lV];omega)) (aN.own (h1.own .here) (Tv hin) (by rw[lF];omega))) (fun v1 A1 q1=>?_));rcases q1 with ⟨hwo,hxo,rfl,rfl⟩|⟨hwo,rfl,rfl⟩|⟨hwo,hxo,rfl,rfl⟩
    ·refine kM J (eP J J (eP J J (kM J (kM J (Q0 (rS (kM J (kM J (aI J J (fun s1 h1=>Rl _ _ _ s1 h1.wf oM oM) (kM J (kM J (kM J (Q0 (V2 (pF J J (.inr (.inr (.inr ⟨⟨hsp,hTl,hall⟩,hw,?_,rfl⟩))))))))))))))))))
     show _=Value.tuple #[.int .i64 (RX _ _),.int .i64 0];rw[show(eR wk ws ww l1 l2).length=l2.length*l1.length+1 from lV];first|done|rfl
    ·exact absurd ⟨by rw[lV];omega,hwgr⟩ hwo
    ·exact absurd ⟨EC,hin⟩ hxo
   ·refine kM J (eP J J (eP J J (eP J J (kM J (kM J (kM J (Q0 (rQ (rS (kM J (kO (V3 J J (fun _=>(Q0 (Y0 J (rS (kM J (kM J (kM J (Q0 (V2 (W3 ?_)))))))))) (fun h=>absurd h dE)))))))))))))
    exact pF J J (.inr (.inr (.inl ⟨⟨hsp,hTl,hall⟩,hw,rfl,rfl⟩)))
  ·have hih:=h6
   refine eC J (Q0 (Y0 J (rS (kM J (kM J (Q0 (V2 (W3 ?_))))))));exact pF J J (.inr (.inl ⟨hsp,(fun q=>by (rw[decide_eq_true q.1,q.2] at hih;cases hih)),rfl,rfl⟩))
 ·refine kM J (Q0 (rS (kM J (kO (V3 J J (fun _=>(Q0 (Y0 J (rS (kM J (kM J (kM J (Q0 (V2 (W3 ?_)))))))))) (fun h=>absurd h dE))))))
  exact pF J J (.inl ⟨aM,rfl,rfl⟩)
end
variable{l1 l2:List Int}{i:Nat}
theorem lT{A:List Ob}{b e:Nat}{op:Bool}{l:List Value}(h:Ob.row b e op l∈A):lK A b e op l:=by
 induction A with
 |nil=>cases h
 |cons x A ih=>
  rcases List.mem_cons.1 h with h|h
  ·subst h;exact .here
  ·exact .next (ih h)
def uD(l1 l2:List Int)(i y:Nat):List Int:=((fI l2).take y).map fun x=>(fI l1).getD i 0*x
theorem BB{i y:Nat}(h:y<=(fI l2).length):(uD l1 l2 i y).length=y:=by
 unfold uD;rw[List.length_map,List.length_take];omega
theorem BC{i y:Nat}(h:y<(fI l2).length):ints (uD l1 l2 i y)++[.int .i64 ((fI l1).getD i 0*(fI l2).getD y 0)]=ints (uD l1 l2 i (y+1)):=by
 have e:(fI l2).getD y 0=(fI l2)[y]:=by rw[List.getD_eq_getElem?_getD,List.getElem?_eq_getElem h];rfl
 unfold uD ints;rw[List.take_add_one,List.getElem?_eq_getElem h,List.map_append,List.map_append,e];rfl
theorem ED(h:0<(fI l2).length):ints (uD l1 l2 i 1)=[.int .i64 ((fI l1).getD i 0*(fI l2).getD 0 0)]:=(BC (y:=0) h).symm
def Ua(n c:Nat):Value:=.slice (some ⟨c,0,none⟩) n OPEN
def HT(l1 l2:List Int)(bs:List Nat)(T:List Ob):Prop:=∀j c,bs[j]? = some c->Ob.row c 3 true (ints (uD l1 l2 j l2.length))∈T
theorem Cp{bs:List Nat}{T:List Ob}{c i:Nat}(h:HT l1 l2 bs T)(hi:bs.length=i):HT l1 l2 (bs++[c]) (.row c 3 true (ints (uD l1 l2 i l2.length))::T):=by
 intro j d hd;by_cases hj:j<bs.length
 ·rw[List.getElem?_append_left hj] at hd
  exact List.mem_cons_of_mem _ (h j d hd)
 ·rw[List.getElem?_append_right oM] at hd
  have:j=bs.length:=by
   by_cases hq:j-bs.length=0
   ·omega
   ·rw[List.getElem?_eq_none (by simp;omega)] at hd;cases hd
  subst this;simp at hd;subst hd;rw[hi];exact List.mem_cons_self
section
variable{X:FuncId->List Value->St->(Value->St->Bool)->Bool}
theorem Rn(n:Nat)(a1 a2:Option Addr)(c1 c2:Nat)(l1 l2:List Int)(s:St)(hs:Wf s)(hn:1407374883553280<=n)(hl1:aN s a1 l1)(hl2:aN s a2 l2)(hpl:bW l1 l2=true)(hp1:uC 9 100000 l1)(hp2:uC 9 100000 l2):bS Tryz.prog (bX bZ) X (n+1600) 122 [.slice a1 l1.length c1,.slice a2 l2.length c2] s (fun v A=>∃b bs T,v = .tuple #[.slice (some ⟨b,0,none⟩) l1.length OPEN,.int .i64 0]/\A = .row b 22 true (bs.map (Ua l2.length))::T/\bs.length=l1.length/\HT l1 l2 bs T):=by
 refine enter K4 rfl hs ?_;unfold Gv;have hlen1:=hl1.len;have hlen2:=hl2.len;have hw1:=eJ (l:=l1);have hw2:=eJ (l:=l2);have hm1:=hp1.hm;have hm2:=hp2.hm;have h21:=hp1.h2;have h22:=hp2.h2;refine rS (kM J (kM J (Q0 (rQ (rS (kM J (kM J (kO (gB J J (fun s1 h1=>Ip _ _ _ _ _ _ _ s1 h1.wf oM (hl1.ext hs h1.2.1) (hl2.ext hs h1.2.1)) (fun h1=>?_) (fun h1=>?_))))))))))
 ·refine eC J (Q0 (U0 J (Q1 (W0 (rS (kM J (kO (Z4 J J (fun s1 h1=>uQ _ _ _ _ s1 h1.wf oM (hl1.ext hs h1.2.1) hp1) (fun v1 A1 q1=>?_)))))))))
  obtain⟨b2,rfl,rfl⟩:=q1;refine kM J (Q0 (rS (kM J (kO (Z4 J J (fun s1 h1=>uQ _ _ _ _ s1 h1.wf oM (hl2.ext hs h1.2.1) hp2) (fun v1 A1 q1=>?_))))));obtain⟨b3,rfl,rfl⟩:=q1;refine kM J (Q0 (rS (kM J (Q0 (rQ (rS (kM J (Q0 (W1 (bH (rQ (rS (kM J (kM J (kO (cO J (cX J J (fun h4=>?_) (fun h4=>?_))))))))))))))))))
  ·refine Q0 (Y0 J (Q1 (W0 (rQ (W1 (rS (kM J (Q0 (rQ (rS (kM J (Q0 (W1 (bH (rQ (rS (kM J (kM J (kO (cO J (cX J J (fun h5=>?_) (fun h5=>?_))))))))))))))))))))))
   ·refine Q0 (Y0 J (Q1 (W0 (rQ (W1 (rI (kM J (kM J (kM J (cL (j:=0) J J oM oM (kO (eD J .h1 (by first|omega|(simp;done)|(simp;omega)) (kM J (kM J (cL (j:=0) J J oM oM (kO (eD J .here (by first|omega|(simp;done)|(simp;omega)) (aY J J (qX (fK hp1 _) (fK hp2 _)) (bB J J J (fun b6=>(kO (fV J J (fH.own .here rfl sM) dE oM oM (fun b7=>(kM J (Q0 (Z1 (W0 (rI ?_))))))))))))))))))))))))))))
    refine kM J (aW J J dE (kM J (Q0 (W0 (U4 (fun j e A=>∃(y br:Nat),e=[(6,.slice (some ⟨b2,0,none⟩) l1.length l1.length),(7,.slice (some ⟨b3,0,none⟩) l2.length l2.length),(8,.slice none 0 0),(9,.int .i64 0),(10,.slice (some ⟨br,0,none⟩) y OPEN),(11,.int .i64 (y:Int))]/\A=(.row br 3 true (ints (uD l1 l2 0 y))::(.row b3 3 false (ints (fI l2))::(.row b2 3 false (ints (fI l1))::[])))/\j=l2.length-y/\y<=l2.length) 400 0 281474976710656 ?_ (j:=_) (env2:=_) (A2:=_) ?_ ?_ ?_ ?_ ⟨1,b7,rfl,rfl,rfl,oM⟩)))))
    rotate_left
    ·omega
    ·omega
    ·exact lL
    ·rw[ED oM]
     exact(.q (.cons _ (.q (.q .slnil))))
    rintro n hn j _ _ ⟨y,br,rfl,rfl,rfl,hy⟩;refine rQ (rS (kM J (kM J (kO (cO J (cX J J (fun h8=>?_) (fun h8=>?_)))))))
    ·refine Q0 (Y0 J (Q1 (W0 (rQ (W1 (rI (kM J (kM J (kM J (cL (j:=0) J J oM oM (kO (eD J .h2 (by first|omega|(simp;done)|(simp;omega)) (kM J (kM J (cL (j:=y) J J oM oM (kO (eD J .h1 (by first|omega|(simp;done)|(simp;omega)) (aY J J (qX (fK hp1 _) (fK hp2 _)) (bB J J J (fun b9=>(kO (cK J J (fH.own .here rfl sM) .h1 (by rw[bO,BB oM,Nat.mul_one]) (.inl ⟨rfl,rfl⟩) dE oM oM (fun b10=>(kM J (Q0 (Z1 (W0 (rI ?_))))))))))))))))))))))))))))
     refine kM J (aW J J oM (kM J (Q0 (W0 ?_))));exact⟨rfl,_,_,_,(show l2.length-(y+1)<l2.length-y from oM),lL,(.q (.cons _ (.q (.q .slnil)))),⟨y+1,b10,rfl,(by simp only[List.set_cons_zero];rw[BC oM]),rfl,oM⟩⟩
    ·refine Q0 (U0 J (Y4 (Z2 (Z2 (Q3 (W0 (rI (kM J (kM J (bB J J J (fun b11=>(kO (fV J J (fH.own .here rfl sM) dE oM oM (fun b12=>(kM J (Q0 (Z1 (W0 (rI (kM J (aW J J dE (kM J (Q0 (W0 ?_))))))))))))))))))))))))
     have hyl:y=l2.length:=oM;subst hyl;refine U4 (fun j e A=>∃(i b:Nat) (bs:List Nat) (T:List Ob),e=[(6,.slice (some ⟨b2,0,none⟩) l1.length l1.length),(7,.slice (some ⟨b3,0,none⟩) l2.length l2.length),(8,.slice (some ⟨b,0,none⟩) i OPEN),(9,.int .i64 (i:Int))]/\A=(.row b 22 true (bs.map (Ua l2.length))::T)/\j=l1.length-i/\i<=l1.length/\bs.length=i/\HT l1 l2 bs T/\Ob.row b2 3 false (ints (fI l1))∈T/\Ob.row b3 3 false (ints (fI l2))∈T) 900 281474976710656 281474976710656 ?_ (j:=_) (env2:=_) (A2:=_) ?_ ?_ ?_ ?_ ⟨1,b12,[br],[.row br 3 true (ints (uD l1 l2 0 l2.length)),.row b3 3 false (ints (fI l2)),.row b2 3 false (ints (fI l1))],rfl,rfl,rfl,oM,rfl,(Cp (bs:=[]) (fun _ _ h=>by simp at h) J),sM,sM⟩
     rotate_left
     ·omega
     ·omega
     ·exact lL
     ·exact(.q (.cons _ (.q (.q (.q .slnil)))))
     rintro n hn j _ _ ⟨i,b,bs,T,rfl,rfl,rfl,hi,hbs,hrw,hm1,hm2⟩;refine rQ (rS (kM J (kM J (kO (cO J (cX J J (fun h13=>?_) (fun h13=>?_)))))))
     ·refine Q0 (Y0 J (Q1 (W0 (rQ (W1 (rS (kM J (Q0 (rQ (rS (kM J (Q0 (W1 (bH (rQ (rS (kM J (kM J (kO (cO J (cX J J (fun h14=>?_) (fun h14=>?_))))))))))))))))))))))
      ·refine Q0 (Y0 J (Q1 (W0 (rQ (W1 (rI (kM J (kM J (kM J (cL (j:=i) J J oM oM (kO (eD J (lT (e:=3) (op:=false) (l:=ints (fI l1)) (by simp[hm1])) (by first|omega|(simp;done)|(simp;omega)) (kM J (kM J (cL (j:=0) J J oM oM (kO (eD J (lT (e:=3) (op:=false) (l:=ints (fI l2)) (by simp[hm2])) (by first|omega|(simp;done)|(simp;omega)) (aY J J (qX (fK hp1 _) (fK hp2 _)) (bB J J J (fun b15=>(kO (fV J J (fH.own .here rfl sM) dE oM oM (fun b16=>(kM J (Q0 (Z1 (W0 (rI ?_))))))))))))))))))))))))))))
       refine kM J (aW J J dE (kM J (Q0 (W0 (U4 (fun j e A=>∃(y br:Nat),e=[(6,.slice (some ⟨b2,0,none⟩) l1.length l1.length),(7,.slice (some ⟨b3,0,none⟩) l2.length l2.length),(8,.slice (some ⟨b,0,none⟩) i OPEN),(9,.int .i64 (i:Int)),(10,.slice (some ⟨br,0,none⟩) y OPEN),(11,.int .i64 (y:Int))]/\A=(.row br 3 true (ints (uD l1 l2 i y))::(.row b 22 true (bs.map (Ua l2.length))::T))/\j=l2.length-y/\y<=l2.length) 400 0 281474976710656 ?_ (j:=_) (env2:=_) (A2:=_) ?_ ?_ ?_ ?_ ⟨1,b16,rfl,rfl,rfl,oM⟩)))))
       rotate_left
       ·omega
       ·omega
       ·exact lL
       ·rw[ED oM]
        exact(.q (.cons _ (.q (.refl _))))
       rintro n hn j _ _ ⟨y,br,rfl,rfl,rfl,hy⟩;refine rQ (rS (kM J (kM J (kO (cO J (cX J J (fun h17=>?_) (fun h17=>?_)))))))
       ·refine Q0 (Y0 J (Q1 (W0 (rQ (W1 (rI (kM J (kM J (kM J (cL (j:=i) J J oM oM (kO (eD J (lT (e:=3) (op:=false) (l:=ints (fI l1)) (by simp[hm1])) (by first|omega|(simp;done)|(simp;omega)) (kM J (kM J (cL (j:=y) J J oM oM (kO (eD J (lT (e:=3) (op:=false) (l:=ints (fI l2)) (by simp[hm2])) (by first|omega|(simp;done)|(simp;omega)) (aY J J (qX (fK hp1 _) (fK hp2 _)) (bB J J J (fun b18=>(kO (cK J J (fH.own .here rfl sM) .h1 (by rw[bO,BB oM,Nat.mul_one]) (.inl ⟨rfl,rfl⟩) dE oM oM (fun b19=>(kM J (Q0 (Z1 (W0 (rI ?_))))))))))))))))))))))))))))
        refine kM J (aW J J oM (kM J (Q0 (W0 ?_))));exact⟨rfl,_,_,_,(show l2.length-(y+1)<l2.length-y from oM),lL,(.q (.cons _ (.q (.refl _)))),⟨y+1,b19,rfl,(by simp only[List.set_cons_zero];rw[BC oM]),rfl,oM⟩⟩
       ·refine Q0 (U0 J (Y4 (Z2 (Z2 (Q3 (W0 (rI (kM J (kM J (bB J J J (fun b20=>(kO (cK J J (fH.own .here rfl sM) .h2 (by simp[hbs]) (.inl ⟨rfl,rfl⟩) dE oM oM (fun b21=>(kM J (Q0 (Z1 (W0 (rI (kM J (aW J J oM (kM J (Q0 (W0 ?_))))))))))))))))))))))))
        have hyl:y=l2.length:=oM;subst hyl;exact⟨rfl,_,_,_,(show l1.length-(i+1)<l1.length-i from oM),lL,(.q (.cons _ (.q (.refl _)))),⟨i+1,b21,bs++[br],_,rfl,(by rw[List.map_append];rfl),rfl,oM,(by simp[hbs]),(Cp hrw hbs),(by simp[hm1]),(by simp[hm2])⟩⟩
      ·exfalso;omega
     ·refine Q0 (U0 J (Y4 (Z2 (Z2 (Q3 (W0 (rS (kM J (kM J (kM J (Q0 (V2 ?_))))))))))))
      have hil:i=l1.length:=oM
      subst hil;exact kK J J (.refl _) ⟨b,bs,T,rfl,rfl,hbs,hrw⟩
   ·exfalso;omega
  ·exfalso;omega
 ·rw[hpl] at h1;cases h1
end
variable{tgt O l1 l2:List Int}{m n i y t ws ww:Nat}{P:Nat->Prop}
def BL(O tgt:List Int)(P:Nat->Prop):Prop:=O.length=tgt.length/\∀t,O.getD t 0=tgt.getD t 0∨(O.getD t 0=0/\¬P t)
theorem rK(h:tgt.length=m)(hP:∀t,¬P t):BL (List.replicate m 0) tgt P:=by
 refine⟨by simp[h],fun t=> .inr ⟨?_,hP t⟩⟩;rw[List.getD_eq_getElem?_getD,List.getElem?_replicate];split <;> rfl
theorem wL{P P':Nat->Prop}{j:Nat}{v:Int}(h:BL O tgt P)(hj:j<O.length)(hv:v=tgt.getD j 0)(hP:∀t,P' t->P t∨t=j):BL (O.set j v) tgt P':=by
 refine⟨by rw[List.length_set];exact h.1,fun t=>?_⟩;by_cases ht:j=t
 ·subst ht
  refine .inl ?_;rw[<-hv];simp[List.getD_eq_getElem?_getD,hj]
 ·rw[getD_set_ne ht]
  rcases h.2 t with h1|⟨h1,h2⟩
  ·exact .inl h1
  ·exact .inr ⟨h1,fun q=>by rcases hP t q with q|q;exact h2 q;exact ht q.symm⟩
theorem ID{P P':Nat->Prop}(h:BL O tgt P)(hP:∀t,P' t->P t):BL O tgt P':=
 ⟨h.1,fun t=>by rcases h.2 t with h1|⟨h1,h2⟩;exact .inl h1;exact .inr ⟨h1,fun q=>h2 (hP t q)⟩⟩
theorem wM(h:BL O tgt P)(h0:∀t,¬P t->tgt.getD t 0=0):O=tgt:=by
 refine List.ext_getElem h.1 (fun t h1 h2=>?_);have e:O.getD t 0=tgt.getD t 0:=by
  rcases h.2 t with q|⟨q,q2⟩
  ·exact q
  ·rw[q,h0 t q2]
 simpa [List.getD_eq_getElem?_getD,h1,h2] using e
def PG(n m i y:Nat):Nat->Prop:=fun t=>∃i' y',((i'<i/\y'<m)∨(i'=i/\y'<y))/\t=n*i'+y'+1
theorem Ro(h:PG n m i (y+1) t):PG n m i y t∨t=n*i+y+1:=by
 obtain⟨i',y',h1,h2⟩:=h;rcases h1 with h1|⟨h1,h3⟩
 ·exact .inl ⟨i',y',.inl h1,h2⟩
 ·by_cases hy:y'=y
  ·subst hy;subst h1;exact .inr h2
  ·exact .inl ⟨i',y',.inr ⟨h1,oM⟩,h2⟩
theorem Rp(h:PG n m (i+1) 0 t):PG n m i m t:=by
 obtain⟨i',y',h1,h2⟩:=h;rcases h1 with ⟨h1,h3⟩|⟨_,h3⟩
 ·by_cases hi:i'=i
  ·exact⟨i',y',.inr ⟨hi,h3⟩,h2⟩
  ·exact⟨i',y',.inl ⟨oM,h3⟩,h2⟩
 ·omega
def P2(n w i:Nat):Nat->Prop:=fun t=>∃i',i'<i/\t=n*i'+w+1
def P3(n s y:Nat):Nat->Prop:=fun t=>∃y',y'<y/\t=n*s+y'+1
theorem Rq{n w i t:Nat}(h:P2 n w (i+1) t):P2 n w i t∨t=n*i+w+1:=by
 obtain⟨i',h1,h2⟩:=h;by_cases hi:i'=i
 ·subst hi;exact .inr h2
 ·exact .inl ⟨i',oM,h2⟩
theorem Rr{n s y t:Nat}(h:P3 n s (y+1) t):P3 n s y t∨t=n*s+y+1:=by
 obtain⟨y',h1,h2⟩:=h;by_cases hy:y'=y
 ·subst hy;exact .inr h2
 ·exact .inl ⟨y',oM,h2⟩
theorem rL(hy:y<n)(hi:i<m):n*i+y<n*m:=by
 have:n*(i+1)<=n*m:=Nat.mul_le_mul_left _ hi;rw[Nat.mul_add,Nat.mul_one] at this;omega
theorem BD{al up:List Int}(hy:y<n)(hi:i<m):(lI al up n (n*m)).getD (n*i+y+1) 0=al.getD i 0*up.getD y 0:=by
 rw[<-HB (al:=al) (up:=up) hy,List.getD_eq_getElem?_getD];have:=rL hy hi;unfold lI;rw[List.getElem?_cons_succ,List.getElem?_map,List.getElem?_range this];rfl
theorem wN{al up:List Int}(h:∀i y,y<n->t=n*i+y+1->i<m->al.getD i 0*up.getD y 0=0):(lI al up n (n*m)).getD t 0=0:=by
 cases t with
 |zero=>rfl
 |succ t=>
  by_cases ht:t<n*m
  ·have hn:0<n:=by
    rcases Nat.eq_zero_or_pos n with q|q
    ·subst q;simp at ht
    ·exact q
   have e:t=n*(t / n)+t % n:=(Nat.div_add_mod t n).symm;have hy:t % n<n:=Nat.mod_lt _ hn;have hi:t / n<m:=(Nat.div_lt_iff_lt_mul hn).2 (by rw[Nat.mul_comm];exact ht);have e2:t+1=n*(t / n)+t % n+1:=oM
   rw[e2,BD hy hi];exact h _ _ hy e2 hi
  ·rw[mI (by rw[fC];omega)]
theorem Ar{x:Nat}:(cV x).getD x 0=1:=by simp[cV,List.getD_eq_getElem?_getD]
theorem As{x y:Nat}(h:y≠x):(cV x).getD y 0=0:=by
 unfold cV;rw[getD_set_ne (Ne.symm h),List.getD_eq_getElem?_getD,List.getElem?_replicate];split <;> rfl
theorem MN(h:y<l2.length):(uD l1 l2 i l2.length).getD y 0=(fI l1).getD i 0*(fI l2).getD y 0:=by
 have hw:=eJ (l:=l2);have e:(fI l2).getD y 0=(fI l2)[y]'oM:=by rw[List.getD_eq_getElem?_getD,List.getElem?_eq_getElem oM];rfl
 unfold uD;rw[e,List.getD_eq_getElem?_getD,List.getElem?_map,List.getElem?_take,if_pos oM,List.getElem?_eq_getElem oM];rfl
theorem MO{wk:Int}(h:wk=1):eR wk ws ww l1 l2=lI (fI l1) (fI (l2.take (ww+1))) l2.length (l2.length*l1.length):=by subst h;rfl
theorem MP{wk:Int}(h:wk=2):eR wk ws ww l1 l2=lI (fI l1) (cV ww) l2.length (l2.length*l1.length):=by subst h;rfl
theorem MQ{wk:Int}(h:wk=3):eR wk ws ww l1 l2=lI (cV ws) (fI l2) l2.length (l2.length*l1.length):=by subst h;rfl
theorem MR{wk:Int}(h:wk=4):eR wk ws ww l1 l2=lI (cV ws) (cV ww) l2.length (l2.length*l1.length):=by subst h;rfl
theorem wO{wk ws ww:Int}:(eR wk ws ww l1 l2).length=l2.length*l1.length+1:=fC
theorem IE{k:Nat}(h:bW l1 l2=true)(h1:2<=k)(h2:k<=l2.length):bW l1 (l2.take k)=true:=by
 have hq:=Ad h;have hp:=Ae (mF (fR h) h1 h2);have hp1:=Ae (fG h);have hl:(l2.take k).length=k:=by rw[List.length_take];omega
 refine eA hp1 hp (by have:=hq.hm;omega) ?_;have e:(l2.take k).getD ((l2.take k).length-1) 0=l2.getD (k-1) 0:=by
  rw[hl,List.getD_eq_getElem?_getD,List.getD_eq_getElem?_getD,List.getElem?_take,if_pos oM]
 rw[e];exact(hq.lo _).2
theorem Df{bs:List Nat}{i c:Nat}(h:bs[i]? = some c):(bs.map (Ua n))[0+i*1]? = some (.slice (some ⟨c,0,none⟩) n OPEN):=by
 rw[Nat.zero_add,Nat.mul_one,List.getElem?_map,h];rfl
theorem Tw{wk:Int}(h:wk=1):Bq wk=648000000:=by subst h;rfl
theorem Tx{wk:Int}(h:wk=2):Bq wk=180000:=by subst h;rfl
theorem Ty{wk:Int}(h:wk=3):Bq wk=180000:=by subst h;rfl
theorem Tz{wk:Int}(h:wk=4):Bq wk=1:=by subst h;rfl
section
variable{X:FuncId->List Value->St->(Value->St->Bool)->Bool}
theorem FI(n:Nat)(d r al up:Int)(a1 a2:Option Addr)(c1 c2:Nat)(l1 l2:List Int)(wk:Int)(ws ww:Nat)(s:St)(hs:Wf s)(hn:2251799813685248<=n)(hl1:aN s a1 l1)(hl2:aN s a2 l2)(hpl:bW l1 l2=true)(hp1:uC 9 100000 l1)(hp2:uC 9 100000 l2)(hcp:jM s a2 l2.length c2)(hwh:((wk=1/\(ws:Int)=0/\(0<=(ww:Int)/\(ww:Int)<=(l2.length:Int)-1)/\0<(ww:Int))∨(wk=2/\(ws:Int)=0/\(0<=(ww:Int)/\(ww:Int)<=(l2.length:Int)-1))∨(wk=3/\(0<=(ws:Int)/\(ws:Int)<=(l1.length:Int)-1)/\(ww:Int)=0)∨(wk=4/\(0<=(ws:Int)/\(ws:Int)<=(l1.length:Int)-1)/\(0<=(ww:Int)/\(ww:Int)<=(l2.length:Int)-1)))):bS Tryz.prog (bX bZ) X (n+2500) 77 [.agg ⟨[.int .i64 d,.int .i64 r,.slice a1 l1.length c1,.slice a2 l2.length c2,.int .i64 al,.int .i64 up]⟩,.agg ⟨[.int .i64 wk,.int .i64 (ws:Int),.int .i64 (ww:Int)]⟩] s (fun v A=>∃b,v = .tuple #[.slice (some ⟨b,0,none⟩) (l2.length*l1.length+1) (l2.length*l1.length+1),.int .i64 (Bq wk)]/\A=[.row b 3 false (ints (eR wk ws ww l1 l2))]):=by
 refine enter Qx rfl hs ?_;unfold Po;have hlen1:=hl1.len;have hlen2:=hl2.len;have hm1:=hp1.hm;have hm2:=hp2.hm;have h21:=hp1.h2;have h22:=hp2.h2;have hw1:=eJ (l:=l1);have hw2:=eJ (l:=l2);have hw3:=eJ (l:=l2.take (ww+1));have hs9:=rD (x:=(l1.length:Int)) (y:=(l2.length:Int)) oM oM;have hN:((l2.length*l1.length:Nat):Int)=(l1.length:Int)*(l2.length:Int):=by rw[Int.natCast_mul,Int.mul_comm]
 have hww:ww<l2.length:=oM
 have hws:ws<l1.length:=oM
 have hw4:(l2.take (ww+1)).length=ww+1:=by rw[List.length_take];omega
 refine rS (aZ J J J (fun b1=>(aZ J J J (fun b2=>(kM J (kM J (Q0 (rS (cI J dE .h1 J (aI J J (fun s1 h1=>yB _ _ _ _ _ _ _ _ _ _ _ s1 h1.wf oM (hl1.ext hs h1.2.1) (hl2.ext hs h1.2.1) oM) (aW J J oM (kO (S8 (m:=l2.length*l1.length+1) J J oM oM oM (fun b3=>(kM J (Q0 (rQ (rS (aK J (aO J .h1 J (Q0 (W1 (rS (kO (bJ J J (fun h4=>?_) (fun h4=>?_))))))))))))))))))))))))))
 ·have hk1:=h4
  refine kM J (Q0 (Y0 J (rS (aK J (aO J .h2 J (aK J (aO J .h2 J (aK J (aO J .h1 J (aW J J oM (kO (Fv (h:=(l2.take (ww+1)).length) hl2 rfl rfl (by rw[List.length_take];omega) oM (by rw[List.length_take];omega) hcp (kO (Z4 J J (fun s1 h1=>Rn _ _ _ _ _ _ _ s1 h1.wf oM (hl1.ext hs h1.2.1) ((hl2.take (ww+1)).ext hs h1.2.1) (IE hpl oM oM) hp1 (mF hp2 oM oM)) (fun v1 A1 q1=>?_)))))))))))))));obtain⟨b5,bs6,T7,rfl,rfl,hb8,hr9⟩:=q1;refine kM J (eP J J (eP J J (kM J (kM J (Q0 (rQ (rS (kM J (Q0 (W1 ?_))))))))));refine U4 (fun j e A=>∃(i:Nat) (O:List Int),e=[(2,.pointer (some ⟨b1,0,none⟩)),(3,.pointer (some ⟨b2,0,none⟩)),(6,.slice (some ⟨b3,0,none⟩) (l2.length*l1.length+1) (l2.length*l1.length+1)),(7,.slice (some ⟨b5,0,none⟩) l1.length OPEN),(9,.int .i64 (i:Int))]/\A=(.row b5 22 true (bs6.map (Ua (l2.take (ww+1)).length))::(T7++(.row b3 3 false (ints O)::(.row b2 59 false ([.int .i64 wk,.int .i64 (ws:Int),.int .i64 (ww:Int)])::(.row b1 33 false ([.int .i64 d,.int .i64 r,.slice a1 l1.length c1,.slice a2 l2.length c2,.int .i64 al,.int .i64 up])::[])))))/\j=l1.length-i/\i<=l1.length/\O.length=l2.length*l1.length+1/\BL O (eR wk ws ww l1 l2) (PG l2.length (ww+1) i 0)) 700 281474976710656 281474976710656 ?_ (j:=_) (env2:=_) (A2:=_) ?_ ?_ ?_ ?_ ⟨0,List.replicate (l2.length*l1.length+1) 0,rfl,rfl,rfl,oM,sM,(rK wO (fun t h=>by obtain⟨_,_,h1,_⟩:=h;omega))⟩
  rotate_left
  ·omega
  ·omega
  ·exact lL
  ·exact(.q (.r (.q (.q (.q .slnil)))))
  rintro n hn j _ _ ⟨i,O,rfl,rfl,rfl,hi,hO,hQ⟩;refine rQ (rS (kM J (kM J (kO (cO J (cX J J (fun h10=>?_) (fun h10=>?_)))))))
  ·obtain⟨c,hbi⟩:=Bc (l:=bs6) (k:=i) oM
   have hcT:=hr9 _ _ hbi;have hrl:(uD l1 (l2.take (ww+1)) i (l2.take (ww+1)).length).length=ww+1:=by rw[BB (by rw[hw3];exact Nat.le_refl _),hw4]
   refine Q0 (Y0 J (Q1 (W0 (rQ (W1 (rS (kM J (Q0 (W1 ?_)))))))));refine U4 (fun j e A=>∃(y:Nat) (O2:List Int),e=[(2,.pointer (some ⟨b1,0,none⟩)),(3,.pointer (some ⟨b2,0,none⟩)),(6,.slice (some ⟨b3,0,none⟩) (l2.length*l1.length+1) (l2.length*l1.length+1)),(7,.slice (some ⟨b5,0,none⟩) l1.length OPEN),(9,.int .i64 (i:Int)),(10,.int .i64 (y:Int))]/\A=(.row b5 22 true (bs6.map (Ua (l2.take (ww+1)).length))::(T7++(.row b3 3 false (ints O2)::(.row b2 59 false ([.int .i64 wk,.int .i64 (ws:Int),.int .i64 (ww:Int)])::(.row b1 33 false ([.int .i64 d,.int .i64 r,.slice a1 l1.length c1,.slice a2 l2.length c2,.int .i64 al,.int .i64 up])::[])))))/\j=ww+1-y/\y<=ww+1/\O2.length=l2.length*l1.length+1/\BL O2 (eR wk ws ww l1 l2) (PG l2.length (ww+1) i y)) 400 0 281474976710656 ?_ (j:=_) (env2:=_) (A2:=_) ?_ ?_ ?_ ?_ ⟨0,O,rfl,rfl,rfl,oM,hO,hQ⟩
   rotate_left
   ·omega
   ·omega
   ·exact lL
   ·exact(.q (.r (.q (.q (.q .slnil)))))
   rintro n hn j _ _ ⟨y,O2,rfl,rfl,rfl,hy,hO2,hQ2⟩;refine rQ (rS (kM J (kM J (kM J (cL (j:=i) J J oM oM (aO J .here (Df hbi) (kO (cO J (cX J J (fun h11=>?_) (fun h11=>?_))))))))))
   ·have hj9:=rL (n:=l2.length) (m:=l1.length) (i:=i) (y:=y) oM oM
    have hc9:((l2.length*i:Nat):Int)=(i:Int)*(l2.length:Int):=by rw[Int.natCast_mul,Int.mul_comm]
    refine Q0 (Y0 J (Q1 (W0 (rQ (W1 (rI (kM J (cI J dE (.next (.app .h2)) J (kM J (kM J (kM J (kM J (cL (j:=i) J J oM oM (aO J .here (Df hbi) (kM J (cL (j:=y) J J oM oM (kO (eD J (lT (e:=3) (op:=true) (l:=ints (uD l1 (l2.take (ww+1)) i (l2.take (ww+1)).length)) (List.mem_cons_of_mem _ (List.mem_append_left _ hcT))) (by first|omega|(simp;done)|(simp;omega)) (aI J J (fun s1 h1=>mH _ _ _ _ _ _ _ _ _ _ _ _ _ s1 h1.wf oM (hl1.ext hs h1.2.1) (hl2.ext hs h1.2.1) oM oM oM) (kZ (aL J J (lT (e:=3) (op:=true) (l:=ints (uD l1 (l2.take (ww+1)) i (l2.take (ww+1)).length)) (List.mem_cons_of_mem _ (List.mem_append_left _ hcT))) (oC (by first|omega|(simp;omega))) (by simp[eqV,kindEq,aB]) (kZ (aL J J .here (Df hbi) (by simp[eqV]) (cL (j:=l2.length*i+y+1) J J oM oM (kZ (W7 J J (.next (.app .here)) (by first|omega|(simp;done)|(simp[cU];omega)|(simp;omega)) (Q0 ?_)))))))))))))))))))))))))));refine Z1 (W0 (rI (kM J (aW J J oM (kM J (Q0 (W0 ?_)))))));exact⟨rfl,_,_,_,(show ww+1-(y+1)<ww+1-y from oM),lL,(.q (.r (.q (.q (.q .slnil))))),⟨y+1,_,rfl,rfl,rfl,oM,(by simp[hO2]),(wL hQ2 oM (by rw[MO hk1,BD oM oM];exact MN oM) (fun t h=>Ro h))⟩⟩
   ·refine Q0 (U0 J (Y4 (Z2 (Z2 (Q3 (Z1 (W0 (rI (kM J (aW J J oM (kM J (Q0 (W0 ?_)))))))))))))
    have hyl:y=ww+1:=oM;subst hyl;exact⟨rfl,_,_,_,(show l1.length-(i+1)<l1.length-i from oM),lL,(.q (.r (.q (.q (.q .slnil))))),⟨i+1,_,rfl,rfl,rfl,oM,hO2,(ID hQ2 (fun t h=>Rp h))⟩⟩
  ·refine Q0 (U0 J (Y4 (Z2 (Z2 (Q3 (W0 (rS (kM J (kM J (kM J (Q0 (V2 (Y6 (W3 ?_))))))))))))))
   have hil:i=l1.length:=oM
   subst hil;have hfin:=wM hQ (fun t ht=>by
    rw[MO hk1];refine wN (fun i9 y9 hy9 ht9 hi9=>?_);rw[mI (l:=fI (l2.take (ww+1))) (by rw[hw3,hw4];exact Nat.le_of_not_lt (fun q=>ht ⟨i9,y9,.inl ⟨oM,q⟩,ht9⟩)),Int.mul_zero])
   exact kK J J (.cons _ (sR (.q (.cons _ (.cons _ .slnil))))) ⟨b3,by rw[Tw hk1],by rw[<-hfin]⟩
 ·refine kM J (Q0 (U0 J (rS (kO (bJ J J (fun h12=>?_) (fun h12=>?_))))))
  ·have hk2:=h12
   refine kM J (Q0 (Y0 J (rS (aK J (aO J .h2 J (kO (Z4 J J (fun s1 h1=>Bf _ _ _ _ s1 h1.wf oM (hl1.ext hs h1.2.1) hp1) (fun v1 A1 q1=>?_))))))));obtain⟨b13,rfl,rfl⟩:=q1;refine kM J (eP J J (eP J J (kM J (kM J (Q0 (rQ (rS (kM J (Q0 (W1 (U4 (fun j e A=>∃(i:Nat) (O:List Int),e=[(2,.pointer (some ⟨b1,0,none⟩)),(3,.pointer (some ⟨b2,0,none⟩)),(6,.slice (some ⟨b3,0,none⟩) (l2.length*l1.length+1) (l2.length*l1.length+1)),(11,.slice (some ⟨b13,0,none⟩) l1.length l1.length),(13,.int .i64 (i:Int))]/\A=(.row b13 3 false (ints (fI l1))::(.row b3 3 false (ints O)::(.row b2 59 false ([.int .i64 wk,.int .i64 (ws:Int),.int .i64 (ww:Int)])::(.row b1 33 false ([.int .i64 d,.int .i64 r,.slice a1 l1.length c1,.slice a2 l2.length c2,.int .i64 al,.int .i64 up])::[]))))/\j=l1.length-i/\i<=l1.length/\O.length=l2.length*l1.length+1/\BL O (eR wk ws ww l1 l2) (P2 l2.length ww i)) 400 0 281474976710656 ?_ (j:=_) (env2:=_) (A2:=_) ?_ ?_ ?_ ?_ ⟨0,List.replicate (l2.length*l1.length+1) 0,rfl,rfl,rfl,oM,sM,(rK wO (fun t h=>by obtain⟨_,h1,_⟩:=h;omega))⟩)))))))))))
   rotate_left
   ·omega
   ·omega
   ·exact lL
   ·exact(.q (.q (.q (.q .slnil))))
   rintro n hn j _ _ ⟨i,O,rfl,rfl,rfl,hi,hO,hQ⟩;refine rQ (rS (kM J (kM J (kO (cO J (cX J J (fun h14=>?_) (fun h14=>?_)))))))
   ·have hj9:=rL (n:=l2.length) (m:=l1.length) (i:=i) (y:=ww) oM oM
    have hc9:((l2.length*i:Nat):Int)=(i:Int)*(l2.length:Int):=by rw[Int.natCast_mul,Int.mul_comm]
    refine Q0 (Y0 J (Q1 (W0 (rQ (W1 (rI (kM J (cI J dE .h3 J (kM J (aK J (aO J .h2 J (kM J (kM J (cL (j:=i) J J oM oM (kO (eD J .here (by first|omega|(simp;done)|(simp;omega)) (aI J J (fun s1 h1=>mH _ _ _ _ _ _ _ _ _ _ _ _ _ s1 h1.wf oM (hl1.ext hs h1.2.1) (hl2.ext hs h1.2.1) oM oM oM) (kZ (aL J J .here (oC (by first|omega|(simp;omega))) (by simp[eqV,kindEq,aB]) (cL (j:=l2.length*i+ww+1) J J oM oM (kZ (W7 J J .h1 (by first|omega|(simp;done)|(simp[cU];omega)|(simp;omega)) (Q0 (Z1 (W0 (rI ?_))))))))))))))))))))))))));refine kM J (aW J J oM (kM J (Q0 (W0 ?_))));exact⟨rfl,_,_,_,(show l1.length-(i+1)<l1.length-i from oM),lL,(.q (.q (.q (.q .slnil)))),⟨i+1,_,rfl,rfl,rfl,oM,(by simp[hO]),(wL hQ oM (by rw[MP hk2,BD oM oM,Ar,Int.mul_one]) (fun t h=>Rq h))⟩⟩
   ·refine Q0 (U0 J (Y4 (Z2 (Z2 (Q3 (W0 (rS (kM J (kM J (kM J (Q0 (V2 (Y6 (W3 ?_))))))))))))))
    have hil:i=l1.length:=oM
    subst hil;have hfin:=wM hQ (fun t ht=>by
     rw[MP hk2];refine wN (fun i9 y9 hy9 ht9 hi9=>?_);rw[As (fun q=>ht ⟨i9,oM,by rw[ht9,q]⟩),Int.mul_zero])
    exact kK J J (.cons _ (.q (.cons _ (.cons _ .slnil)))) ⟨b3,by rw[Tx hk2],by rw[<-hfin]⟩
  ·refine kM J (Q0 (U0 J (rS (kO (bJ J J (fun h15=>?_) (fun h15=>?_))))))
   ·have hk3:=h15
    refine kM J (Q0 (Y0 J (rS (aK J (aO J .h2 J (kO (Z4 J J (fun s1 h1=>Bf _ _ _ _ s1 h1.wf oM (hl2.ext hs h1.2.1) hp2) (fun v1 A1 q1=>?_))))))));obtain⟨b16,rfl,rfl⟩:=q1;refine kM J (eP J J (eP J J (kM J (kM J (Q0 (rQ (rS (kM J (Q0 (W1 (U4 (fun j e A=>∃(y:Nat) (O:List Int),e=[(2,.pointer (some ⟨b1,0,none⟩)),(3,.pointer (some ⟨b2,0,none⟩)),(6,.slice (some ⟨b3,0,none⟩) (l2.length*l1.length+1) (l2.length*l1.length+1)),(14,.slice (some ⟨b16,0,none⟩) l2.length l2.length),(16,.int .i64 (y:Int))]/\A=(.row b16 3 false (ints (fI l2))::(.row b3 3 false (ints O)::(.row b2 59 false ([.int .i64 wk,.int .i64 (ws:Int),.int .i64 (ww:Int)])::(.row b1 33 false ([.int .i64 d,.int .i64 r,.slice a1 l1.length c1,.slice a2 l2.length c2,.int .i64 al,.int .i64 up])::[]))))/\j=l2.length-y/\y<=l2.length/\O.length=l2.length*l1.length+1/\BL O (eR wk ws ww l1 l2) (P3 l2.length ws y)) 400 0 281474976710656 ?_ (j:=_) (env2:=_) (A2:=_) ?_ ?_ ?_ ?_ ⟨0,List.replicate (l2.length*l1.length+1) 0,rfl,rfl,rfl,oM,sM,(rK wO (fun t h=>by obtain⟨_,h1,_⟩:=h;omega))⟩)))))))))))
    rotate_left
    ·omega
    ·omega
    ·exact lL
    ·exact(.q (.q (.q (.q .slnil))))
    rintro n hn j _ _ ⟨y,O,rfl,rfl,rfl,hi,hO,hQ⟩;refine rQ (rS (kM J (kM J (kO (cO J (cX J J (fun h17=>?_) (fun h17=>?_)))))))
    ·have hj9:=rL (n:=l2.length) (m:=l1.length) (i:=ws) (y:=y) oM oM
     have hc9:((l2.length*ws:Nat):Int)=(ws:Int)*(l2.length:Int):=by rw[Int.natCast_mul,Int.mul_comm]
     refine Q0 (Y0 J (Q1 (W0 (rQ (W1 (rI (kM J (cI J dE .h3 J (aK J (aO J .h2 J (kM J (kM J (kM J (cL (j:=y) J J oM oM (kO (eD J .here (by first|omega|(simp;done)|(simp;omega)) (aI J J (fun s1 h1=>mH _ _ _ _ _ _ _ _ _ _ _ _ _ s1 h1.wf oM (hl1.ext hs h1.2.1) (hl2.ext hs h1.2.1) oM oM oM) (kZ (aL J J .here (oC (by first|omega|(simp;omega))) (by simp[eqV,kindEq,aB]) (cL (j:=l2.length*ws+y+1) J J oM oM (kZ (W7 J J .h1 (by first|omega|(simp;done)|(simp[cU];omega)|(simp;omega)) (Q0 (Z1 (W0 (rI ?_))))))))))))))))))))))))));refine kM J (aW J J oM (kM J (Q0 (W0 ?_))));exact⟨rfl,_,_,_,(show l2.length-(y+1)<l2.length-y from oM),lL,(.q (.q (.q (.q .slnil)))),⟨y+1,_,rfl,rfl,rfl,oM,(by simp[hO]),(wL hQ oM (by rw[MQ hk3,BD oM oM,Ar,Int.one_mul]) (fun t h=>Rr h))⟩⟩
    ·refine Q0 (U0 J (Y4 (Z2 (Z2 (Q3 (W0 (rS (kM J (kM J (kM J (Q0 (V2 (Y6 (W3 ?_))))))))))))))
     have hil:y=l2.length:=oM
     subst hil;have hfin:=wM hQ (fun t ht=>by
      rw[MQ hk3];refine wN (fun i9 y9 hy9 ht9 hi9=>?_);rw[As (fun q=>ht ⟨y9,oM,by rw[ht9,q]⟩),Int.zero_mul])
     exact kK J J (.cons _ (.q (.cons _ (.cons _ .slnil)))) ⟨b3,by rw[Ty hk3],by rw[<-hfin]⟩
   ·have hk4:wk=4:=oM
    have hj9:=rL (n:=l2.length) (m:=l1.length) (i:=ws) (y:=ww) oM oM;have hc9:((l2.length*ws:Nat):Int)=(ws:Int)*(l2.length:Int):=by rw[Int.natCast_mul,Int.mul_comm]
    refine kM J (Q0 (U0 J (Q1 (Z1 (W0 (rS (kM J (cI J dE .h2 J (aK J (aO J .h1 J (aK J (aO J .h1 J (aI J J (fun s1 h1=>mH _ _ _ _ _ _ _ _ _ _ _ _ _ s1 h1.wf oM (hl1.ext hs h1.2.1) (hl2.ext hs h1.2.1) oM oM oM) (cL (j:=l2.length*ws+ww+1) J J oM oM (kZ (W7 J J .here (by first|omega|(simp;done)|(simp[cU];omega)|(simp;omega)) (Q0 (rS (kM J (kM J (kM J (Q0 (V2 ?_)))))))))))))))))))))));have hfin:=wM (P:=fun t=>t=l2.length*ws+ww+1) (wL (v:=1) (rK (P:=fun _=>False) wO (fun _ h=>h)) (by first|(simp;done)|(simp;omega)) (by rw[MR hk4,BD oM oM,Ar,Ar];first|done|rfl) (fun t h=> .inr h)) (fun t ht=>by
     rw[MR hk4];refine wN (fun i9 y9 hy9 ht9 hi9=>?_);by_cases q1:i9=ws
     ·by_cases q2:y9=ww
      ·subst q1;subst q2;exact absurd ht9 ht
      ·rw[As q2,Int.mul_zero]
     ·rw[As q1,Int.zero_mul])
    exact kK J J (.q (.cons _ (.cons _ .slnil))) ⟨b3,by rw[Tz hk4],by rw[<-hfin]⟩
end
variable{n:Nat}
def hv(M:List (List Int))(n N u:Nat):Int:=(hpt M n N).getD u 0
theorem HU{M:List (List Int)}{n N:Nat}:hv M n N 0=0:=rfl
theorem HV{M:List (List Int)}{n N w:Nat}(h:w<N):hv M n N (w+1)=(M.getD (w / n) []).getD (w % n) 0:=by unfold hv;rw[Rk h];rfl
theorem EE{M:List (List Int)}{n m u:Nat}(hn:0<n)(hm:M.length=m)(h:gA n M=true):0<=hv M n (n*m) u/\hv M n (n*m) u<=20000:=by
 cases u with
 |zero=>rw[HU];decide
 |succ w=>
  by_cases hw:w<n*m
  ·have h1:w / n<m:=Nat.div_lt_of_lt_mul hw
   have h2:w % n<n:=Nat.mod_lt _ hn;obtain⟨h3,h4⟩:=Aq h (k:=w / n) oM;have h5:=xS h4 (k:=w % n) oM;rw[HV hw];exact h5
  ·unfold hv
   rw[mI (by rw[lF];omega)];decide
section
variable{X:FuncId->List Value->St->(Value->St->Bool)->Bool}
theorem Cq(n:Nat)(d r al up:Int)(a1 a2:Option Addr)(c1 c2:Nat)(l1 l2:List Int)(a:Option Addr)(cap:Nat)(M:List (List Int))(s:St)(hs:Wf s)(hn:844424930131968<=n)(hl1:aN s a1 l1)(hl2:aN s a2 l2)(hT:pI s a M):bS Tryz.prog (bX bZ) X (n+1000) 75 [.agg ⟨[.int .i64 d,.int .i64 r,.slice a1 l1.length c1,.slice a2 l2.length c2,.int .i64 al,.int .i64 up]⟩,.agg ⟨[.slice a M.length cap]⟩] s (fun v A=>v = .bool (decide (M.length=l1.length) && gA l2.length M)/\A=[]):=by
 refine enter Qv rfl hs ?_;unfold Pj;have hlen1:=hl1.len;have hlen2:=hl2.len;have hlenT:=hT.len;refine rS (aZ J J J (fun b1=>(aZ J J J (fun b2=>(kM J (Q0 (rQ (rS (aK J (aO J .here rfl (aJ J (by first|exact hT.spot|exact hli.spot|exact hl1.spot|exact hl2.spot) (aK J (aO J .h1 J (aJ J hl1.spot (kO (V3 J J (fun h3=>?_) (fun h3=>?_)))))))))))))))))
 ·refine Q0 (Y0 J (rS (kM J (Q0 (V2 (W3 (aU J ⟨congrArg Value.bool ?_,rfl⟩)))))))
  first
   |(rw[decide_eq_false oM];rfl)
   |(rw[mJ oM hi oM];simp;done)
   |(rw[mK oM hi (iH oM hi2 oM)];simp;done)
   |(rw[decide_eq_true oM,pC hi oM];rfl)
 ·refine Q0 (U0 J (Q1 (W0 (rQ (rS (kM J (Q0 (W1 (U4 (fun j e A=>∃(k:Nat),e=[(2,.pointer (some ⟨b1,0,none⟩)),(3,.pointer (some ⟨b2,0,none⟩)),(5,.int .i64 (k:Int))]/\A=(.row b2 69 false ([.slice a M.length cap])::(.row b1 33 false ([.int .i64 d,.int .i64 r,.slice a1 l1.length c1,.slice a2 l2.length c2,.int .i64 al,.int .i64 up])::[]))/\j=M.length-k/\k<=M.length/\gA l2.length M=gA l2.length (M.drop k)) 600 281474976710656 281474976710656 ?_ (j:=_) (env2:=_) (A2:=_) ?_ ?_ ?_ ?_ ⟨0,rfl,rfl,rfl,Nat.zero_le _,rfl⟩)))))))))
  rotate_left
  ·omega
  ·omega
  ·exact lL
  ·exact(.q (.q .slnil))
  rintro n hn j _ _ ⟨k,rfl,rfl,rfl,hk,hi⟩;refine rQ (rS (kM J (aK J (aO J .here rfl (aJ J (by first|exact hT.spot|exact hli.spot|exact hl1.spot|exact hl2.spot) (cX J J (fun h4=>?_) (fun h4=>?_)))))))
  ·obtain⟨q8,o8,ai,ci,ahT,hat8,hli⟩:=hT.row k oM
   have hlli:=hli.len;refine Q0 (Y0 J (Q1 (W0 (rQ (W1 (rQ (rS (aK J (aO J .here rfl (kM J (kO (cM (j:=k) ahT rfl rfl (by first|rfl|omega) (by first|decide|omega) (kO (W6 J aM (aJ J hli.spot (aK J (aO J .h1 J (aJ J hl2.spot (kO (V3 J J (fun h5=>?_) (fun h5=>?_)))))))))))))))))))))
   ·refine Q0 (Y0 J (rS (kM J (Q0 (V2 (W3 (Y6 (W3 (W3 (Y6 (W3 (aU J ⟨congrArg Value.bool ?_,rfl⟩))))))))))))
    first
     |(rw[decide_eq_false oM];rfl)
     |(rw[mJ oM hi oM];simp;done)
     |(rw[mK oM hi (iH oM hi2 oM)];simp;done)
     |(rw[decide_eq_true oM,pC hi oM];rfl)
   ·refine Q0 (U0 J (Q1 (W0 (rS (kM J (Q0 (W1 (U4 (fun j e A=>∃(w:Nat),e=[(2,.pointer (some ⟨b1,0,none⟩)),(3,.pointer (some ⟨b2,0,none⟩)),(5,.int .i64 (k:Int)),(6,.int .i64 (w:Int))]/\A=(.row b2 69 false ([.slice a M.length cap])::(.row b1 33 false ([.int .i64 d,.int .i64 r,.slice a1 l1.length c1,.slice a2 l2.length c2,.int .i64 al,.int .i64 up])::[]))/\j=(M.getD k []).length-w/\w<=(M.getD k []).length/\jQ 0 20000 (M.getD k [])=jQ 0 20000 ((M.getD k []).drop w)) 300 0 281474976710656 ?_ (j:=_) (env2:=_) (A2:=_) ?_ ?_ ?_ ?_ ⟨0,rfl,rfl,rfl,Nat.zero_le _,rfl⟩))))))))
    rotate_left
    ·omega
    ·omega
    ·exact lL
    ·exact(.q (.q .slnil))
    rintro n hn j _ _ ⟨w,rfl,rfl,rfl,hw,hi2⟩;refine rQ (rS (kM J (aK J (aO J .here rfl (kM J (kO (cM (j:=k) ahT rfl rfl (by first|rfl|omega) (by first|decide|omega) (kO (W6 J aM (aJ J hli.spot (cX J J (fun h6=>?_) (fun h6=>?_))))))))))))
    ·refine Q0 (Y0 J (Q1 (W0 (rQ (W1 (rS (aK J (aO J .here rfl (kM J (kO (cM (j:=k) ahT rfl rfl (by first|rfl|omega) (by first|decide|omega) (kO (W6 J aM (kM J (kO (Q7 (j:=w) hli rfl rfl oM (by first|rfl|omega) oM (fun _ _ a7=>(kO (W6 J (hli.at a7 oM) (kO (bE J J (fun s1 h1=>sT _ _ _ _ s1 h1.wf) (fun h8=>?_) (fun h8=>?_))))))))))))))))))))))
     ·refine eC J (Q0 (U0 J (Q1 (Z1 (W0 (rI (kM J (aW J J oM (kM J (Q0 (W0 ?_)))))))))))
      exact⟨rfl,_,_,_,(show(M.getD k []).length-(w+1)<(M.getD k []).length-w from oM),lL,(.q (.q .slnil)),⟨w+1,rfl,rfl,rfl,oM,tN oM hi2 oM⟩⟩
     ·refine eC J (Q0 (Y0 J (rS (kM J (Q0 (V2 (Y6 (W3 (W3 (Y6 (Y6 (W3 (W3 (Y6 (W3 (aU J ⟨congrArg Value.bool ?_,rfl⟩))))))))))))))))
      first
       |(rw[decide_eq_false oM];rfl)
       |(rw[mJ oM hi oM];simp;done)
       |(rw[mK oM hi (iH oM hi2 oM)];simp;done)
       |(rw[decide_eq_true oM,pC hi oM];rfl)
    ·refine Q0 (U0 J (Y4 (Z2 (Z2 (Q3 (Z1 (W0 (rI (kM J (aW J J oM (kM J (Q0 (W0 ?_)))))))))))))
     exact⟨rfl,_,_,_,(show M.length-(k+1)<M.length-k from oM),lL,(.q (.q .slnil)),⟨k+1,rfl,rfl,rfl,oM,Ez oM hi oM (lA hi2 oM)⟩⟩
  ·refine Q0 (U0 J (Y4 (Z2 (Z2 (Q3 (W0 (rS (kM J (Q0 (V2 (aU J ⟨congrArg Value.bool ?_,rfl⟩)))))))))))
   first
    |(rw[decide_eq_false oM];rfl)
    |(rw[mJ oM hi oM];simp;done)
    |(rw[mK oM hi (iH oM hi2 oM)];simp;done)
    |(rw[decide_eq_true oM,pC hi oM];rfl)
theorem qC(n:Nat)(d r al up:Int)(a1 a2:Option Addr)(c1 c2:Nat)(l1 l2:List Int)(a:Option Addr)(cap:Nat)(M:List (List Int))(u:Nat)(s:St)(hs:Wf s)(hn:844424930131968<=n)(hl1:aN s a1 l1)(hl2:aN s a2 l2)(hT:pI s a M)(hTl:M.length=l1.length)(hall:gA l2.length M=true)(hm2:1<=l2.length/\l2.length<=9)(hm1:l1.length<=9)(hu:u<=l2.length*l1.length):bS Tryz.prog (bX bZ) X (n+100) 78 [.agg ⟨[.int .i64 d,.int .i64 r,.slice a1 l1.length c1,.slice a2 l2.length c2,.int .i64 al,.int .i64 up]⟩,.agg ⟨[.slice a M.length cap]⟩,.int .i64 (u:Int)] s (fun v A=>v = .int .i64 (hv M l2.length (l2.length*l1.length) u)/\A=[]):=by
 refine enter Qy rfl hs ?_;unfold Pq;have hlen1:=hl1.len;have hlen2:=hl2.len;have hlenT:=hT.len;have hN9:l2.length*l1.length<=81:=Nat.le_trans (Nat.mul_le_mul hm2.2 hm1) dE;refine rS (aZ J J J (fun b1=>(aZ J J J (fun b2=>(kM J (Q0 (rQ (rS (kM J (kO (bJ J J (fun h3=>?_) (fun h3=>?_))))))))))))
 ·refine Q0 (Y0 J (rS (kM J (Q0 (V2 (W3 ?_))))))
  exact aU J ⟨by rw[show u=0 from oM];rfl,rfl⟩
 ·obtain⟨w,rfl⟩:∃w,u=w+1:=⟨u-1,oM⟩
  have hwd:w / l2.length<l1.length:=Nat.div_lt_of_lt_mul oM;have hwm:w % l2.length<l2.length:=Nat.mod_lt _ oM;have hwr:=(Aq hall (k:=w / l2.length) oM).1;obtain⟨q8,o8,ai,ci,ahT,hat8,hli⟩:=hT.row (w / l2.length) oM;have hlli:=hli.len;refine Q0 (U0 J (Q1 (W0 (rS (aK J (aO J .here rfl (kM J (kO (bN J J oM ?_)))))))));rw[show((w+1:Nat):Int)-1=(w:Int) from oM];refine aK J (aO J .h1 J (aJ J hl2.spot (kO (pU J J oM (by rw[<-Int.ofNat_tdiv];have:=Nat.div_le_self w l2.length;have:=Int.natCast_nonneg (w / l2.length);omega) ?_))));rw[<-Int.ofNat_tdiv];refine kO (cM (j:=(w / l2.length)) ahT rfl rfl (by first|rfl|omega) (by first|decide|omega) (kO (W6 J aM (kM J (kO (bN J J oM ?_))))));rw[show((w+1:Nat):Int)-1=(w:Int) from oM];refine aK J (aO J .h1 J (aJ J hl2.spot (kO (vZ J J oM ?_))));rw[<-Int.ofNat_tmod];refine kO (Q7 (j:=(w % l2.length)) hli rfl rfl oM (by first|rfl|omega) oM (fun _ _ a4=>(kO (W6 J (hli.at a4 oM) (kM J (Q0 (V2 ?_)))))));exact aU J ⟨by rw[HV (show w<l2.length*l1.length from oM)],rfl⟩
end
end Ev
end Go.Proofs.YtjkdkpckjgaplaaGreat
