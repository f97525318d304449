import Derived.Test.YtjkdkpckjgaplaaGreatZi13
import Derived.Test.YtjkdkpckjgaplaaGreatZi14
import Derived.Test.YtjkdkpckjgaplaaGreatZi08
set_option linter.unusedVariables false
set_option linter.unusedSimpArgs false
namespace Go.Proofs.YtjkdkpckjgaplaaGreat
open Go Go.RowKit
namespace Ev
variable{m r al up:Int}{l1 l2:List Int}{rs cs:List (List Int)}
theorem Tl{l r:List (List Int)}:nP m (l++r)=(nP m l && nP m r):=by
 induction l with
 |nil=>rfl
 |cons a l ih=>
  match a with
  |[y0,y1,y2,y3]=>
   show(decide _ && nP m (l++r))=((decide _ && nP m l) && nP m r);rw[ih,Bool.and_assoc]
  |[]=>rfl
  |[_]=>rfl
  |[_,_]=>rfl
  |[_,_,_]=>rfl
  |_::_::_::_::_::_=>rfl
def LV(m:Int)(L:List (List Int)):Prop:=nP m L=true
theorem LV.nil:LV m []:=rfl
theorem LV.app{L M:List (List Int)}(h:LV m L)(k:LV m M):LV m (L++M):=by
 unfold LV at *;rw[Tl,h,k];rfl
theorem LV.acc{m:Int}{X:List (List Int)}{f:Nat->List (List Int)}(hX:LV m X):∀t,(∀k,k<t->LV m (f k))->LV m (acc X f t)
 |0,_=>hX
 |t+1,h=>(LV.acc hX t (fun k hk=>h k oM)).app (h t oM)
theorem LV.lm{m a b m1 m2 y:Int}(hm:0<=m/\m<=64)(ha:0<=a/\a<=m)(hb:0<=b/\b<=m)(hab:¬a=b)(h1:-20000<=m1/\m1<=20000)(h2:-20000<=m2/\m2<=20000)(hy:1<=y/\y<=99999):LV m (mY a b m1 m2 y):=by
 show(decide _ && (decide _ && true))=true;rw[decide_eq_true ⟨hm,ha,hb,hab,h1,hy⟩,decide_eq_true ⟨hm,hb,ha,fun e=>hab e.symm,h2,hy⟩];rfl
def NN(L:List (List Int)):Prop:=∀r∈L,0<=r.getD 2 0
theorem NN.nil:NN []:=fun _ h=>(by cases h)
theorem NN.app{L M:List (List Int)}(h:NN L)(k:NN M):NN (L++M):=fun r hr=>(List.mem_append.1 hr).elim (h r) (k r)
theorem NN.acc{X:List (List Int)}{f:Nat->List (List Int)}(hX:NN X):∀t,(∀k,k<t->NN (f k))->NN (acc X f t)
 |0,_=>hX
 |t+1,h=>(NN.acc hX t (fun k hk=>h k oM)).app (h t oM)
theorem NN.lm{a b m1 m2 y:Int}(h1:0<=m1)(h2:0<=m2):NN (mY a b m1 m2 y):=fun r hr=>by
 rcases List.mem_cons.1 hr with rfl|hr
 ·exact h1
 ·rw[List.mem_singleton.1 hr];exact h2
theorem Et{s:St}{a4:Option Addr}(hsr:1<=r/\r<=99999)(hsa:0<=al/\al<=100000)(hsu:0<=up/\up<=100000)(hpl:bW l1 l2=true)(hcpb:pZ cs=true)(hc:RowsE s 6 a4 cs)(hm:m=(l1.length:Int)*(l2.length:Int)+((dys rs).length:Int))(hm64:m<=64):LV m (Sv.b5 (Sv.mk r al up l1 l2 rs cs) 0)/\NN (Sv.b5 (Sv.mk r al up l1 l2 rs cs) 0)/\∀i,i<=cs.length->LV m (Sv.b5 (Sv.mk r al up l1 l2 rs cs) i):=by
 have hp1:=fG hpl;have hp2:=fR hpl;have hm1:=hp1.hm;have hm2:(l2.length:Int)<=7:=Ek hpl;have h22:=hp2.h2;have hM:=gC (x:=(l1.length:Int)) (y:=(l2.length:Int)) oM oM;have hNM:((l2.length*l1.length:Nat):Int)=(l1.length:Int)*(l2.length:Int):=by rw[Int.natCast_mul,Int.mul_comm]
 have hmm:0<=m/\m<=64:=oM
 have hk9:∀k,k<l2.length*l1.length->k / l2.length<l1.length:=fun k hk=>Nat.div_lt_of_lt_mul hk
 have hkn:∀k,k % l2.length<l2.length:=fun k=>Nat.mod_lt _ oM
 have hsp:∀k,k<l2.length*l1.length->∃i w,w<l2.length/\i<l1.length/\k=l2.length*i+w:=fun k hk=>⟨k / l2.length,k % l2.length,hkn k,hk9 k hk,(Nat.div_add_mod k l2.length).symm⟩
 have q1:∀k,k<l2.length*l1.length->LV m (Sv.q1 (Sv.mk r al up l1 l2 rs cs) k)/\NN (Sv.q1 (Sv.mk r al up l1 l2 rs cs) k):=fun k hk=>⟨LV.lm hmm oM oM oM oM oM hsr,NN.lm oM oM⟩
 have q2:∀k,k<l2.length*l1.length->LV m (Sv.q2 (Sv.mk r al up l1 l2 rs cs) k)/\NN (Sv.q2 (Sv.mk r al up l1 l2 rs cs) k):=fun k hk=>by
  obtain⟨i,w,hw,hi,rfl⟩:=hsp k hk;by_cases hq:(i:Int)+1<(l1.length:Int)
  ·rw[Sv.q2_yes (y:=(Sv.mk r al up l1 l2 rs cs)) hw hq]
   have z0:=hp1.lo i;have z1:=hp1.lo (i+1);have z2:=hp1.rise i oM;have hb:=C3 (r:=al) (d:=l1.getD (i+1) 0-l1.getD i 0) hsa oM;have e1:1+((i:Int)+1)*(l2.length:Int)+(w:Int)=((l2.length*(i+1)+w:Nat):Int)+1:=by
    rw[Int.natCast_add,Int.natCast_mul,Int.mul_comm (l2.length:Int)];have:((i+1:Nat):Int)=(i:Int)+1:=rfl;rw[this];omega
   have e2:l2.length*(i+1)+w<l2.length*l1.length:=by
    have:=Nat.mul_le_mul_left l2.length (show i+2<=l1.length from oM);rw[show i+2=i+1+1 from rfl,Nat.mul_add l2.length (i+1),Nat.mul_one] at this;omega
   have e3:l2.length*(i+1)=l2.length*i+l2.length:=by rw[Nat.mul_add,Nat.mul_one]
   exact⟨LV.lm hmm (by show 0<=((l2.length*i+w:Nat):Int)+1/\((l2.length*i+w:Nat):Int)+1<=m;omega) (by show 0<=1+((i:Int)+1)*(l2.length:Int)+(w:Int)/\1+((i:Int)+1)*(l2.length:Int)+(w:Int)<=m;omega) (by show ¬((l2.length*i+w:Nat):Int)+1=1+((i:Int)+1)*(l2.length:Int)+(w:Int);omega) (by show _<=wE al (l1.getD (i+1) 0-l1.getD i 0)/\wE al (l1.getD (i+1) 0-l1.getD i 0)<=_;omega) (by show _<=wE al (l1.getD (i+1) 0-l1.getD i 0)/\wE al (l1.getD (i+1) 0-l1.getD i 0)<=_;omega) hsr,NN.lm hb.1 hb.1⟩
  ·rw[Sv.q2_no (y:=(Sv.mk r al up l1 l2 rs cs)) hw hq];exact⟨LV.nil,NN.nil⟩
 have q3:∀k,k<l2.length*l1.length->LV m (Sv.q3 (Sv.mk r al up l1 l2 rs cs) k)/\NN (Sv.q3 (Sv.mk r al up l1 l2 rs cs) k):=fun k hk=>by
  obtain⟨i,w,hw,hi,rfl⟩:=hsp k hk;by_cases hq:(w:Int)+1<(l2.length:Int)
  ·rw[Sv.q3_yes (y:=(Sv.mk r al up l1 l2 rs cs)) hw hq]
   have z0:=hp2.lo w;have z1:=hp2.lo (w+1);have z2:=hp2.rise w oM;have hb:=C3 (r:=up) (d:=l2.getD (w+1) 0-l2.getD w 0) hsu oM;have e1:1+(i:Int)*(l2.length:Int)+((w:Int)+1)=((l2.length*i+(w+1):Nat):Int)+1:=by
    rw[Int.natCast_add,Int.natCast_mul,Int.mul_comm (l2.length:Int)];have:((w+1:Nat):Int)=(w:Int)+1:=rfl;rw[this];omega
   have e2:l2.length*i+(w+1)<l2.length*l1.length:=by
    have:=Nat.mul_le_mul_left l2.length (show i+1<=l1.length from oM);rw[Nat.mul_add,Nat.mul_one] at this;omega
   exact⟨LV.lm hmm (by show 0<=((l2.length*i+w:Nat):Int)+1/\((l2.length*i+w:Nat):Int)+1<=m;omega) (by show 0<=1+(i:Int)*(l2.length:Int)+((w:Int)+1)/\1+(i:Int)*(l2.length:Int)+((w:Int)+1)<=m;omega) (by show ¬((l2.length*i+w:Nat):Int)+1=1+(i:Int)*(l2.length:Int)+((w:Int)+1);omega) (by show _<=wE up (l2.getD (w+1) 0-l2.getD w 0)/\wE up (l2.getD (w+1) 0-l2.getD w 0)<=_;omega) (by show _<=wE up (l2.getD (w+1) 0-l2.getD w 0)/\wE up (l2.getD (w+1) 0-l2.getD w 0)<=_;omega) hsr,NN.lm hb.1 hb.1⟩
  ·rw[Sv.q3_no (y:=(Sv.mk r al up l1 l2 rs cs)) hw hq];exact⟨LV.nil,NN.nil⟩
 have q4:∀k,k<(dys rs).length->LV m (Sv.q4 (Sv.mk r al up l1 l2 rs cs) k)/\NN (Sv.q4 (Sv.mk r al up l1 l2 rs cs) k):=fun k hk=>⟨LV.lm hmm oM (show 0<=(l1.length:Int)*(l2.length:Int)+1+(k:Int)/\(l1.length:Int)*(l2.length:Int)+1+(k:Int)<=m from oM) (show ¬(0:Int)=(l1.length:Int)*(l2.length:Int)+1+(k:Int) from oM) oM oM hsr,NN.lm oM oM⟩
 have e4:LV m (Sv.b5 (Sv.mk r al up l1 l2 rs cs) 0):=(((LV.nil.acc _ (fun k hk=>(q1 k hk).1)).acc _ (fun k hk=>(q2 k hk).1)).acc _ (fun k hk=>(q3 k hk).1)).acc _ (fun k hk=>(q4 k hk).1);refine⟨e4,(((NN.nil.acc _ (fun k hk=>(q1 k hk).2)).acc _ (fun k hk=>(q2 k hk).2)).acc _ (fun k hk=>(q3 k hk).2)).acc _ (fun k hk=>(q4 k hk).2),?_⟩;intro i
 induction i with
 |zero=>intro _;exact e4
 |succ i ih=>
  intro hi;refine LV.acc (ih oM) (dys rs).length (fun k hk=>?_);obtain⟨_,_,z0,z1,z2,z3,z4,z5,_,hz,_,j0,j1,j2,j3,j4,j5⟩:=hc.row6 (k:=i) oM;have hcd:=uS hcpb hz;have hz':cs.getD i []=[z0,z1,z2,z3,z4,z5]:=Sv.getD_of hz;unfold Sv.q5;split
  ·show LV m (mY 0 ((l1.length:Int)*(l2.length:Int)+1+(k:Int)) (-(cs.getD i []).getD 4 0) ((cs.getD i []).getD 5 0) ((cs.getD i []).getD 0 0))
   rw[hz'];exact LV.lm hmm oM oM oM (show _<=-z4/\-z4<=_ from oM) (show _<=z5/\z5<=_ from oM) (show _<=z0/\z0<=_ from oM)
  ·exact LV.nil
theorem nG{X:List (List Int)}{f:Nat->List (List Int)}{r:List Int}(h:r∈X):∀t,r∈acc X f t
 |0=>h
 |t+1=>List.mem_append_left _ (nG h t)
theorem wH{X:List (List Int)}{f:Nat->List (List Int)}{r:List Int}{k:Nat}(h:r∈f k):∀t,k<t->r∈acc X f t
 |0,hk=>absurd hk (Nat.not_lt_zero k)
 |t+1,hk=>by
  by_cases e:k=t
  ·subst e;exact List.mem_append_right _ h
  ·exact List.mem_append_left _ (wH h t oM)
theorem Br{y:Sv}{r:List Int}(h:r∈Sv.b5 y 0):∀i,r∈Sv.b5 y i
 |0=>h
 |i+1=>nG (Br h i) _
theorem HF{M:Nat}(hM:M=l1.length*l2.length+(dys rs).length)(i:Nat):QV (Sv.b5 (Sv.mk r al up l1 l2 rs cs) i) (M+1):=by
 have at_:∀{x:List Int},x∈Sv.b5 (Sv.mk r al up l1 l2 rs cs) i->∃k,k<(Sv.b5 (Sv.mk r al up l1 l2 rs cs) i).length/\(Sv.b5 (Sv.mk r al up l1 l2 rs cs) i)[k]? = some x:=fun h=>by
  obtain⟨k,hk,e⟩:=List.mem_iff_getElem.1 h;exact⟨k,hk,by rw[List.getElem?_eq_getElem hk,e]⟩
 intro u h0 hu;have key:∃y1 y2 z1 z2:Int,[0,(u:Int),y1,z1]∈Sv.b5 (Sv.mk r al up l1 l2 rs cs) i/\[(u:Int),0,y2,z2]∈Sv.b5 (Sv.mk r al up l1 l2 rs cs) i:=by
  by_cases c:u<=l1.length*l2.length
  ·have hk:u-1<l2.length*l1.length:=by rw[Nat.mul_comm];omega
   have e:((u-1:Nat):Int)+1=(u:Int):=oM
   have m1:[0,(u:Int),20000,r]∈Sv.q1 (Sv.mk r al up l1 l2 rs cs) (u-1):=by unfold Sv.q1 mY;rw[e];exact List.mem_cons_self ..
   have m2:[(u:Int),0,0,r]∈Sv.q1 (Sv.mk r al up l1 l2 rs cs) (u-1):=by unfold Sv.q1 mY;rw[e];exact List.mem_cons_of_mem _ (List.mem_cons_self ..)
   exact⟨_,_,_,_,Br (nG (nG (nG (wH m1 _ hk) _) _) _) i,Br (nG (nG (nG (wH m2 _ hk) _) _) _) i⟩
  ·have hk:u-1-l1.length*l2.length<(dys rs).length:=oM
   have e:Sv.M (Sv.mk r al up l1 l2 rs cs)+1+((u-1-l1.length*l2.length:Nat):Int)=(u:Int):=by
    show(l1.length:Int)*(l2.length:Int)+1+_=_;have:((l1.length*l2.length:Nat):Int)=(l1.length:Int)*(l2.length:Int):=Int.natCast_mul ..;omega
   have m1:[0,(u:Int),1000,r]∈Sv.q4 (Sv.mk r al up l1 l2 rs cs) (u-1-l1.length*l2.length):=by unfold Sv.q4 mY;rw[e];exact List.mem_cons_self ..
   have m2:[(u:Int),0,1000,r]∈Sv.q4 (Sv.mk r al up l1 l2 rs cs) (u-1-l1.length*l2.length):=by unfold Sv.q4 mY;rw[e];exact List.mem_cons_of_mem _ (List.mem_cons_self ..)
   exact⟨_,_,_,_,Br (wH m1 _ hk) i,Br (wH m2 _ hk) i⟩
 obtain⟨y1,y2,z1,z2,k1,k2⟩:=key;obtain⟨p,p1,p2⟩:=at_ k1;obtain⟨q,q1,q2⟩:=at_ k2;exact⟨⟨p,p1,_,_,p2⟩,⟨q,q1,_,_,q2⟩⟩
/-! Where no limit is below 0, no way is. -/
def Nn(T:Nat->Nat->Int):Prop:=∀a b,0<=T a b
theorem Tm{T:Nat->Nat->Int}{m i k:Nat}(h:Nn T):Nn (RS T m i k):=fun a b=>by
 rw[yA];split
 ·have:=h i k;have:=h i m;have:=h m k;omega
 ·exact h a b
theorem RT{T:Nat->Nat->Int}{m i:Nat}(h:Nn T):∀k,Nn (kT T m i k)
 |0=>h
 |k+1=>Tm (RT h k)
theorem RV{T:Nat->Nat->Int}{N m:Nat}(h:Nn T):∀i,Nn (iT T N m i)
 |0=>h
 |i+1=>RT (RV h i) N
theorem RW{T:Nat->Nat->Int}{N:Nat}(h:Nn T):∀m,Nn (mT T N m)
 |0=>h
 |m+1=>RV (RW h m) N
theorem HG{ls:List (List Int)}(h:NN ls):∀k,k<=ls.length->Nn (rW ls k)
 |0,_=>fun a b=>by show 0<=T0 a b;unfold T0;split <;> omega
 |k+1,hk=>fun a b=>by
  have ih:=HG h k oM;have hr:0<=(ls.getD k []).getD 2 0:=by
   rw[List.getD_eq_getElem?_getD (l:=ls),List.getElem?_eq_getElem (show k<ls.length from oM)];exact h _ (List.getElem_mem _)
  show 0<=oP _ _ _ _ a b;unfold oP;split
  ·have:=ih ((ls.getD k []).getD 0 0).toNat ((ls.getD k []).getD 1 0).toNat;omega
  ·exact ih a b
theorem Mf{ls:List (List Int)}{N:Nat}(h:NN ls):IL (wm ls N N) N:=fun a _=>RW (HG h _ (Nat.le_refl _)) N a a
theorem Mg(h1:l1.length<=4)(h2:l2.length<=3)(h3:(dys rs).length<=14)(h4:cs.length<=5):(Sv.b5 (Sv.mk r al up l1 l2 rs cs) cs.length).length<=400:=by
 have key:∀(X:List (List Int)) (f:Nat->List (List Int)) (t:Nat),(∀k,(f k).length<=2)->(acc X f t).length<=X.length+2*t:=by
  intro X f t h
  induction t with
  |zero=>exact Nat.le_refl _
  |succ t ih=>show(acc X f t++f t).length<=_;rw[List.length_append];have:=h t;omega
 have hN:l2.length*l1.length<=12:=Nat.mul_le_mul h2 h1;have g1:=key [] (Sv.q1 (Sv.mk r al up l1 l2 rs cs)) (l2.length*l1.length) (fun k=>Nat.le_refl _);have g2:=key (Sv.b1 (Sv.mk r al up l1 l2 rs cs)) (Sv.q2 (Sv.mk r al up l1 l2 rs cs)) (l2.length*l1.length) (fun k=>by unfold Sv.q2;split;exact Nat.le_refl _;exact Nat.zero_le _);have g3:=key (Sv.b2 (Sv.mk r al up l1 l2 rs cs)) (Sv.q3 (Sv.mk r al up l1 l2 rs cs)) (l2.length*l1.length) (fun k=>by unfold Sv.q3;split;exact Nat.le_refl _;exact Nat.zero_le _);have g4:=key (Sv.b3 (Sv.mk r al up l1 l2 rs cs)) (Sv.q4 (Sv.mk r al up l1 l2 rs cs)) (dys rs).length (fun k=>Nat.le_refl _);have g5:∀i,(Sv.b5 (Sv.mk r al up l1 l2 rs cs) i).length<=(Sv.b5 (Sv.mk r al up l1 l2 rs cs) 0).length+28*i:=by
  intro i
  induction i with
  |zero=>exact Nat.le_refl _
  |succ i ih=>
   have:=key (Sv.b5 (Sv.mk r al up l1 l2 rs cs) i) (Sv.q5 (Sv.mk r al up l1 l2 rs cs) i) (dys rs).length (fun k=>by unfold Sv.q5;split;exact Nat.le_refl _;exact Nat.zero_le _);have e:Sv.b5 (Sv.mk r al up l1 l2 rs cs) (i+1)=acc (Sv.b5 (Sv.mk r al up l1 l2 rs cs) i) (Sv.q5 (Sv.mk r al up l1 l2 rs cs) i) (dys rs).length:=rfl;rw[e];omega
 have g7:=g5 cs.length;have c1:Sv.b1 (Sv.mk r al up l1 l2 rs cs)=acc [] (Sv.q1 (Sv.mk r al up l1 l2 rs cs)) (l2.length*l1.length):=rfl;have c2:Sv.b2 (Sv.mk r al up l1 l2 rs cs)=acc (Sv.b1 (Sv.mk r al up l1 l2 rs cs)) (Sv.q2 (Sv.mk r al up l1 l2 rs cs)) (l2.length*l1.length):=rfl;have c3:Sv.b3 (Sv.mk r al up l1 l2 rs cs)=acc (Sv.b2 (Sv.mk r al up l1 l2 rs cs)) (Sv.q3 (Sv.mk r al up l1 l2 rs cs)) (l2.length*l1.length):=rfl;have c4:Sv.b5 (Sv.mk r al up l1 l2 rs cs) 0=acc (Sv.b3 (Sv.mk r al up l1 l2 rs cs)) (Sv.q4 (Sv.mk r al up l1 l2 rs cs)) (dys rs).length:=rfl;rw[c1] at g2;rw[c2,c1] at g3;rw[c3,c2,c1] at g4;rw[c4,c3,c2,c1] at g7;simp only[List.length_nil] at g1;omega
section
variable{X:FuncId->List Value->St->(Value->St->Bool)->Bool}
end
end Ev
end Go.Proofs.YtjkdkpckjgaplaaGreat
namespace Go.Proofs.YtjkdkpckjgaplaaGreat.Ev
open Go Go.RowKit
variable{x:Ev.X}{b len e o c:Nat}{R:Value->List Ob->Prop}
section
variable{P:Program}{C:Nat->(CF->Bool)->Bool}{X:FuncId->List Value->St->(Value->St->Bool)->Bool}{nt:Nat}{r:Option Nat}{env:List (Nat×Value)}{D:List Nat}{Q:iL->List (Nat×Value)->List Nat->St->Prop}{s:St}
end
section
variable{P:Program}{C:Nat->(CF->Bool)->Bool}{X:FuncId->List Value->St->(Value->St->Bool)->Bool}{s0:St}{n nt:Nat}{r:Option Nat}{env:List (Nat×Value)}{D:List Nat}{A:List Ob}{Q:iL->List (Nat×Value)->List Nat->List Ob->Prop}
theorem HH{x y:Ev.X}{b off len cap b' off' n' c' e j:Nat}{op:Bool}{l more:List Value}{A':List Ob}(hx:xv env x=some (.slice (some ⟨b,off,none⟩) len cap))(hy:xv env y=some (.slice (some ⟨b',off',none⟩) n' c'))(hj:j=if n'<=len then n' else len)(h0:j≠0)(hm:more.length=j)
 (hr:(∃e op l,lK A b' e op l/\iA l off' more.length=some more)∨pR s0 b' off' more) (hu:oS A b e op l (over l off more) A') (hfit:off+j<=l.length) (h:R (.int .i64 (j:Int)) A'):fU P C X s0 n nt (.copy 1 x y) env A R:=.mk fun s hs T hT k hk=>by
 refine U5 hT (k:=fun x=>bQ T y (fun y=>uG s 1 x y k)) hx (U5 hT (k:=fun y=>uG s 1 _ y k) hy ?_);have hne:more≠[]:=fun q=>h0 (by rw[<-hm,q];rfl)
 have ha:pR s b' off' more:=by
  rcases hr with ⟨e,op,l,h3,h4⟩|h3
  ·exact(hs.own h3).ats (gO h4).2
  ·exact hs.ats h3
 have key:(fun j=>ifB (Nat.beq j 0) (k (.int .i64 (.ofNat 0)) s) (Ay s b (fun m c e op=>zQ (fun h=>sB s b' (fun c'=>mZ c' off' (Nat.mul j 1) h) (fun g=>fE g off' (Nat.mul j 1) h)) (fun l=>
  ifB (Nat.ble (Nat.add off (Nat.mul j 1)) m) (eL c off l (fun c=>dC s b (.cells m c e op) (k (.int .i64 (.ofNat j))))) false)))) j=true:=by
  show ifB (Nat.beq j 0) _ (Ay s b _)=true;rw[show Nat.beq j 0=false from xK h0];obtain⟨c,hc,hf,hg⟩:=hs.own hu.own;show qM s b _=true;refine fF (k:=_) hc ?_;obtain⟨f,h5,h6⟩:=ha.see hne;have done:ifB (Nat.ble (Nat.add off (Nat.mul j 1)) l.length) (eL c off more (fun c=>dC s b (.cells l.length c e op) (k (.int .i64 (.ofNat j))))) false=true:=by
   rw[show Nat.ble (Nat.add off (Nat.mul j 1)) l.length=true from by rw[Nat.ble_eq];show off+j*1<=l.length;omega];have hfit2:off+more.length<=l.length:=oM
   refine mD hf hfit2 (fun c' hc' hg'=>eT hs.wf (eB.lt hs.wf hc) (fun s1 hm1 hn1 hd1=>?_));have hol:(over l off more).length=l.length:=kH hfit2;refine hk _ _ ⟨_,hs.upd hu hm1 ⟨c',by rw[hol];exact hd1,by rw[hol];exact hc',fun q=>?_⟩,h⟩;rw[hg',oA hfit2];by_cases h1:off<=q/\q<off+more.length
   ·rw[if_pos h1,if_pos h1]
   ·rw[if_neg h1,if_neg h1,hg]
  have hj1:more.length=Nat.mul j 1:=by show _=j*1;omega
  refine zZ h5 (fun c2 hc2=>?_) ?_
  ·subst hc2;exact tM (k:=fun l'=>ifB (Nat.ble (Nat.add off (Nat.mul j 1)) l.length) (eL c off l' (fun c=>dC s b (.cells l.length c e op) (k (.int .i64 (.ofNat j))))) false) hj1 (fun q hq=>h6 q (by rw[hj1];exact hq)) done
  ·exact qU (k:=fun l'=>ifB (Nat.ble (Nat.add off (Nat.mul j 1)) l.length) (eL c off l' (fun c=>dC s b (.cells l.length c e op) (k (.int .i64 (.ofNat j))))) false) hj1 (fun q hq=>h6 q (by rw[hj1];exact hq)) done
 show IT n' len (fun j=>ifB (Nat.beq j 0) (k (.int .i64 (.ofNat 0)) s) (Ay s b (fun m c e op=>zQ (fun h=>sB s b' (fun c'=>mZ c' off' (Nat.mul j 1) h) (fun g=>fE g off' (Nat.mul j 1) h)) (fun l=>
  ifB (Nat.ble (Nat.add off (Nat.mul j 1)) m) (eL c off l (fun c=>dC s b (.cells m c e op) (k (.int .i64 (.ofNat j))))) false))))=true
 unfold IT;by_cases q:n'<=len
 ·rw[show Nat.ble n' len=true from by rw[Nat.ble_eq];exact q]
  rw[if_pos q] at hj;subst hj;exact key
 ·rw[show Nat.ble n' len=false from by
   cases hb:Nat.ble n' len with
   |false=>rfl
   |true=>rw[Nat.ble_eq] at hb;omega]
  rw[if_neg q] at hj;subst hj;exact key
theorem Tn{x hi:Ev.X}{b o len c h:Nat}{z:Int}(hx:xv env x=some (.slice (some ⟨b,o,none⟩) len c))(hi':xv env hi=some (.int .i64 z))(hz:z=(h:Int))(hh:h<=c)(hc:c<OPEN)(hR:R (.slice (some ⟨b,o,none⟩) h c) A):fU P C X s0 n nt (.slc e 1 x none (some hi) none) env A R:=.mk fun s hs T hT k hk=>by
 subst hz;refine U5 hT (k:=fun x=>eK T none (fun lo=>eK T (some hi) (fun hi=>eK T none (fun mx=>mL s e 1 x lo hi mx (vK s k))))) hx ?_;refine U5 hT (k:=fun v=>mL s e 1 _ none (some v) none (vK s k)) hi' ?_;unfold mL;rw[Cd hh hc];show gL (Value.slice (some ⟨b,o,none⟩) h c) (vK s k)=true;rw[dP];exact hk _ _ ⟨A,hs,hR⟩
theorem Mh{row:Nat->Option (Nat×Nat×Bool)}{e b o len c l:Nat}(h:l<=len)(hl:len<=c)(hlc:l<c)(hc:c<OPEN):evSlc row e 1 (.slice (some ⟨b,o,none⟩) len c) (some (.int .i64 (l:Int))) none none=some (.slice (some ⟨b,o+l*1,none⟩) (len-l) (c-l)):=by
 show sel (Nat.ble OPEN c) _ (sel (Nat.ble len c) (sel (Nat.ble l len) (some (Value.slice (some ⟨b,sel (Nat.beq c l) o (o+l*1),none⟩) (len-l) (c-l))) none) none)=_;rw[show Nat.ble OPEN c=false from by
  cases hb:Nat.ble OPEN c with
  |false=>rfl
  |true=>rw[Nat.ble_eq] at hb;omega,show Nat.ble len c=true from by rw[Nat.ble_eq];exact hl,show Nat.ble l len=true from by rw[Nat.ble_eq];exact h,show Nat.beq c l=false from xK oM]
 rfl
theorem To{x lo:Ev.X}{b o len c l:Nat}{z:Int}(hx:xv env x=some (.slice (some ⟨b,o,none⟩) len c))(hi':xv env lo=some (.int .i64 z))(hz:z=(l:Int))(hh:l<=len)(hl:len<=c)(hlc:l<c)(hc:c<OPEN)(hR:R (.slice (some ⟨b,o+l*1,none⟩) (len-l) (c-l)) A):fU P C X s0 n nt (.slc e 1 x (some lo) none none) env A R:=.mk fun s hs T hT k hk=>by
 subst hz;refine U5 hT (k:=fun x=>eK T (some lo) (fun lo=>eK T none (fun hi=>eK T none (fun mx=>mL s e 1 x lo hi mx (vK s k))))) hx ?_;refine U5 hT (k:=fun v=>mL s e 1 _ (some v) none none (vK s k)) hi' ?_;unfold mL;rw[Mh hh hl hlc hc];show gL (Value.slice (some ⟨b,o+l*1,none⟩) (len-l) (c-l)) (vK s k)=true;rw[dP];exact hk _ _ ⟨A,hs,hR⟩
end
end Go.Proofs.YtjkdkpckjgaplaaGreat.Ev
namespace Go.Proofs.YtjkdkpckjgaplaaGreat
open Go Go.RowKit
namespace Ev
variable{s0:St}{env:List (Nat×Value)}{A A' U:List Ob}{b m e n c k h nt TT w:Nat}{op:Bool}{l z:List Value}{a:Option Addr}{P:Program}{C:Nat->(CF->Bool)->Bool}{R:Value->List Ob->Prop}{x:Ev.X}{rs L:List (List Int)}{y:Sv}
theorem Mi{l:List Value}:∀{r:List Value} {i:Nat},(∀t,t<r.length->l[i+t]? = r[t]?)->iA l i r.length=some r
 |[],_,_=>rfl
 |v::r,i,h=>by
  have h0:=h 0 sM;have h1:=Mi (l:=l) (r:=r) (i:=i+1) (fun t ht=>by
   have:=h (t+1) (by simp;omega);simpa [Nat.add_assoc,Nat.add_comm 1 t] using this)
  rw[Nat.add_zero] at h0;show iA l i (r.length+1)=_;unfold iA;rw[h0,h1];rfl
theorem Mj{D:List Nat}{a b o m e:Nat}{l r:List Value}{Q:Value->List Ob->Prop}{A2:List Ob}(ha:look env a=some (.pointer (some ⟨b,o,none⟩)))(h0:m≠0)(hd:xQ A D A2)(ho:lK A2 b e op l)(hv:iA l o m=some r)(hq:Q (.agg ⟨r⟩) A2):uP s0 [.cell a (some m)] Q .ret env D A:=
 ⟨A2,[.agg ⟨r⟩],A2,hd,⟨b,o,r,[],rfl,ha,h0,⟨e,op,l,ho,hv⟩,rfl⟩,List.Sublist.refl _,hq⟩
theorem Bs{a u b o m e:Nat}{l r:List Value}{w:Value}{Q:Value->List Ob->Prop}(ha:look env a=some (.pointer (some ⟨b,o,none⟩)))(h0:m≠0)(hs:A'.Sublist A)(ho:lK A b e op l)(hv:iA l o m=some r)(hu:look env u=some w)(hq:Q (.tuple #[.agg ⟨r⟩,w]) A'):Im s0 [.cell a (some m),.tmp u] Q .ret env [] A:=
 ⟨rfl,[.agg ⟨r⟩,w],A',⟨b,o,r,[w],rfl,ha,h0,⟨e,op,l,ho,hv⟩,w,[],rfl,hu,rfl⟩,hs,hq⟩
def Vs(TU:Nat)(a:Option Addr)(n c:Nat)(l:List Value)(UL:List Ob):Prop:=(a=none/\n=0/\c=0/\l=[]/\UL=[])∨∃b op,a=some ⟨b,0,none⟩/\0<n/\l.length=n*2/\Cc op n c/\UL=[.row b TU op l]
theorem Vs.len{TU:Nat}{UL:List Ob}(h:Vs TU a n c l UL):l.length=n*2:=by
 rcases h with ⟨_,rfl,_,rfl,_⟩|⟨_,_,_,_,hl,_⟩
 ·rfl
 ·exact hl
theorem Mk{row:Nat->Option (Nat×Nat×Bool)}(hr:row b=some (k,107,true))(hk:h*4<=k):evSlc row 107 4 (.slice (some ⟨b,0,none⟩) n OPEN) none (some (.int .i64 (h:Int))) none=some (.slice (some ⟨b,0,none⟩) h OPEN):=by
 show(match row b with
  |some (k,e',op)=>sel (op && Nat.beq 107 e' && Nat.beq 0 ((OPEN-OPEN)*4) && !Nat.beq 4 0 && (Nat.beq OPEN OPEN || !Nat.beq n 0)) (evSlcOpen b 4 0 h k (OPEN-OPEN) none) none
  |none=>none)=_
 rw[hr];show sel (Nat.ble 0 h && Nat.ble ((0+h)*4) k) (some (Value.slice (some ⟨b,(0+0)*4,none⟩) (h-0) (OPEN+(0+0)))) none=_;rw[show Nat.ble 0 h=true from by rw[Nat.ble_eq];omega,show Nat.ble ((0+h)*4) k=true from by rw[Nat.ble_eq];omega];rfl
theorem Ml{X:FuncId->List Value->St->(Value->St->Bool)->Bool}{x hi:Ev.X}{l9:List Value}(hx:xv env x=some (.slice (some ⟨b,0,none⟩) m OPEN))(h_hi:xv env hi=some (.int .i64 (h:Int)))(ho:lK A b 107 true l9)(hk:h*4<=l9.length)
 (hR:R (.slice (some ⟨b,0,none⟩) h OPEN) A):fU P C X s0 n nt (.slc 107 4 x none (some hi) none) env A R:=.mk fun s hs T hT q hq=>by
 refine U5 hT (k:=fun x=>eK T (some hi) (fun o_hi=>mL s 107 4 x none o_hi none (vK s q))) hx ?_;refine U5 hT (k:=fun v=>mL s 107 4 _ none (some v) none (vK s q)) h_hi ?_;unfold mL;obtain⟨c,h3,_⟩:=hs.own ho;have hrow:kS s b=some (l9.length,107,true):=by
  unfold kS;rw[h3]
 have key:=Mk (n:=m) hrow hk;rw[key];show gL (Value.slice (some ⟨b,0,none⟩) h OPEN) (vK s q)=true;rw[dP];exact hq _ _ ⟨A,hs,hR⟩
theorem Mm{row:Nat->Option (Nat×Nat×Bool)}(hr:row b=some (k,91,true))(hk:h*6<=k):evSlc row 91 6 (.slice (some ⟨b,0,none⟩) n OPEN) none (some (.int .i64 (h:Int))) none=some (.slice (some ⟨b,0,none⟩) h OPEN):=by
 show(match row b with
  |some (k,e',op)=>sel (op && Nat.beq 91 e' && Nat.beq 0 ((OPEN-OPEN)*6) && !Nat.beq 6 0 && (Nat.beq OPEN OPEN || !Nat.beq n 0)) (evSlcOpen b 6 0 h k (OPEN-OPEN) none) none
  |none=>none)=_
 rw[hr];show sel (Nat.ble 0 h && Nat.ble ((0+h)*6) k) (some (Value.slice (some ⟨b,(0+0)*6,none⟩) (h-0) (OPEN+(0+0)))) none=_;rw[show Nat.ble 0 h=true from by rw[Nat.ble_eq];omega,show Nat.ble ((0+h)*6) k=true from by rw[Nat.ble_eq];omega];rfl
theorem Mn{X:FuncId->List Value->St->(Value->St->Bool)->Bool}{x hi:Ev.X}{l9:List Value}(hx:xv env x=some (.slice (some ⟨b,0,none⟩) m OPEN))(h_hi:xv env hi=some (.int .i64 (h:Int)))(ho:lK A b 91 true l9)(hk:h*6<=l9.length)
 (hR:R (.slice (some ⟨b,0,none⟩) h OPEN) A):fU P C X s0 n nt (.slc 91 6 x none (some hi) none) env A R:=.mk fun s hs T hT q hq=>by
 refine U5 hT (k:=fun x=>eK T (some hi) (fun o_hi=>mL s 91 6 x none o_hi none (vK s q))) hx ?_;refine U5 hT (k:=fun v=>mL s 91 6 _ none (some v) none (vK s q)) h_hi ?_;unfold mL;obtain⟨c,h3,_⟩:=hs.own ho;have hrow:kS s b=some (l9.length,91,true):=by
  unfold kS;rw[h3]
 have key:=Mm (n:=m) hrow hk;rw[key];show gL (Value.slice (some ⟨b,0,none⟩) h OPEN) (vK s q)=true;rw[dP];exact hq _ _ ⟨A,hs,hR⟩
theorem Tp{X:FuncId->List Value->St->(Value->St->Bool)->Bool}{e size bytes b len cap m:Nat}{z more l:List Value}{x y:Ev.X}{yv:Value}(hcap:cap=OPEN)(hx:xv env x=some (.slice (some ⟨b,0,none⟩) len cap))(hy:xv env y=some yv)(hsrc:fH s0 A size m more yv)(hu:oS A b e true l (over l (len*size) more) A')(hfit:(len+m)*size<=l.length)(hb1:len+m<=1048576)(hb2:bytes*(len+m)<=1073741824)
 (h:R (.slice (some ⟨b,0,none⟩) (len+m) OPEN) A'):fU P C X s0 n nt (.app e size bytes z false x y) env A R:=.mk fun s hs T hT k hk=>by
 refine U5 hT (k:=fun x=>bQ T y (fun y=>mM s e size bytes z false x y k)) hx (U5 hT (k:=fun y=>mM s e size bytes z false _ y k) hy ?_);unfold mM;refine sP hs hsrc ?_;obtain⟨_,_,_,_,hml,hm0,_⟩:=hsrc;show ifB (Nat.beq cap 0) _ (ifB (Nat.ble (Nat.add len m) 1048576) (ifB (Nat.ble (Nat.mul bytes (Nat.add len m)) 1073741824) (fT s e size b 0 len cap m more k) false) false)=true;rw[xK (show cap≠0 by rw[hcap];decide)];show ifB (Nat.ble (Nat.add len m) 1048576) (ifB (Nat.ble (Nat.mul bytes (Nat.add len m)) 1073741824) (fT s e size b 0 len cap m more k) false) false=true;rw[show Nat.ble (Nat.add len m) 1048576=true from by rw[Nat.ble_eq];exact hb1,show Nat.ble (Nat.mul bytes (Nat.add len m)) 1073741824=true from by rw[Nat.ble_eq];exact hb2];show fT s e size b 0 len cap m more k=true;obtain⟨c,hc,hf,hg⟩:=hs.own hu.own;unfold fT;refine fF (k:=_) hc ?_;have hfit2:len*size+more.length<=l.length:=by rw[hml,<-Nat.add_mul];exact hfit
 show ifB (Nat.beq e e) (ifB (Nat.ble OPEN cap) (ifB true (ifB (Nat.beq 0 0) (ifB (Nat.beq cap OPEN) (ifB (Nat.ble (Nat.mul (Nat.add len m) size) l.length) (eL c (Nat.mul len size) more _) _) _) _) _) _) false=true;rw[show Nat.beq e e=true from by rw[Nat.beq_eq],show Nat.ble OPEN cap=true from by rw[Nat.ble_eq];omega,show Nat.beq cap OPEN=true from by rw[Nat.beq_eq];exact hcap,show Nat.ble (Nat.mul (Nat.add len m) size) l.length=true from by rw[Nat.ble_eq];exact hfit];show eL c (len*size) more _=true;refine mD hf hfit2 (fun c' hc' hg'=>eT hs.wf (eB.lt hs.wf hc) (fun s1 hm1 hn1 hd1=>?_));rw[bM];have hol:(over l (len*size) more).length=l.length:=kH hfit2;refine hk _ _ ⟨_,hs.upd hu hm1 ⟨c',by rw[hol];exact hd1,by rw[hol];exact hc',fun j=>?_⟩,h⟩;rw[hg',oA hfit2];by_cases h1:len*size<=j/\j<len*size+more.length
 ·rw[if_pos h1,if_pos h1]
 ·rw[if_neg h1,if_neg h1,hg]
inductive Ak(U:List Ob):List Ob->List Ob->Prop where
 |here {A:List Ob}:Ak U (U++A) A
 |next {x:Ob} {A A':List Ob} (h:Ak U A A'):Ak U (x::A) (x::A')
section
variable{x0 x1 x2 x3 x4 x5 x6 x7 x8:Ob}{U A:List Ob}
theorem Ak.h1:Ak U (x0::(U++A)) (x0::A):=.next .here
theorem Ak.h2:Ak U (x0::x1::(U++A)) (x0::x1::A):=.next .h1
theorem Ak.h3:Ak U (x0::x1::x2::(U++A)) (x0::x1::x2::A):=.next .h2
theorem Ak.h4:Ak U (x0::x1::x2::x3::(U++A)) (x0::x1::x2::x3::A):=.next .h3
theorem Ak.h5:Ak U (x0::x1::x2::x3::x4::(U++A)) (x0::x1::x2::x3::x4::A):=.next .h4
theorem Ak.h6:Ak U (x0::x1::x2::x3::x4::x5::(U++A)) (x0::x1::x2::x3::x4::x5::A):=.next .h5
theorem Ak.h7:Ak U (x0::x1::x2::x3::x4::x5::x6::(U++A)) (x0::x1::x2::x3::x4::x5::x6::A):=.next .h6
theorem Ak.h8:Ak U (x0::x1::x2::x3::x4::x5::x6::x7::(U++A)) (x0::x1::x2::x3::x4::x5::x6::x7::A):=.next .h7
theorem Ak.h9:Ak U (x0::x1::x2::x3::x4::x5::x6::x7::x8::(U++A)) (x0::x1::x2::x3::x4::x5::x6::x7::x8::A):=.next .h8
end
theorem Ak.parts(h:Ak U A A'):∃A1 A2,A=A1++(U++A2)/\A'=A1++A2:=by
 induction h with
 |here=>exact⟨[],_,rfl,rfl⟩
 |next _ ih=>
  obtain⟨A1,A2,h1,h2⟩:=ih;exact⟨_::A1,A2,by rw[h1];rfl,by rw[h2];rfl⟩
theorem Mo{X:FuncId->List Value->St->(Value->St->Bool)->Bool}{x:Ob}{c:COp}(hd:gI A x A')(h:fU P C X s0 n nt c env (x::A') R):fU P C X s0 n nt c env A R:=.mk fun s hs=>h.go s (hs.front hd)
def wT(TT w:Nat)(a:Option Addr)(n c:Nat)(rs:List (List Int))(U:List Ob):Prop:=(a=none/\n=0/\c=0/\rs=[]/\U=[])∨∃b z,a=some ⟨b,0,none⟩/\rs.length=n/\c=OPEN/\(z=[]/\0<n∨z.length=w)/\U=[.row b TT true (aV rs++z)]
theorem wT.spot(h:wT TT w a n c rs U):∀b,a=some b->b.spot=none:=fun b hb=>by
 rcases h with ⟨rfl,_⟩|⟨b',z,rfl,_⟩
 ·cases hb
 ·cases hb;rfl
theorem yC{i:Nat}{r:List Int}(hw:∀r∈L,r.length=w)(h:L[i]? = some r):iA (aV L++z) (i*w) (r.map (Value.int .i64)).length=some (r.map (Value.int .i64)):=by
 have hr:r.length=w:=hw r (List.mem_of_getElem? h);obtain⟨hi,_⟩:=List.getElem?_eq_some_iff.1 h;have e1:=sY hw h;have hl:=aA hw;have hb:(i+1)*w<=L.length*w:=Nat.mul_le_mul_right w hi;rw[Nat.add_mul,Nat.one_mul] at hb;refine Mi (fun t ht=>?_);rw[List.length_map,hr] at ht;have h2:=(gO e1).2 t (by rw[List.length_map,hr];exact ht);rw[List.getElem?_append_left oM];exact h2
theorem RowsE.ownFP{s:St}(h:Obj s b e op (aV L++z))(hw:Wd w L)(hl:L.length<140737488355328):RowsE s w (some ⟨b,0,none⟩) L:=
 ⟨fun c hc=>by cases hc;rfl,fun _=>⟨b,0,rfl⟩,fun c o hc i r hr=>by
  cases hc;rw[Nat.zero_add];exact h.ats (gO (yC hw.len hr)).2,hw.len,hw.fit,hl⟩
theorem wT.rows{s0 s:St}(h:wT TT w a n c rs U)(hA:U.Sublist A)(hs:iK s0 A s)(hw:Wd w rs)(hl:rs.length<140737488355328):RowsE s w a rs:=by
 rcases h with ⟨rfl,_,_,rfl,_⟩|⟨b,z,rfl,_,_,_,h2⟩
 ·exact RowsE.nil
 ·exact RowsE.ownFP ((hs.sub hA).own (by rw[h2];exact .here)) hw hl
theorem wT.len(h:wT TT w a n c rs U):n=rs.length:=by
 rcases h with ⟨_,rfl,_,rfl,_⟩|⟨b,z,_,h,_⟩
 ·rfl
 ·exact h.symm
theorem wT.own(h:wT TT w a n c rs U)(h0:0<n):∃b z,a=some ⟨b,0,none⟩/\∀R,lK (U++R) b TT true (aV rs++z):=by
 rcases h with ⟨_,h,_⟩|⟨b,z,h1,_,_,_,h5⟩
 ·omega
 ·exact⟨b,z,h1,fun R=>by rw[h5];exact .here⟩
theorem yD{X:FuncId->List Value->St->(Value->St->Bool)->Bool}{TU w bytes k c b9 e9 c9:Nat}{op9:Bool}{more z:List Value}{x y:Ev.X}(hU:wT TU w a k c rs U)(hA:Ak U A A')(hx:xv env x=some (.slice a k c))(hy:xv env y=some (.slice (some ⟨b9,0,none⟩) 1 c9))(ho:lK A' b9 e9 op9 more)(hw:∀r∈rs,r.length=w)(hm:more.length=w)(h0w:w≠0)(hb1:k+1<=1048576)(hb2:bytes*(k+1)<=1073741824)
 (h:∀b,R (.slice (some ⟨b,0,none⟩) (k+1) OPEN) (.row b TU true (aV rs++more)::A')):fU P C X s0 n nt (.app TU w bytes z false x y) env A R:=by
 obtain⟨A1,A2,e1,e2⟩:=hA.parts;have hsrc:∀{B:List Ob},lK B b9 e9 op9 more->fH s0 B w 1 more (.slice (some ⟨b9,0,none⟩) 1 c9):=fun hB=>⟨b9,0,c9,rfl,by rw[hm,Nat.one_mul],fun q=>by rw[q] at hm;exact h0w hm.symm,.inl ⟨_,_,_,hB,wA⟩⟩
 rcases hU with ⟨rfl,rfl,rfl,rfl,rfl⟩|⟨b,z9,rfl,hl,rfl,hz,rfl⟩
 ·have e:A=A':=by rw[e1,e2];rfl
  subst e;exact fV hx hy (hsrc ho) dE oM oM (fun b=>by have:=h b;exact this)
 ·have hd:gI A (.row b TU true (aV rs++z9)) A':=by
   rw[e1,e2];clear e1 e2 hA hsrc h ho
   induction A1 with
   |nil=>exact .here
   |cons p A1 ih=>exact .next ih
  refine Mo hd ?_;have hfl:(aV rs).length=k*w:=by rw[aA hw,hl]
  rcases hz with ⟨rfl,h0⟩|hz
  ·rw[List.append_nil]
   exact cK hx hy (hsrc (.next ho)) .here hfl (.inl ⟨rfl,rfl⟩) dE oM oM h
  ·have ho2:over (aV rs++z9) (k*w) more=aV rs++more:=by
    unfold over;rw[List.take_left' hfl,List.drop_eq_nil_of_le (by rw[List.length_append,hfl,hz,hm];omega),List.append_nil]
   refine Tp J hx hy (hsrc (.next ho)) (l:=aV rs++z9) (by rw[ho2];exact .here) ?_ oM oM (h b);rw[List.length_append,hfl,hz,Nat.add_mul,Nat.one_mul];omega
/-! The free limits, within all. -/
theorem yE{X:List (List Int)}{f:Nat->List (List Int)}:∀t,acc X f t=X++acc [] f t
 |0=>(List.append_nil X).symm
 |t+1=>by
  show acc X f t++f t=X++(acc [] f t++f t);rw[yE t,List.append_assoc]
theorem Tq:aV (Sv.b6 y)=aV (Sv.b5 y y.cs.length)++aV (acc [] y.q6 y.rs.length):=by
 unfold Sv.b6;rw[yE,dT]
theorem Tr:((Sv.b6 y).length:Int)-2*(y.rs.length:Int)=((Sv.b5 y y.cs.length).length:Int):=by
 have key:∀t,(acc [] y.q6 t).length=2*t:=by
  intro t
  induction t with
  |zero=>rfl
  |succ t ih=>
   show(acc [] y.q6 t++y.q6 t).length=_;rw[List.length_append,ih];show 2*t+2=_;omega
 unfold Sv.b6;rw[yE,List.length_append,key];omega
theorem HI{r al up:Int}{l1 l2:List Int}{rs cs:List (List Int)}:aV (Sv.b6 (Sv.mk r al up l1 l2 rs cs))=aV (Sv.b5 (Sv.mk r al up l1 l2 rs cs) cs.length)++aV (acc [] (Sv.q6 (Sv.mk r al up l1 l2 rs cs)) rs.length):=Tq
theorem HJ{r al up:Int}{l1 l2:List Int}{rs cs:List (List Int)}:((Sv.b6 (Sv.mk r al up l1 l2 rs cs)).length:Int)-2*(rs.length:Int)=((Sv.b5 (Sv.mk r al up l1 l2 rs cs) cs.length).length:Int):=Tr
theorem HK:∀r∈Sv.b5 y y.cs.length,r∈Sv.b6 y:=fun r hr=>nG hr _
theorem Wd.sub{L M:List (List Int)}(h:Wd w M)(hs:∀r∈L,r∈M):Wd w L:=⟨fun r hr=>h.len r (hs r hr),fun r hr=>h.fit r (hs r hr)⟩
section
variable{X:FuncId->List Value->St->(Value->St->Bool)->Bool}
theorem Mq(n:Nat)(d r al up:Int)(a1 a2:Option Addr)(c1 c2:Nat)(l1 l2:List Int)(a3 a4:Option Addr)(c3 c4:Nat)(rs cs:List (List Int))(s:St)(hs:Wf s)(hn:6755399441055744<=n)(hl1:aN s a1 l1)(hl2:aN s a2 l2)(hr:RowsE s 7 a3 rs)(hc:RowsE s 6 a4 cs)(hpt:oO ((1<=d/\d<=99999)/\(1<=r/\r<=99999)/\(0<=al/\al<=100000)/\(0<=up/\up<=100000)/\bW l1 l2=true) l1 l2 rs cs=0)(hq1:l1.length<=4)(hq2:l2.length<=3)(hq3:rs.length<=14)(hq4:cs.length<=5):bS Tryz.prog (bX bZ) X (n+5600) 67 [.agg ⟨[.int .i64 d,.int .i64 r,.slice a1 l1.length c1,.slice a2 l2.length c2,.int .i64 al,.int .i64 up,.slice a3 rs.length c3,.slice a4 cs.length c4]⟩] s (fun v A=>(IL (wm (Sv.b5 (Sv.mk r al up l1 l2 rs cs) cs.length) ((l1.length*l2.length+(dys rs).length)+1) ((l1.length*l2.length+(dys rs).length)+1)) ((l1.length*l2.length+(dys rs).length)+1)/\v = .bool false/\A=[])∨(¬IL (wm (Sv.b5 (Sv.mk r al up l1 l2 rs cs) cs.length) ((l1.length*l2.length+(dys rs).length)+1) ((l1.length*l2.length+(dys rs).length)+1)) ((l1.length*l2.length+(dys rs).length)+1)/\v = .bool true/\A=[])):=by
 refine enter Qn rfl hs ?_;unfold O3;have hlen1:=hl1.len;have hlen2:=hl2.len;have hlen3:=hr.len;have hlen4:=hc.len;obtain⟨⟨hsd,hsr,hsa,hsu,hpl⟩,h60,h20,hrdb,hcpb⟩:=rB hpt;have hp1:=fG hpl;have hp2:=fR hpl;have hm1:=hp1.hm;have hm2:(l2.length:Int)<=7:=Ek hpl;have h21:=hp1.h2;have h22:=hp2.h2;have hmm:=gC (x:=(l1.length:Int)) (y:=(l2.length:Int)) oM oM;have hmn:=jD (x:=l2.length) (y:=l1.length) oM oM;have hdl:=uX hr;have hW6:=Hv hsr hsa hsu hpl h60 h20 hrdb hcpb hr hc (show(dys rs).length<=60 from oM);have hN12:l1.length*l2.length<=12:=Nat.mul_le_mul hq1 hq2;obtain⟨M,hMn⟩:∃M,M=(l1.length*l2.length+(dys rs).length):=⟨_,rfl⟩;have hMI:(M:Int)=(l1.length:Int)*(l2.length:Int)+((dys rs).length:Int):=by rw[hMn,Int.natCast_add,Int.natCast_mul]
 have hF5:(aV (Sv.b5 (Sv.mk r al up l1 l2 rs cs) cs.length)).length=(Sv.b5 (Sv.mk r al up l1 l2 rs cs) cs.length).length*4:=aA (hW6.sub HK).len;have hlv:=(Et (m:=(M:Int)) hsr hsa hsu hpl hcpb hc hMI oM).2.2 cs.length (Nat.le_refl _);have hst:=HF (r:=r) (al:=al) (up:=up) (cs:=cs) hMn cs.length;have hfl:=Mg (r:=r) (al:=al) (up:=up) hq1 hq2 (show(dys rs).length<=14 from oM) hq4;have hl6:=RQ (r:=r) (al:=al) (up:=up) (cs:=cs) h60 h20 hmn (show(dys rs).length<=60 from oM);have hsysF:gR (M:Int) (Sv.b5 (Sv.mk r al up l1 l2 rs cs) cs.length)=0:=by
  unfold gR;rw[if_pos oM,if_neg oM,if_pos (show nP (M:Int) (Sv.b5 (Sv.mk r al up l1 l2 rs cs) cs.length)=true from hlv)]
 rw[<-hMn];refine rS (aZ J J J (fun b1=>(kM J (Q0 (rS (cI J dE .here rfl (kG (cA J J D5 rfl ?_))))))));unfold D0;refine rS (aZ J J J (fun b2=>(bA J J (fun b3=>(Q0 (rS (cI J dE .h1 J (kO (Z4 J J (fun s1 h1=>Cj _ _ _ _ _ _ _ _ _ _ _ _ _ _ _ _ _ s1 h1.wf oM (hl1.ext hs h1.2.1) (hl2.ext hs h1.2.1) (hr.ext hs h1.2.1) (hc.ext hs h1.2.1) hpt) (fun v1 A1 q1=>?_))))))))));obtain⟨bS4,rfl,rfl⟩:=q1;rw[<-hMI,HI,List.singleton_append];refine bA J J (fun b5=>(kZ (Q6 J J .here rfl rfl rfl rfl (Q0 (rS (aK J (aO J .here rfl (aK J (aO J .here rfl (kO (cO J (aK J (aO J .h3 J (aJ J (by first|exact hr.spot|exact hc.spot) (aY J J oM (kO (bN J J oM ?_)))))))))))))))));rw[show(((Sv.b6 (Sv.mk r al up l1 l2 rs cs)).length:Nat):Int)-2*(rs.length:Int)=(((Sv.b5 (Sv.mk r al up l1 l2 rs cs) cs.length).length:Nat):Int) from HJ];refine kO (Ml (h:=(Sv.b5 (Sv.mk r al up l1 l2 rs cs) cs.length).length) J J .h1 (by rw[List.length_append,hF5];omega) (aK J (kZ (cW J J .here rfl rfl (Q0 (rS (cI J dE .here rfl (kZ (Q6 J J .h2 J J J J (Q0 (V2 (Mj J dE .nil .h2 J (kO (Z4 J J (fun s1 h1=>Es _ M _ _ (Sv.b5 (Sv.mk r al up l1 l2 rs cs) cs.length) s1 h1.wf oM (RowsE.ownFP (h1.own .h1) (hW6.sub HK) oM) (fun _=>HA hlv hst)) (fun v1 A1 q1=>?_)))))))))))))));rcases q1 with ⟨hc1,rfl,rfl⟩|⟨hc1,hc2,rfl,rfl⟩|⟨hc1,hc2,q1⟩
 ·exact absurd hsysF hc1
 ·have hno:=hc2
  refine kM J (eP J J (eP J J (kM J (kM J (Q0 (rS (kM J (kO (V3 J J (fun _=>(kM J (Q0 (V2 ?_)))) (fun h=>absurd h dE))))))))));exact aU J (.inr ⟨hno,rfl,rfl⟩)
 ·obtain⟨Wl,Bw7,rfl,rfl⟩:=q1
  have hyes:=hc2;refine kM J (eP J J (eP J J (kM J (kM J (Q0 (rS (kM J (kO (V3 J J (fun h=>absurd h dE) (fun _=>(kM J (Q0 (V2 ?_)))))))))))));exact aU J (.inl ⟨hyes,rfl,rfl⟩)
theorem Am(n:Nat)(d r al up:Int)(a1 a2:Option Addr)(c1 c2:Nat)(l1 l2:List Int)(a3 a4:Option Addr)(c3 c4:Nat)(rs cs:List (List Int))(ap:Option Addr)(cp:Nat)(ps:List Int)(s:St)(hs:Wf s)(hn:7318349394477056<=n)(hl1:aN s a1 l1)(hl2:aN s a2 l2)(hr:RowsE s 7 a3 rs)(hc:RowsE s 6 a4 cs)(hpt:oO ((1<=d/\d<=99999)/\(1<=r/\r<=99999)/\(0<=al/\al<=100000)/\(0<=up/\up<=100000)/\bW l1 l2=true) l1 l2 rs cs=0)(hq1:l1.length<=4)(hq2:l2.length<=3)(hq3:rs.length<=14)(hq4:cs.length<=5)(hSnd:IL (wm (Sv.b5 (Sv.mk r al up l1 l2 rs cs) cs.length) ((l1.length*l2.length+(dys rs).length)+1) ((l1.length*l2.length+(dys rs).length)+1)) ((l1.length*l2.length+(dys rs).length)+1))(hP:aN s ap ps):bS Tryz.prog (bX bZ) X (n+5600) 68 [.agg ⟨[.int .i64 d,.int .i64 r,.slice a1 l1.length c1,.slice a2 l2.length c2,.int .i64 al,.int .i64 up,.slice a3 rs.length c3,.slice a4 cs.length c4]⟩,.slice ap ps.length cp] s (fun v A=>∃b op c x,v = .slice (some ⟨b,0,none⟩) ((l1.length*l2.length+(dys rs).length)+1) c/\A=[.row b 3 op (ints x)]/\x.length=(l1.length*l2.length+(dys rs).length)+1/\PB x 163840000/\Cc op ((l1.length*l2.length+(dys rs).length)+1) c):=by
 refine enter Qo rfl hs ?_;unfold O5;have hlen1:=hl1.len;have hlen2:=hl2.len;have hlen3:=hr.len;have hlen4:=hc.len;obtain⟨⟨hsd,hsr,hsa,hsu,hpl⟩,h60,h20,hrdb,hcpb⟩:=rB hpt;have hp1:=fG hpl;have hp2:=fR hpl;have hm1:=hp1.hm;have hm2:(l2.length:Int)<=7:=Ek hpl;have h21:=hp1.h2;have h22:=hp2.h2;have hmm:=gC (x:=(l1.length:Int)) (y:=(l2.length:Int)) oM oM;have hmn:=jD (x:=l2.length) (y:=l1.length) oM oM;have hdl:=uX hr;have hW6:=Hv hsr hsa hsu hpl h60 h20 hrdb hcpb hr hc (show(dys rs).length<=60 from oM);have hN12:l1.length*l2.length<=12:=Nat.mul_le_mul hq1 hq2;obtain⟨M,hMn⟩:∃M,M=(l1.length*l2.length+(dys rs).length):=⟨_,rfl⟩;have hMI:(M:Int)=(l1.length:Int)*(l2.length:Int)+((dys rs).length:Int):=by rw[hMn,Int.natCast_add,Int.natCast_mul]
 have hF5:(aV (Sv.b5 (Sv.mk r al up l1 l2 rs cs) cs.length)).length=(Sv.b5 (Sv.mk r al up l1 l2 rs cs) cs.length).length*4:=aA (hW6.sub HK).len;have hlv:=(Et (m:=(M:Int)) hsr hsa hsu hpl hcpb hc hMI oM).2.2 cs.length (Nat.le_refl _);have hst:=HF (r:=r) (al:=al) (up:=up) (cs:=cs) hMn cs.length;have hfl:=Mg (r:=r) (al:=al) (up:=up) hq1 hq2 (show(dys rs).length<=14 from oM) hq4;have hl6:=RQ (r:=r) (al:=al) (up:=up) (cs:=cs) h60 h20 hmn (show(dys rs).length<=60 from oM);have hsysF:gR (M:Int) (Sv.b5 (Sv.mk r al up l1 l2 rs cs) cs.length)=0:=by
  unfold gR;rw[if_pos oM,if_neg oM,if_pos (show nP (M:Int) (Sv.b5 (Sv.mk r al up l1 l2 rs cs) cs.length)=true from hlv)]
 rw[<-hMn] at hSnd ⊢;refine rS (aZ J J J (fun b1=>(kM J (Q0 (rS (cI J dE .here rfl (kG (cA J J D5 rfl ?_))))))));unfold D0;refine rS (aZ J J J (fun b2=>(bA J J (fun b3=>(Q0 (rS (cI J dE .h1 J (kO (Z4 J J (fun s1 h1=>Cj _ _ _ _ _ _ _ _ _ _ _ _ _ _ _ _ _ s1 h1.wf oM (hl1.ext hs h1.2.1) (hl2.ext hs h1.2.1) (hr.ext hs h1.2.1) (hc.ext hs h1.2.1) hpt) (fun v1 A1 q1=>?_))))))))));obtain⟨bS4,rfl,rfl⟩:=q1;rw[<-hMI,HI,List.singleton_append];refine bA J J (fun b5=>(kZ (Q6 J J .here rfl rfl rfl rfl (Q0 (rS (aK J (aO J .here rfl (aK J (aO J .here rfl (kO (cO J (aK J (aO J .h3 J (aJ J (by first|exact hr.spot|exact hc.spot) (aY J J oM (kO (bN J J oM ?_)))))))))))))))));rw[show(((Sv.b6 (Sv.mk r al up l1 l2 rs cs)).length:Nat):Int)-2*(rs.length:Int)=(((Sv.b5 (Sv.mk r al up l1 l2 rs cs) cs.length).length:Nat):Int) from HJ];refine kO (Ml (h:=(Sv.b5 (Sv.mk r al up l1 l2 rs cs) cs.length).length) J J .h1 (by rw[List.length_append,hF5];omega) (aK J (kZ (cW J J .here rfl rfl (Q0 (rS (cI J dE .here rfl (kZ (Q6 J J .h2 J J J J (Q0 (V2 (Mj J dE .nil .h2 J (kM J (kO (Z4 J J (fun s1 h1=>Me _ M _ _ (Sv.b5 (Sv.mk r al up l1 l2 rs cs) cs.length) _ _ ps s1 h1.wf oM (RowsE.ownFP (h1.own .h1) (hW6.sub HK) oM) (fun _=>HA hlv hst) (fun _=>QW hlv hst) (hP.ext hs h1.2.1)) (fun v1 A1 q1=>?_))))))))))))))));rcases q1 with ⟨hc1,rfl,rfl⟩|⟨hc1,hc2,rfl,rfl⟩|⟨hc1,hc2,q1⟩
 ·exact absurd hsysF hc1
 ·exact absurd hSnd hc2
 ·obtain⟨bx6,opx,cqx,x,rfl,rfl,hxl,hxb,hxt⟩:=q1
  refine kM J (eP J J (eP J J (kM J (kM J (Q0 (rS (kM J (kM J (Q0 (V2 ?_))))))))));exact fX J (.q (.cons _ (.cons _ (.cons _ (.cons _ (.cons _ .slnil)))))) ⟨_,opx,cqx,x,rfl,rfl,hxl,hxb,hxt⟩
end
variable{m n x0 x1 x2 x3 x4 x5 x6:Int}{rs:List (List Int)}{k:Nat}
theorem Mr{s0:St}{A:List Ob}{a:Option Addr}{l:List Int}{c:Nat}(h:aN s0 a l)(hl:l≠[]):fH s0 A 1 l.length (ints l) (.slice a l.length c):=by
 obtain⟨b,o,rfl⟩:=h.addr hl;exact⟨b,o,c,rfl,by rw[bO,Nat.mul_one],fun e=>hl (by cases l with|nil=>rfl|cons x l=>cases e),.inr (h.cells b o rfl)⟩
theorem gI.app{T A A':List Ob}{x:Ob}(h:gI A x A'):gI (T++A) x (T++A'):=by
 induction T with
 |nil=>exact h
 |cons y T ih=>exact .next ih
theorem Ms{P:Program}{C:Nat->(CF->Bool)->Bool}{X:FuncId->List Value->St->(Value->St->Bool)->Bool}{n f:Nat}{vs:List Value}{s:St}{Q Q':Value->List Ob->Prop}(h:bS P C X n f vs s Q)(hq:∀v A,Q v A->Q' v A):bS P C X n f vs s Q':=fun k hk=>h k (fun v s' ⟨A,h1,h2⟩=>hk v s' ⟨A,h1,hq v A h2⟩)
theorem C8:pY m n rs=true↔∀r∈rs,pY m n [r]=true:=by
 induction rs with
 |nil=>exact⟨fun _ r hr=>(by cases hr),fun _=>rfl⟩
 |cons a rs ih=>
  have e:pY m n (a::rs)=(pY m n [a] && pY m n rs):=by
   match a with
   |[x0,x1,x2,x3,x4,x5,x6]=>
    show(decide _ && pY m n rs)=((decide _ && true) && pY m n rs);rw[Bool.and_true]
   |[]=>rfl
   |[_]=>rfl
   |[_,_]=>rfl
   |[_,_,_]=>rfl
   |[_,_,_,_]=>rfl
   |[_,_,_,_,_]=>rfl
   |[_,_,_,_,_,_]=>rfl
   |_::_::_::_::_::_::_::_::_=>rfl
  rw[e,Bool.and_eq_true,ih];exact⟨fun ⟨h1,h2⟩ r hr=>by
   rcases List.mem_cons.1 hr with rfl|hr
   ·exact h1
   ·exact h2 r hr,fun h=>⟨h a (List.mem_cons_self ..),fun r hr=>h r (List.mem_cons_of_mem _ hr)⟩⟩
def rv(m n:Int)(rs:List (List Int)):List (List Int):=rs.filter (fun r=>pY m n [r])
theorem C9(hx:rs[k]? = some [x0,x1,x2,x3,x4,x5,x6])(h:(1<=x0/\x0<=99999)/\(0<=x1/\x1<=m-1)/\(0<=x2/\x2<=n-1)/\(0<=x4/\x4<=1000)/\(0<=x3/\x3<=20000-x4)/\(1<=x5/\x5<=99)/\(0<=x6/\x6<=100000)):rv m n (rs.take (k+1))=rv m n (rs.take k)++[[x0,x1,x2,x3,x4,x5,x6]]:=by
 unfold rv;rw[List.take_add_one,hx,List.filter_append]
 congr 1
 show List.filter _ [_]=_;rw[List.filter_cons_of_pos (by show(decide _ && true)=true;rw[decide_eq_true h];rfl)];rfl
theorem Mt(hx:rs[k]? = some [x0,x1,x2,x3,x4,x5,x6])(h:¬((1<=x0/\x0<=99999)/\(0<=x1/\x1<=m-1)/\(0<=x2/\x2<=n-1)/\(0<=x4/\x4<=1000)/\(0<=x3/\x3<=20000-x4)/\(1<=x5/\x5<=99)/\(0<=x6/\x6<=100000))):rv m n (rs.take (k+1))=rv m n (rs.take k):=by
 unfold rv;rw[List.take_add_one,hx,List.filter_append];show _++List.filter _ [_]=_;rw[List.filter_cons_of_neg (by show ¬(decide _ && true)=true;rw[decide_eq_false h];decide),List.filter_nil,List.append_nil]
theorem rF{r:List Int}(h:r∈rv m n rs):r∈rs:=(List.mem_filter.1 h).1
theorem Da:pY m n (rv m n rs)=true:=C8.2 (fun r hr=>(List.mem_filter.1 hr).2)
theorem Mu:(rv m n (rs.take k)).length<=k:=Nat.le_trans (List.length_filter_le _ _) (by rw[List.length_take];omega)
theorem Q8(hx:rs[k]? = some [x0,x1,x2,x3,x4,x5,x6])(h:(1<=x0/\x0<=99999)/\(0<=x1/\x1<=m-1)/\(0<=x2/\x2<=n-1)/\(0<=x4/\x4<=1000)/\(0<=x3/\x3<=20000-x4)/\(1<=x5/\x5<=99)/\(0<=x6/\x6<=100000)):aV (rv m n (rs.take k))++[.int .i64 x0,.int .i64 x1,.int .i64 x2,.int .i64 x3,.int .i64 x4,.int .i64 x5,.int .i64 x6]=aV (rv m n (rs.take (k+1))):=by
 rw[C9 hx h,dT];rfl
theorem An{L:List (List Int)}{t:List Int}:t∈dys L↔∃r∈L,t=[r.getD 5 0,r.getD 6 0]:=by
 have key:∀(M D:List (List Int)),t∈M.foldl gK D↔t∈D∨∃r∈M,t=[r.getD 5 0,r.getD 6 0]:=by
  intro M
  induction M with
  |nil=>intro D;exact⟨.inl,fun h=>h.elim id (fun ⟨r,hr,_⟩=>(by cases hr))⟩
  |cons a M ih=>
   intro D;show t∈M.foldl gK (gK D a)↔_;rw[ih];have e:t∈gK D a↔t∈D∨t=[a.getD 5 0,a.getD 6 0]:=by
    unfold gK;split
    ·rename_i h
     exact⟨.inl,fun q=>q.elim id (fun q=>q ▸ h)⟩
    ·rw[List.mem_append,List.mem_singleton]
   rw[e]
   constructor
   ·rintro((q|q)|⟨r,hr,q⟩)
    ·exact .inl q
    ·exact .inr ⟨a,List.mem_cons_self ..,q⟩
    ·exact .inr ⟨r,List.mem_cons_of_mem _ hr,q⟩
   ·rintro(q|⟨r,hr,q⟩)
    ·exact .inl (.inl q)
    ·rcases List.mem_cons.1 hr with rfl|hr
     ·exact .inl (.inr q)
     ·exact .inr ⟨r,hr,q⟩
 have:=key L [];exact this.trans ⟨fun h=>h.elim (fun q=>(by cases q)) id,.inr⟩
theorem Ts{t:List Int}(h:t∈dys (rv m n rs)):t∈dys rs:=by
 obtain⟨r,hr,e⟩:=An.1 h;exact An.2 ⟨r,rF hr,e⟩
theorem HL(h:rs≠[]):0<(dys rs).length:=by
 cases rs with
 |nil=>exact absurd rfl h
 |cons r rs=>exact List.length_pos_of_mem (An.2 ⟨r,List.mem_cons_self ..,rfl⟩)
theorem Q9{u:Nat}(h:u<(dys rs).length):∃p q:Int,(dys rs)[u]? = some [p,q]:=by
 obtain⟨r,_,e⟩:=An.1 (List.getElem_mem h);exact⟨_,_,by rw[List.getElem?_eq_getElem h,e]⟩
theorem IA{L:List (List Int)}{z:List Value}{u:Nat}{p q:Int}(hw:∀r∈L,r.length=2)(h:L[u]? = some [p,q]):iA (aV L++z) (0+u*2) 2=some [.int .i64 p,.int .i64 q]:=by
 rw[Nat.zero_add];exact yC hw h
theorem VM(i0:I64 x0)(i1:I64 x1)(i2:I64 x2)(i3:I64 x3)(i4:I64 x4)(i5:I64 x5)(i6:I64 x6):Wd 7 [[x0,x1,x2,x3,x4,x5,x6]]:=
 ⟨fun r hr=>by rw[List.mem_singleton.1 hr];rfl,fun r hr x hx=>by
  rw[List.mem_singleton.1 hr] at hx;simp only[List.mem_cons,List.not_mem_nil,or_false] at hx;rcases hx with rfl|rfl|rfl|rfl|rfl|rfl|rfl <;> assumption⟩
theorem Ra{x:List Int}{c:Int}(h:PB x c):PB (x.take k) c:=fun i=>by
 have:=h i;by_cases q:i<k
 ·rw[List.getD_eq_getElem?_getD,List.getElem?_take,if_pos q,<-List.getD_eq_getElem?_getD];exact this
 ·rw[List.getD_eq_getElem?_getD,List.getElem?_take,if_neg q]
  show -c<=0/\0<=c;omega
section
variable{X:FuncId->List Value->St->(Value->St->Bool)->Bool}
theorem Db(n:Nat)(a:Option Addr)(cap:Nat)(rs:List (List Int))(s:St)(hs:Wf s)(hn:844424930131968<=n)(hr:RowsE s 7 a rs)(h60:rs.length<=60):bS Tryz.prog (bX bZ) X (n+700) 39 [.slice a rs.length cap] s (fun v A=>∃aD cD U,v = .slice aD (dys rs).length cD/\A=U/\wT 86 2 aD (dys rs).length cD (dys rs) U/\Wd 2 (dys rs)/\(dys rs).length<=rs.length):=by
 refine Ms (Ai n a cap rs s hs hn hr h60 (X:=X)) (fun v A q=>?_);rcases q with ⟨rfl,rfl,rfl⟩|⟨hne,b,rfl,rfl,hW,hl⟩
 ·exact⟨none,0,[],rfl,rfl,.inl ⟨rfl,rfl,rfl,rfl,rfl⟩,Wd.nil,Nat.le_refl _⟩
 ·exact⟨_,OPEN,_,rfl,rfl,.inr ⟨b,[],rfl,rfl,rfl,.inl ⟨rfl,HL hne⟩,by rw[List.append_nil]⟩,hW,hl⟩
theorem rG(n:Nat)(d r al up:Int)(a1 a2:Option Addr)(c1 c2:Nat)(l1 l2:List Int)(a3 a4:Option Addr)(c3 c4:Nat)(rs cs:List (List Int))(ax:Option Addr)(cx:Nat)(x:List Int)(N9:Nat)(s:St)(hs:Wf s)(hn:2814749767106560<=n)(hl1:aN s a1 l1)(hl2:aN s a2 l2)(hr:RowsE s 7 a3 rs)(hc:RowsE s 6 a4 cs)(hX:aN s ax x)(hcx:jM s ax x.length cx)(hN9:N9=l1.length*l2.length)(hq1:l1.length<=4)(hq2:l2.length<=3)(hq3:rs.length<=14)(hq4:cs.length<=5)(hxl:x.length=N9+1+(dys rs).length)(hxb:PB x 163840000):bS Tryz.prog (bX bZ) X (n+2500) 70 [.agg ⟨[.int .i64 d,.int .i64 r,.slice a1 l1.length c1,.slice a2 l2.length c2,.int .i64 al,.int .i64 up,.slice a3 rs.length c3,.slice a4 cs.length c4]⟩,.slice ax x.length cx] s (fun v A=>∃aR cR RU bY ys,v = .tuple #[.agg ⟨[.int .i64 d,.int .i64 r,.slice a1 l1.length c1,.slice a2 l2.length c2,.int .i64 al,.int .i64 up,.slice aR (rv (l1.length:Int) (l2.length:Int) rs).length cR,.slice a4 cs.length c4]⟩,.slice (some ⟨bY,0,none⟩) (N9+1+(dys (rv (l1.length:Int) (l2.length:Int) rs)).length) OPEN]/\A = .row bY 3 true (ints ys)::RU/\wT 89 7 aR (rv (l1.length:Int) (l2.length:Int) rs).length cR (rv (l1.length:Int) (l2.length:Int) rs) RU/\ys.length=N9+1+(dys (rv (l1.length:Int) (l2.length:Int) rs)).length/\PB ys 163840000):=by
 refine enter Qq rfl hs ?_;unfold O9;have hlen1:=hl1.len;have hlen2:=hl2.len;have hlen3:=hr.len;have hlen4:=hc.len;have hlen5:=hX.len;have hN12:l1.length*l2.length<=12:=Nat.mul_le_mul hq1 hq2;have htk:(x.take (N9+1)).length=N9+1:=by rw[List.length_take];omega
 have hdl:=uX hr;have hN9i:(l1.length:Int)*(l2.length:Int)=((N9:Nat):Int):=by rw[hN9,Int.natCast_mul]
 refine rS (aZ J J J (fun b1=>(bA J J (fun b2=>(kM J (Q0 (rS (aK J (aO J .h1 J (kO (Z4 J J (fun s1 h1=>Db _ _ _ rs s1 h1.wf oM (hr.ext hs h1.2.1) oM) (fun v1 A1 q1=>?_))))))))))));obtain⟨aD9,cD9,UD,rfl,hAD,hRD,hWD,hlD⟩:=q1;rw[hAD];refine kM J (Q0 (rS (aK J (cI J dE (.app .h1) J (aI J J (fun s1 h1=>gQ _ _ _ _ _ _ _ _ _ _ _ s1 h1.wf oM (hl1.ext hs h1.2.1) (hl2.ext hs h1.2.1) oM) ?_)))));rw[hN9i];refine kM J (Q0 (rS (cI J dE (.app .h1) J (bA J J (fun b3=>(kZ (Q6 J J .here rfl rfl rfl rfl (Q0 (rS (aK J (kZ (cW J J .here rfl rfl (Q0 (rQ (rS (kM J (Q0 (W1 ?_))))))))))))))))));refine U4 (fun j e A=>∃(k:Nat) (aR:Option Addr) (nR cR:Nat) (RU:List Ob),e=[(1,.slice ax x.length cx),(2,.pointer (some ⟨b1,0,none⟩)),(4,.pointer (some ⟨b2,0,none⟩)),(6,.slice aD9 (dys rs).length cD9),(7,.int .i64 (N9:Int)),(8,.pointer (some ⟨b3,0,none⟩)),(9,.int .i64 (k:Int))]/\A=(RU++(.row b3 37 false ([.int .i64 d,.int .i64 r,.slice a1 l1.length c1,.slice a2 l2.length c2,.int .i64 al,.int .i64 up,.slice aR nR cR,.slice a4 cs.length c4])::(UD++(.row b2 37 false ([.int .i64 0,.int .i64 0,.slice none 0 0,.slice none 0 0,.int .i64 0,.int .i64 0,.slice none 0 0,.slice none 0 0])::(.row b1 37 false ([.int .i64 d,.int .i64 r,.slice a1 l1.length c1,.slice a2 l2.length c2,.int .i64 al,.int .i64 up,.slice a3 rs.length c3,.slice a4 cs.length c4])::[])))))/\j=rs.length-k/\k<=rs.length/\nR=(rv (l1.length:Int) (l2.length:Int) (rs.take k)).length/\wT 89 7 aR nR cR (rv (l1.length:Int) (l2.length:Int) (rs.take k)) RU/\Wd 7 (rv (l1.length:Int) (l2.length:Int) (rs.take k))) 700 562949953421312 281474976710656 ?_ (j:=_) (env2:=_) (A2:=_) ?_ ?_ ?_ ?_ ⟨0,none,0,0,[],rfl,rfl,rfl,Nat.zero_le _,rfl,(.inl ⟨rfl,rfl,rfl,rfl,rfl⟩),Wd.nil⟩
 rotate_left
 ·omega
 ·omega
 ·exact lL
 ·exact(.q (.r (.q (.q .slnil))))
 rintro n hn j _ _ ⟨k,aR,nR,cR,RU,rfl,rfl,rfl,hk,hnR,hU,hWv⟩;have hsp9:=hU.spot;have hrk9:=Mu (m:=(l1.length:Int)) (n:=(l2.length:Int)) (rs:=rs) (k:=k);refine rQ (rS (kM J (aK J (aO J (.app (.next (.app .h1))) J (aJ J (by first|exact hr.spot|exact hRL.spot|exact hX.spot) (cX J J (fun h4=>?_) (fun h4=>?_)))))))
 ·obtain⟨q7,o7,x0,x1,x2,x3,x4,x5,x6,ahr,hx,hat,i0,i1,i2,i3,i4,i5,i6⟩:=hr.row7 (k:=k) oM
  have hat2:=hat;obtain⟨d0,d1,d2,d3,d4,d5,d6,_⟩:=hat2;have:=i0.lo;have:=i0.hi;have:=i1.lo;have:=i1.hi;have:=i2.lo;have:=i2.hi;have:=i3.lo;have:=i3.hi;have:=i4.lo;have:=i4.hi;have:=i5.lo;have:=i5.hi;have:=i6.lo;have:=i6.hi;refine Q0 (Y0 J (Q1 (W0 (rQ (W1 (rS (aK J (cI J dE (.app (.next (.app .h1))) J (aK J (aO J (.app (.next (.app .h1))) J (kM J (kO (cM (j:=k) ahr rfl rfl (by first|rfl|omega) (by first|decide|omega) (kO (eF J dE aM J (kO (bE J J (fun s1 h1=>sX _ _ _ _ _ _ _ _ _ _ _ _ _ _ _ _ _ _ s1 h1.wf oM (hl1.ext hs h1.2.1) (hl2.ext hs h1.2.1)) (fun h5=>?_) (fun h5=>?_))))))))))))))))))
  ·have hval:=h5
   refine Q0 (Y0 J (rI (aK J (aO J (.app .here) J (aK J (aO J (.app (.next (.app .h1))) J (kM J (kO (cM (j:=k) ahr rfl rfl (by first|rfl|omega) (by first|decide|omega) (kO (eF J dE aM J (bB J J J (fun b6=>(kO (yD hU .h1 J J .here hWv.len rfl dE oM oM (fun b99=>(aK J (kZ (cW J J .h2 J J (Q0 (Z1 (W0 (rI (kM J (aW J J oM (kM J (Q0 (W0 ?_))))))))))))))))))))))))))));exact⟨rfl,_,_,_,(show rs.length-(k+1)<rs.length-k from oM),lL,(.q (.cons _ (.q (.r (.q (.q .slnil)))))),⟨k+1,some ⟨b99,0,none⟩,nR+1,OPEN,[.row b99 89 true (aV (rv (l1.length:Int) (l2.length:Int) (rs.take (k+1))))],rfl,(by rw[<-Q8 hx hval];rfl),rfl,oM,(by rw[C9 hx hval,List.length_append,hnR];rfl),(.inr ⟨_,[],rfl,by rw[C9 hx hval,List.length_append,hnR];rfl,rfl,.inl ⟨rfl,oM⟩,by rw[List.append_nil]⟩),(by rw[C9 hx hval];exact hWv.app (VM i0 i1 i2 i3 i4 i5 i6))⟩⟩
  ·have hval:=h5
   refine Q0 (U0 J (Q1 (Z1 (W0 (rI (kM J (aW J J oM (kM J (Q0 (W0 ?_))))))))));exact⟨rfl,_,_,_,(show rs.length-(k+1)<rs.length-k from oM),lL,(.r (.q (.r (.q (.q .slnil))))),⟨k+1,aR,nR,cR,RU,rfl,rfl,rfl,oM,(by rw[Mt hx hval];exact hnR),(by rw[Mt hx hval];exact hU),(by rw[Mt hx hval];exact hWv)⟩⟩
 ·obtain rfl:k=rs.length:=oM
  rw[List.take_length] at hU hWv hnR;subst hnR;have hrk9:=Mu (m:=(l1.length:Int)) (n:=(l2.length:Int)) (rs:=rs) (k:=rs.length);rw[List.take_length] at hrk9;refine Q0 (U0 J (Y4 (Z2 (Z2 (Q3 (W0 (rS (bB J J J (fun b7=>(kM J (kM J (aW J J oM (kO (Fv (h:=(x.take (N9+1)).length) hX rfl rfl (by rw[List.length_take];omega) oM (by rw[List.length_take];omega) hcx (kO (Ta J (fun b hb=>by cases hb;rfl) J (Mr (hX.take (N9+1)) (fun e=>by rw[e] at htk;cases htk)) oM oM oM (fun b8=>(kM J (Q0 (rS (aK J (aO J (.next (.next (.app .here))) J (kO (Z4 J J (fun s1 h1=>Db _ _ _ (rv (l1.length:Int) (l2.length:Int) rs) s1 h1.wf oM (hU.rows (.cons _ (.cons _ sA)) h1 hWv oM) oM) (fun v1 A1 q1=>?_)))))))))))))))))))))))));obtain⟨aL9,cL9,UL,rfl,hAL,hRL,hWL,hlL⟩:=q1;rw[hAL];refine kM J (Q0 (rQ (rS (kM J (Q0 (W1 (jP (.app .here) ?_)))))));rw[show(x.take (N9+1)).length=N9+1+0 from htk];refine U4 (fun j e A=>∃(u b cp:Nat) (ys:List Int),e=[(1,.slice ax x.length cx),(4,.pointer (some ⟨b2,0,none⟩)),(6,.slice aD9 (dys rs).length cD9),(7,.int .i64 (N9:Int)),(8,.pointer (some ⟨b3,0,none⟩)),(10,.slice (some ⟨b,0,none⟩) (N9+1+u) OPEN),(11,.slice aL9 (dys (rv (l1.length:Int) (l2.length:Int) rs)).length cL9),(12,.int .i64 (u:Int))]/\A=(.row b 3 true (ints ys)::(UL++(RU++(.row b3 37 false ([.int .i64 d,.int .i64 r,.slice a1 l1.length c1,.slice a2 l2.length c2,.int .i64 al,.int .i64 up,.slice aR (rv (l1.length:Int) (l2.length:Int) rs).length cR,.slice a4 cs.length c4])::(UD++(.row b2 37 false ([.int .i64 0,.int .i64 0,.slice none 0 0,.slice none 0 0,.int .i64 0,.int .i64 0,.slice none 0 0,.slice none 0 0])::[]))))))/\j=(dys (rv (l1.length:Int) (l2.length:Int) rs)).length-u/\u<=(dys (rv (l1.length:Int) (l2.length:Int) rs)).length/\ys.length=N9+1+u/\PB ys 163840000) 500 281474976710656 281474976710656 ?_ (j:=_) (env2:=_) (A2:=_) ?_ ?_ ?_ ?_ ⟨0,b8,OPEN,x.take (N9+1),rfl,rfl,rfl,Nat.zero_le _,htk,(Ra hxb)⟩
  rotate_left
  ·omega
  ·omega
  ·exact lL
  ·exact(.q (.r (.cons _ (.r (.q (.r (.q (.cons _ .slnil))))))))
  rintro n hn j _ _ ⟨u,b,cp,ys,rfl,rfl,rfl,hu,hyl,hyb⟩;refine rQ (rS (kM J (kM J (aJ J (by first|exact hr.spot|exact hRL.spot|exact hX.spot) (cX J J (fun h9=>?_) (fun h9=>?_))))))
  ·obtain⟨bL,zL,haL,how⟩:=hRL.own (show 0<(dys (rv (l1.length:Int) (l2.length:Int) rs)).length by omega)
   obtain⟨p,q,hpq⟩:=Q9 (rs:=(rv (l1.length:Int) (l2.length:Int) rs)) (u:=u) oM;have hmem:=Ts (List.mem_of_getElem? hpq);have hix:=qZ hmem;refine Q0 (Y0 J (Q1 (W0 (rQ (W1 (rI (kM J (kM J (kM J (aW J J oM (kM J (kM J (kM J (kO (cM (j:=u) haL rfl rfl (by first|rfl|omega) (by first|decide|omega) (cI J dE (.next (how _)) (IA hWL.len hpq) (aI J J (fun s1 h1=>oX _ aD9 cD9 (dys rs) p q s1 h1.wf oM (hRD.rows (.cons _ (sR (sR (.cons _ sA)))) h1 hWD oM)) ?_)))))))))))))))));rw[qA hmem];refine aW J J oM (kO (Q7 (j:=(N9+1+wS [p,q] (dys rs))) hX rfl rfl oM (by first|rfl|omega) oM (fun _ _ a10=>(kO (W6 J (hX.at a10 oM) (bB J J J (fun b11=>(kO (cK J J (fH.own .here rfl sM) .h1 (by rw[bO,hyl,Nat.mul_one]) (.inl ⟨rfl,rfl⟩) dE oM oM (fun b12=>(kM J (Q0 (Z1 (W0 (rI (kM J (aW J J oM (kM J (Q0 (W0 ?_))))))))))))))))))));exact⟨rfl,_,_,_,(show(dys (rv (l1.length:Int) (l2.length:Int) rs)).length-(u+1)<(dys (rv (l1.length:Int) (l2.length:Int) rs)).length-u by omega),lL,(.q (.cons _ (.r (.r (.q (.r (.q .slnil))))))),⟨u+1,b12,OPEN,ys++[x.getD (N9+1+wS [p,q] (dys rs)) 0],rfl,(by rw[tP];rfl),rfl,oM,(by rw[List.length_append,hyl];rfl),(hyb.add oM (hxb _) oM)⟩⟩
  ·have hn9:u=(dys (rv (l1.length:Int) (l2.length:Int) rs)).length:=oM
   refine Q0 (U0 J (Y4 (Z2 (Z2 (Q3 (W0 (rS (cI J dE (.next (.app (.app .here))) J (kM J (kZ (Q6 J J (.next (.app (.app (.next (.app .here))))) J J J J (kM J (Q0 (V2 ?_))))))))))))));subst hn9;exact Bs J dE (.q (sR (.r (.cons _ (sR (.cons _ .slnil)))))) (.next (.app (.app (.next (.app .here))))) J J ⟨aR,cR,RU,_,ys,rfl,by rw[List.append_nil],hU,hyl,hyb⟩
end
variable{rs:List (List Int)}{k i:Nat}{x0 x1 x2 x3 x4 x5 x6 v:Int}
theorem RowsE.row5{s:St}{a:Option Addr}(h:RowsE s 5 a rs)(hk:k<rs.length):∃b o w0 w1 w2 w3 w4,a=some ⟨b,o,none⟩/\rs[k]? = some [w0,w1,w2,w3,w4]/\pR s b (o+k*5) [.int .i64 w0,.int .i64 w1,.int .i64 w2,.int .i64 w3,.int .i64 w4]/\I64 w0/\I64 w1/\I64 w2/\I64 w3/\I64 w4:=by
 obtain⟨b,o,r,h1,h2,h3,h4,h5⟩:=h.row hk;obtain⟨w0,r1,rfl,g1⟩:=bD h3;obtain⟨w1,r2,rfl,g2⟩:=bD g1;obtain⟨w2,r3,rfl,g3⟩:=bD g2;obtain⟨w3,r4,rfl,g4⟩:=bD g3;obtain⟨w4,r5,rfl,g5⟩:=bD g4;have:r5=[]:=List.eq_nil_of_length_eq_zero g5;subst this;exact⟨b,o,w0,w1,w2,w3,w4,h1,h2,h4,h5 w0 sM,h5 w1 sM,h5 w2 sM,h5 w3 sM,h5 w4 sM⟩
theorem Rb{m n:Int}(h:pY m n rs=true)(hc:(1<=x0/\x0<=99999)/\(0<=x1/\x1<=m-1)/\(0<=x2/\x2<=n-1)/\(0<=x4/\x4<=1000)/\(0<=x3/\x3<=20000-x4)/\(1<=x5/\x5<=99)/\(0<=x6/\x6<=100000)):pY m n (rs++[[x0,x1,x2,x3,x4,x5,x6]])=true:=C8.2 (fun r hr=>by
 rcases List.mem_append.1 hr with q|q
 ·exact C8.1 h r q
 ·rw[List.mem_singleton.1 q]
  show(decide _ && true)=true;rw[decide_eq_true hc];rfl)
theorem Rc{l r:List (List Int)}:pZ (l++r)=(pZ l && pZ r):=by
 induction l with
 |nil=>rfl
 |cons a l ih=>
  match a with
  |[z0,z1,z2,z3,z4,z5]=>
   show(decide _ && pZ (l++r))=((decide _ && pZ l) && pZ r);rw[ih,Bool.and_assoc]
  |[]=>rfl
  |[_]=>rfl
  |[_,_]=>rfl
  |[_,_,_]=>rfl
  |[_,_,_,_]=>rfl
  |[_,_,_,_,_]=>rfl
  |_::_::_::_::_::_::_::_=>rfl
theorem HM{cs:List (List Int)}{z0 z1 z2 z3 z4 z5:Int}(h:pZ cs=true)(hc:(1<=z0/\z0<=99999)/\(1<=z1/\z1<=99)/\(0<=z2/\z2<=z3/\z3<=100000)/\(-1000<=z4/\z4<=z5/\z5<=1000)):pZ (cs++[[z0,z1,z2,z3,z4,z5]])=true:=by
 rw[Rc,h];show(true && (decide _ && true))=true;rw[decide_eq_true hc];rfl
theorem HN{cs:List (List Int)}{z0 z1 z2 z3 z4 z5:Int}:aV cs++[.int .i64 z0,.int .i64 z1,.int .i64 z2,.int .i64 z3,.int .i64 z4,.int .i64 z5]=aV (cs++[[z0,z1,z2,z3,z4,z5]]):=by rw[dT];rfl
theorem WD(i0:I64 x0)(i1:I64 x1)(i2:I64 x2)(i3:I64 x3)(i4:I64 x4)(i5:I64 x5):Wd 6 [[x0,x1,x2,x3,x4,x5]]:=
 ⟨fun r hr=>by rw[List.mem_singleton.1 hr];rfl,fun r hr x hx=>by
  rw[List.mem_singleton.1 hr] at hx;simp only[List.mem_cons,List.not_mem_nil,or_false] at hx;rcases hx with rfl|rfl|rfl|rfl|rfl|rfl <;> assumption⟩
theorem tQ{L:List Int}{x:Int}(h:HC L x)(hx:x<=100000):∀z∈L,-9223372036854775808<=z/\z<9223372036854775808:=fun z hz=>by
 have:=h.2 z hz;omega
structure FE(rs r3:List (List Int)):Prop where
 len:r3.length=rs.length
 row:∀(k:Nat) (x0 x1 x2 x3 x4 x5 x6:Int),rs[k]? = some [x0,x1,x2,x3,x4,x5,x6]->∃v,r3[k]? = some [x0,x1,x2,v,x4,x5,x6]
theorem FE.refl:FE rs rs:=⟨rfl,fun k x0 x1 x2 x3 x4 x5 x6 h=>⟨x3,h⟩⟩
theorem rH{x c:Int}(hx:-9223372036854775808<=x/\x<9223372036854775808)(hc:2<=c):-9223372036854775808<=x.tdiv c/\x.tdiv c<9223372036854775808:=by
 have key:∀y:Int,0<=y->0<=y.tdiv c/\y.tdiv c<=y:=fun y hy=>by
  rw[Int.tdiv_eq_ediv_of_nonneg hy];exact⟨Int.ediv_nonneg hy oM,Int.ediv_le_self _ hy⟩
 by_cases h:0<=x
 ·have:=key x h;omega
 ·have e:x.tdiv c = -((-x).tdiv c):=by rw[Int.neg_tdiv,Int.neg_neg]
  have h1:=key (-x) oM;have h2:(-x).tdiv c<=9223372036854775808:=oM
  rw[e];omega
theorem Ao:(dys rs).length<=rs.length:=by
 have key:∀(M D:List (List Int)),(M.foldl gK D).length<=D.length+M.length:=by
  intro M
  induction M with
  |nil=>intro D;exact Nat.le_refl _
  |cons a M ih=>
   intro D;have h1:=ih (gK D a);have h2:(gK D a).length<=D.length+1:=by
    unfold gK;split
    ·omega
    ·rw[List.length_append];exact Nat.le_refl _
   show(M.foldl gK (gK D a)).length<=D.length+(M.length+1);omega
 have:=key rs []
 rwa [List.length_nil,Nat.zero_add] at this
theorem tR(hw:Wd 7 rs)(hk:k<rs.length):∃x0 x1 x2 x3 x4 x5 x6:Int,rs[k]? = some [x0,x1,x2,x3,x4,x5,x6]:=by
 have hr:=hw.len _ (List.getElem_mem hk);rw[List.getElem?_eq_getElem hk]
 match rs[k],hr with
 |[x0,x1,x2,x3,x4,x5,x6],_=>exact⟨x0,x1,x2,x3,x4,x5,x6,rfl⟩
theorem tS{a b:Nat}(h1:0<=x1/\x1<=(a:Int)-1)(h2:0<=x2/\x2<=(b:Int)-1):∃uN:Nat,1+x1*(b:Int)+x2=(uN:Int)/\uN<=a*b:=by
 obtain⟨p,rfl⟩:∃p:Nat,x1=(p:Int):=⟨x1.toNat,oM⟩;obtain⟨q,rfl⟩:∃q:Nat,x2=(q:Int):=⟨x2.toNat,oM⟩;refine⟨1+p*b+q,by rw[Int.natCast_add,Int.natCast_add,Int.natCast_mul];rfl,?_⟩;have:=Nat.mul_le_mul_right b (show p+1<=a from oM);rw[Nat.add_mul,Nat.one_mul] at this;omega
theorem Bt{x:List Int}(h:PB x 163840000):∀z∈x,-9223372036854775808<=z/\z<9223372036854775808:=fun z hz=>by
 obtain⟨i,hi,e⟩:=List.mem_iff_getElem.1 hz;have:=h i;rw[List.getD_eq_getElem?_getD,List.getElem?_eq_getElem hi,e] at this;have this:-163840000<=z/\z<=163840000:=this;omega
theorem tT{s:St}{b n c:Nat}{l:List Value}{op:Bool}(ht:Cc op n c)(h:Obj s b 3 op l)(hn:n<=l.length):jM s (some ⟨b,0,none⟩) n c:=by
 rcases ht with ⟨rfl,rfl⟩|⟨rfl,rfl,h2⟩
 ·exact jM.own h hn
 ·exact .inl ⟨h2,Nat.le_refl _⟩
def qB(rs:List (List Int))(i:Nat)(v:Int):List (List Int):=rs.set i ((rs.getD i []).set 3 v)
theorem tA:(qB rs i v).length=rs.length:=by unfold qB;rw[List.length_set]
theorem HO(h:rs[i]? = some [x0,x1,x2,x3,x4,x5,x6]):(qB rs i v)[i]? = some [x0,x1,x2,v,x4,x5,x6]:=by
 obtain⟨hi,_⟩:=List.getElem?_eq_some_iff.1 h;unfold qB;rw[List.getElem?_set,if_pos rfl,if_pos hi,Sv.getD_of h];rfl
theorem HP(h:i≠k):(qB rs i v)[k]? = rs[k]?:=by unfold qB;rw[List.getElem?_set,if_neg h]
theorem FE.set{rs r3:List (List Int)}(h:FE rs r3):FE rs (qB r3 i v):=⟨by rw[tA,h.len],fun k x0 x1 x2 x3 x4 x5 x6 hx=>by
 obtain⟨u,hu⟩:=h.row k x0 x1 x2 x3 x4 x5 x6 hx;by_cases q:i=k
 ·subst q;exact⟨v,HO hu⟩
 ·exact⟨u,by rw[HP q];exact hu⟩⟩
theorem Ap(hw:Wd 7 rs)(h:rs[i]? = some [x0,x1,x2,x3,x4,x5,x6])(hv:I64 v):Wd 7 (qB rs i v):=by
 have hm:∀r∈qB rs i v,r=[x0,x1,x2,v,x4,x5,x6]∨r∈rs:=fun r hr=>by
  obtain⟨k,hk⟩:=List.mem_iff_getElem?.1 hr;by_cases q:i=k
  ·subst q;rw[HO h] at hk;cases hk;exact .inl rfl
  ·rw[HP q] at hk;exact .inr (List.mem_of_getElem? hk)
 have h0:=List.mem_of_getElem? h;have hf:=hw.fit _ h0;refine⟨fun r hr=>?_,fun r hr x hx=>?_⟩
 ·rcases hm r hr with rfl|q
  ·rfl
  ·exact hw.len r q
 ·rcases hm r hr with rfl|q
  ·simp only[List.mem_cons,List.not_mem_nil,or_false] at hx
   rcases hx with rfl|rfl|rfl|rfl|rfl|rfl|rfl
   ·exact hf _ sM
   ·exact hf _ sM
   ·exact hf _ sM
   ·exact hv
   ·exact hf _ sM
   ·exact hf _ sM
   ·exact hf _ sM
  ·exact hw.fit r q x hx
theorem Rd{L M:List (List Int)}(h:L.map (fun r=>[r.getD 5 0,r.getD 6 0])=M.map (fun r=>[r.getD 5 0,r.getD 6 0])):dys L=dys M:=by
 have key:∀(L M D:List (List Int)),L.map (fun r=>[r.getD 5 0,r.getD 6 0])=M.map (fun r=>[r.getD 5 0,r.getD 6 0])->L.foldl gK D=M.foldl gK D:=by
  intro L
  induction L with
  |nil=>intro M D h;cases M with|nil=>rfl|cons a M=>cases h
  |cons a L ih=>
   intro M D h;cases M with
   |nil=>cases h
   |cons b M=>
    rw[List.map_cons,List.map_cons] at h;obtain⟨e1,e2⟩:=List.cons.inj h;have e3:gK D a=gK D b:=by
     unfold gK;rw[e1]
    show L.foldl gK (gK D a)=M.foldl gK (gK D b);rw[e3];exact ih M _ e2
 exact key L M [] h
theorem FE.dys{rs r3:List (List Int)}(h:FE rs r3)(hw:∀r∈rs,r.length=7):dys r3=dys rs:=by
 refine Rd (List.ext_getElem? (fun k=>?_));rw[List.getElem?_map,List.getElem?_map];by_cases q:k<rs.length
 ·have hr:=hw _ (List.getElem_mem q)
  obtain⟨x0,x1,x2,x3,x4,x5,x6,e⟩:∃x0 x1 x2 x3 x4 x5 x6,rs[k]? = some [x0,x1,x2,x3,x4,x5,x6]:=by
   rw[List.getElem?_eq_getElem q]
   match rs[k],hr with
   |[x0,x1,x2,x3,x4,x5,x6],_=>exact⟨x0,x1,x2,x3,x4,x5,x6,rfl⟩
  obtain⟨v,e2⟩:=h.row k _ _ _ _ _ _ _ e;rw[e,e2];rfl
 ·rw[List.getElem?_eq_none (by have:=h.len;omega),List.getElem?_eq_none oM]
theorem Bu{w:Nat}:∀{L:List (List Int)} {i t:Nat} {r:List Int},(∀r∈L,r.length=w)->L[i]? = some r->t<w->(aV L)[i*w+t]? = (r.map (Value.int .i64))[t]?:=fun {L i t r} hw h ht=>by
 have hr:r.length=w:=hw r (List.mem_of_getElem? h);exact(gO (sY hw h)).2 t (by rw[List.length_map,hr];exact ht)
theorem tU{z:List Value}(hw:∀r∈rs,r.length=7)(h:rs[i]? = some [x0,x1,x2,x3,x4,x5,x6]):(aV rs++z).set (0+i*7+3) (.int .i64 v)=aV (qB rs i v)++z:=by
 obtain⟨hi,he⟩:=List.getElem?_eq_some_iff.1 h;have e1:rs=rs.take i++[[x0,x1,x2,x3,x4,x5,x6]]++rs.drop (i+1):=by
  rw[List.append_assoc,List.singleton_append,<-he,<-List.drop_eq_getElem_cons hi,List.take_append_drop]
 have e2:qB rs i v=rs.take i++[[x0,x1,x2,v,x4,x5,x6]]++rs.drop (i+1):=by
  unfold qB;rw[Sv.getD_of h,List.set_eq_take_append_cons_drop,if_pos hi,List.append_assoc,List.singleton_append];rfl
 have hl:(aV (rs.take i)).length=i*7:=by
  rw[aA (w:=7) (fun r hr=>hw r (List.mem_of_mem_take hr)),List.length_take,Nat.min_eq_left oM]
 rw[e2]
 conv=>lhs;rw[e1]
 rw[dT,dT,dT,dT,List.append_assoc,List.append_assoc,List.append_assoc,List.append_assoc,Nat.zero_add,List.set_append_right _ _ (by rw[hl];omega),hl,Nat.add_sub_cancel_left];rfl
theorem nT{L:List (List Int)}{z:List Value}{u:Nat}(hw:∀r∈L,r.length=7)(h:L[u]? = some [x0,x1,x2,x3,x4,x5,x6]):iA (aV L++z) (0+u*7) 7=some [.int .i64 x0,.int .i64 x1,.int .i64 x2,.int .i64 x3,.int .i64 x4,.int .i64 x5,.int .i64 x6]:=by
 rw[Nat.zero_add];exact yC hw h
section
variable{X:FuncId->List Value->St->(Value->St->Bool)->Bool}
end
end Ev
end Go.Proofs.YtjkdkpckjgaplaaGreat
