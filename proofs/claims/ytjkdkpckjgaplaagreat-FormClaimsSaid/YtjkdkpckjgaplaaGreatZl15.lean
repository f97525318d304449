import Derived.Test.YtjkdkpckjgaplaaGreatZl13
import Derived.Test.YtjkdkpckjgaplaaGreatZl14
import Derived.Test.YtjkdkpckjgaplaaGreatZl08
set_option linter.unusedVariables false
set_option linter.unusedSimpArgs false
namespace Go.Proofs.YtjkdkpckjgaplaaGreat
open Go Go.RowKit
namespace Ev
variable{m r al up:Int}{l1 l2:List Int}{rs cs:List (List Int)}
theorem RO{l r:List (List Int)}:mU m (l++r)=(mU m l && mU m r):=by
 induction l with
 |nil=>rfl
 |cons a l ih=>
  match a with
  |[y0,y1,y2,y3]=>
   show(decide _ && mU m (l++r))=((decide _ && mU m l) && mU m r);rw[ih,Bool.and_assoc]
  |[]=>rfl
  |[_]=>rfl
  |[_,_]=>rfl
  |[_,_,_]=>rfl
  |_::_::_::_::_::_=>rfl
def LV(m:Int)(L:List (List Int)):Prop:=mU m L=true
theorem LV.nil:LV m []:=rfl
theorem LV.app{L M:List (List Int)}(h:LV m L)(k:LV m M):LV m (L++M):=by
 unfold LV at *;rw[RO,h,k];rfl
theorem LV.acc{m:Int}{X:List (List Int)}{f:Nat->List (List Int)}(hX:LV m X):∀t,(∀k,k<t->LV m (f k))->LV m (acc X f t)
 |0,_=>hX
 |t+1,h=>(LV.acc hX t (fun k hk=>h k oM)).app (h t oM)
theorem LV.lm{m a b m1 m2 y:Int}(hm:0<=m/\m<=64)(ha:0<=a/\a<=m)(hb:0<=b/\b<=m)(hab:¬a=b)(h1:-20000<=m1/\m1<=20000)(h2:-20000<=m2/\m2<=20000)(hy:1<=y/\y<=99999):LV m (mI a b m1 m2 y):=by
 show(decide _ && (decide _ && true))=true;rw[decide_eq_true ⟨hm,ha,hb,hab,h1,hy⟩,decide_eq_true ⟨hm,hb,ha,fun e=>hab e.symm,h2,hy⟩];rfl
def NN(L:List (List Int)):Prop:=∀r∈L,0<=r.getD 2 0
theorem NN.nil:NN []:=fun _ h=>(by cases h)
theorem NN.app{L M:List (List Int)}(h:NN L)(k:NN M):NN (L++M):=fun r hr=>(List.mem_append.1 hr).elim (h r) (k r)
theorem NN.acc{X:List (List Int)}{f:Nat->List (List Int)}(hX:NN X):∀t,(∀k,k<t->NN (f k))->NN (acc X f t)
 |0,_=>hX
 |t+1,h=>(NN.acc hX t (fun k hk=>h k oM)).app (h t oM)
theorem NN.lm{a b m1 m2 y:Int}(h1:0<=m1)(h2:0<=m2):NN (mI a b m1 m2 y):=fun r hr=>by
 rcases List.mem_cons.1 hr with rfl|hr
 ·exact h1
 ·rw[List.mem_singleton.1 hr];exact h2
theorem DW{s:St}{a4:Option Addr}(hsr:1<=r/\r<=99999)(hsa:0<=al/\al<=100000)(hsu:0<=up/\up<=100000)(hpl:cJ l1 l2=true)(hcpb:pG cs=true)(hc:RowsE s 6 a4 cs)(hm:m=(l1.length:Int)*(l2.length:Int)+((dys rs).length:Int))(hm64:m<=64):LV m (Sv.b5 (Sv.mk r al up l1 l2 rs cs) 0)/\NN (Sv.b5 (Sv.mk r al up l1 l2 rs cs) 0)/\∀i,i<=cs.length->LV m (Sv.b5 (Sv.mk r al up l1 l2 rs cs) i):=by
 have hp1:=fZ hpl;have hp2:=gO hpl;have hm1:=hp1.hm;have hm2:(l2.length:Int)<=7:=DL hpl;have h22:=hp2.h2;have hM:=gA (x:=(l1.length:Int)) (y:=(l2.length:Int)) oM oM;have hNM:((l2.length*l1.length:Nat):Int)=(l1.length:Int)*(l2.length:Int):=by rw[Int.natCast_mul,Int.mul_comm]
 have hmm:0<=m/\m<=64:=oM
 have hk9:∀k,k<l2.length*l1.length->k / l2.length<l1.length:=fun k hk=>Nat.div_lt_of_lt_mul hk
 have hkn:∀k,k % l2.length<l2.length:=fun k=>Nat.mod_lt _ oM
 have hsp:∀k,k<l2.length*l1.length->∃i w,w<l2.length/\i<l1.length/\k=l2.length*i+w:=fun k hk=>⟨k / l2.length,k % l2.length,hkn k,hk9 k hk,(Nat.div_add_mod k l2.length).symm⟩
 have q1:∀k,k<l2.length*l1.length->LV m (Sv.q1 (Sv.mk r al up l1 l2 rs cs) k)/\NN (Sv.q1 (Sv.mk r al up l1 l2 rs cs) k):=fun k hk=>⟨LV.lm hmm oM oM oM oM oM hsr,NN.lm oM oM⟩
 have q2:∀k,k<l2.length*l1.length->LV m (Sv.q2 (Sv.mk r al up l1 l2 rs cs) k)/\NN (Sv.q2 (Sv.mk r al up l1 l2 rs cs) k):=fun k hk=>by
  obtain⟨i,w,hw,hi,rfl⟩:=hsp k hk;by_cases hq:(i:Int)+1<(l1.length:Int)
  ·rw[Sv.q2_yes (y:=(Sv.mk r al up l1 l2 rs cs)) hw hq]
   have z0:=hp1.lo i;have z1:=hp1.lo (i+1);have z2:=hp1.rise i oM;have hb:=CG (r:=al) (d:=l1.getD (i+1) 0-l1.getD i 0) hsa oM;have e1:1+((i:Int)+1)*(l2.length:Int)+(w:Int)=((l2.length*(i+1)+w:Nat):Int)+1:=by
    rw[Int.natCast_add,Int.natCast_mul,Int.mul_comm (l2.length:Int)];have:((i+1:Nat):Int)=(i:Int)+1:=rfl;rw[this];omega
   have e2:l2.length*(i+1)+w<l2.length*l1.length:=by
    have:=Nat.mul_le_mul_left l2.length (show i+2<=l1.length from oM);rw[show i+2=i+1+1 from rfl,Nat.mul_add l2.length (i+1),Nat.mul_one] at this;omega
   have e3:l2.length*(i+1)=l2.length*i+l2.length:=by rw[Nat.mul_add,Nat.mul_one]
   exact⟨LV.lm hmm (by show 0<=((l2.length*i+w:Nat):Int)+1/\((l2.length*i+w:Nat):Int)+1<=m;omega) (by show 0<=1+((i:Int)+1)*(l2.length:Int)+(w:Int)/\1+((i:Int)+1)*(l2.length:Int)+(w:Int)<=m;omega) (by show ¬((l2.length*i+w:Nat):Int)+1=1+((i:Int)+1)*(l2.length:Int)+(w:Int);omega) (by show _<=uZ al (l1.getD (i+1) 0-l1.getD i 0)/\uZ al (l1.getD (i+1) 0-l1.getD i 0)<=_;omega) (by show _<=uZ al (l1.getD (i+1) 0-l1.getD i 0)/\uZ al (l1.getD (i+1) 0-l1.getD i 0)<=_;omega) hsr,NN.lm hb.1 hb.1⟩
  ·rw[Sv.q2_no (y:=(Sv.mk r al up l1 l2 rs cs)) hw hq];exact⟨LV.nil,NN.nil⟩
 have q3:∀k,k<l2.length*l1.length->LV m (Sv.q3 (Sv.mk r al up l1 l2 rs cs) k)/\NN (Sv.q3 (Sv.mk r al up l1 l2 rs cs) k):=fun k hk=>by
  obtain⟨i,w,hw,hi,rfl⟩:=hsp k hk;by_cases hq:(w:Int)+1<(l2.length:Int)
  ·rw[Sv.q3_yes (y:=(Sv.mk r al up l1 l2 rs cs)) hw hq]
   have z0:=hp2.lo w;have z1:=hp2.lo (w+1);have z2:=hp2.rise w oM;have hb:=CG (r:=up) (d:=l2.getD (w+1) 0-l2.getD w 0) hsu oM;have e1:1+(i:Int)*(l2.length:Int)+((w:Int)+1)=((l2.length*i+(w+1):Nat):Int)+1:=by
    rw[Int.natCast_add,Int.natCast_mul,Int.mul_comm (l2.length:Int)];have:((w+1:Nat):Int)=(w:Int)+1:=rfl;rw[this];omega
   have e2:l2.length*i+(w+1)<l2.length*l1.length:=by
    have:=Nat.mul_le_mul_left l2.length (show i+1<=l1.length from oM);rw[Nat.mul_add,Nat.mul_one] at this;omega
   exact⟨LV.lm hmm (by show 0<=((l2.length*i+w:Nat):Int)+1/\((l2.length*i+w:Nat):Int)+1<=m;omega) (by show 0<=1+(i:Int)*(l2.length:Int)+((w:Int)+1)/\1+(i:Int)*(l2.length:Int)+((w:Int)+1)<=m;omega) (by show ¬((l2.length*i+w:Nat):Int)+1=1+(i:Int)*(l2.length:Int)+((w:Int)+1);omega) (by show _<=uZ up (l2.getD (w+1) 0-l2.getD w 0)/\uZ up (l2.getD (w+1) 0-l2.getD w 0)<=_;omega) (by show _<=uZ up (l2.getD (w+1) 0-l2.getD w 0)/\uZ up (l2.getD (w+1) 0-l2.getD w 0)<=_;omega) hsr,NN.lm hb.1 hb.1⟩
  ·rw[Sv.q3_no (y:=(Sv.mk r al up l1 l2 rs cs)) hw hq];exact⟨LV.nil,NN.nil⟩
 have q4:∀k,k<(dys rs).length->LV m (Sv.q4 (Sv.mk r al up l1 l2 rs cs) k)/\NN (Sv.q4 (Sv.mk r al up l1 l2 rs cs) k):=fun k hk=>⟨LV.lm hmm oM (show 0<=(l1.length:Int)*(l2.length:Int)+1+(k:Int)/\(l1.length:Int)*(l2.length:Int)+1+(k:Int)<=m from oM) (show ¬(0:Int)=(l1.length:Int)*(l2.length:Int)+1+(k:Int) from oM) oM oM hsr,NN.lm oM oM⟩
 have e4:LV m (Sv.b5 (Sv.mk r al up l1 l2 rs cs) 0):=(((LV.nil.acc _ (fun k hk=>(q1 k hk).1)).acc _ (fun k hk=>(q2 k hk).1)).acc _ (fun k hk=>(q3 k hk).1)).acc _ (fun k hk=>(q4 k hk).1);refine⟨e4,(((NN.nil.acc _ (fun k hk=>(q1 k hk).2)).acc _ (fun k hk=>(q2 k hk).2)).acc _ (fun k hk=>(q3 k hk).2)).acc _ (fun k hk=>(q4 k hk).2),?_⟩;intro i
 induction i with
 |zero=>intro _;exact e4
 |succ i ih=>
  intro hi;refine LV.acc (ih oM) (dys rs).length (fun k hk=>?_);obtain⟨_,_,z0,z1,z2,z3,z4,z5,_,hz,_,j0,j1,j2,j3,j4,j5⟩:=hc.row6 (k:=i) oM;have hcd:=tS hcpb hz;have hz':cs.getD i []=[z0,z1,z2,z3,z4,z5]:=Sv.getD_of hz;unfold Sv.q5;split
  ·show LV m (mI 0 ((l1.length:Int)*(l2.length:Int)+1+(k:Int)) (-(cs.getD i []).getD 4 0) ((cs.getD i []).getD 5 0) ((cs.getD i []).getD 0 0))
   rw[hz'];exact LV.lm hmm oM oM oM (show _<=-z4/\-z4<=_ from oM) (show _<=z5/\z5<=_ from oM) (show _<=z0/\z0<=_ from oM)
  ·exact LV.nil
theorem mN{X:List (List Int)}{f:Nat->List (List Int)}{r:List Int}(h:r∈X):∀t,r∈acc X f t
 |0=>h
 |t+1=>List.mem_append_left _ (mN h t)
theorem vG{X:List (List Int)}{f:Nat->List (List Int)}{r:List Int}{k:Nat}(h:r∈f k):∀t,k<t->r∈acc X f t
 |0,hk=>absurd hk (Nat.not_lt_zero k)
 |t+1,hk=>by
  by_cases e:k=t
  ·subst e;exact List.mem_append_right _ h
  ·exact List.mem_append_left _ (vG h t oM)
theorem AO{y:Sv}{r:List Int}(h:r∈Sv.b5 y 0):∀i,r∈Sv.b5 y i
 |0=>h
 |i+1=>mN (AO h i) _
theorem Hi{M:Nat}(hM:M=l1.length*l2.length+(dys rs).length)(i:Nat):PD (Sv.b5 (Sv.mk r al up l1 l2 rs cs) i) (M+1):=by
 have at_:∀{x:List Int},x∈Sv.b5 (Sv.mk r al up l1 l2 rs cs) i->∃k,k<(Sv.b5 (Sv.mk r al up l1 l2 rs cs) i).length/\(Sv.b5 (Sv.mk r al up l1 l2 rs cs) i)[k]? = some x:=fun h=>by
  obtain⟨k,hk,e⟩:=List.mem_iff_getElem.1 h;exact⟨k,hk,by rw[List.getElem?_eq_getElem hk,e]⟩
 intro u h0 hu;have key:∃y1 y2 z1 z2:Int,[0,(u:Int),y1,z1]∈Sv.b5 (Sv.mk r al up l1 l2 rs cs) i/\[(u:Int),0,y2,z2]∈Sv.b5 (Sv.mk r al up l1 l2 rs cs) i:=by
  by_cases c:u<=l1.length*l2.length
  ·have hk:u-1<l2.length*l1.length:=by rw[Nat.mul_comm];omega
   have e:((u-1:Nat):Int)+1=(u:Int):=oM
   have m1:[0,(u:Int),20000,r]∈Sv.q1 (Sv.mk r al up l1 l2 rs cs) (u-1):=by unfold Sv.q1 mI;rw[e];exact List.mem_cons_self ..
   have m2:[(u:Int),0,0,r]∈Sv.q1 (Sv.mk r al up l1 l2 rs cs) (u-1):=by unfold Sv.q1 mI;rw[e];exact List.mem_cons_of_mem _ (List.mem_cons_self ..)
   exact⟨_,_,_,_,AO (mN (mN (mN (vG m1 _ hk) _) _) _) i,AO (mN (mN (mN (vG m2 _ hk) _) _) _) i⟩
  ·have hk:u-1-l1.length*l2.length<(dys rs).length:=oM
   have e:Sv.M (Sv.mk r al up l1 l2 rs cs)+1+((u-1-l1.length*l2.length:Nat):Int)=(u:Int):=by
    show(l1.length:Int)*(l2.length:Int)+1+_=_;have:((l1.length*l2.length:Nat):Int)=(l1.length:Int)*(l2.length:Int):=Int.natCast_mul ..;omega
   have m1:[0,(u:Int),1000,r]∈Sv.q4 (Sv.mk r al up l1 l2 rs cs) (u-1-l1.length*l2.length):=by unfold Sv.q4 mI;rw[e];exact List.mem_cons_self ..
   have m2:[(u:Int),0,1000,r]∈Sv.q4 (Sv.mk r al up l1 l2 rs cs) (u-1-l1.length*l2.length):=by unfold Sv.q4 mI;rw[e];exact List.mem_cons_of_mem _ (List.mem_cons_self ..)
   exact⟨_,_,_,_,AO (vG m1 _ hk) i,AO (vG m2 _ hk) i⟩
 obtain⟨y1,y2,z1,z2,k1,k2⟩:=key;obtain⟨p,p1,p2⟩:=at_ k1;obtain⟨q,q1,q2⟩:=at_ k2;exact⟨⟨p,p1,_,_,p2⟩,⟨q,q1,_,_,q2⟩⟩
/-! Where no limit is below 0, no way is. -/
def Nn(T:Nat->Nat->Int):Prop:=∀a b,0<=T a b
theorem RP{T:Nat->Nat->Int}{m i k:Nat}(h:Nn T):Nn (Qq T m i k):=fun a b=>by
 rw[wV];split
 ·have:=h i k;have:=h i m;have:=h m k;omega
 ·exact h a b
theorem Qr{T:Nat->Nat->Int}{m i:Nat}(h:Nn T):∀k,Nn (kT T m i k)
 |0=>h
 |k+1=>RP (Qr h k)
theorem Qs{T:Nat->Nat->Int}{N m:Nat}(h:Nn T):∀i,Nn (iT T N m i)
 |0=>h
 |i+1=>Qr (Qs h i) N
theorem Qt{T:Nat->Nat->Int}{N:Nat}(h:Nn T):∀m,Nn (mT T N m)
 |0=>h
 |m+1=>Qs (Qt h m) N
theorem Hj{ls:List (List Int)}(h:NN ls):∀k,k<=ls.length->Nn (qZ ls k)
 |0,_=>fun a b=>by show 0<=T0 a b;unfold T0;split <;> omega
 |k+1,hk=>fun a b=>by
  have ih:=Hj h k oM;have hr:0<=(ls.getD k []).getD 2 0:=by
   rw[List.getD_eq_getElem?_getD (l:=ls),List.getElem?_eq_getElem (show k<ls.length from oM)];exact h _ (List.getElem_mem _)
  show 0<=nQ _ _ _ _ a b;unfold nQ;split
  ·have:=ih ((ls.getD k []).getD 0 0).toNat ((ls.getD k []).getD 1 0).toNat;omega
  ·exact ih a b
theorem LF{ls:List (List Int)}{N:Nat}(h:NN ls):Ij (wm ls N N) N:=fun a _=>Qt (Hj h _ (Nat.le_refl _)) N a a
theorem LG(h1:l1.length<=4)(h2:l2.length<=3)(h3:(dys rs).length<=14)(h4:cs.length<=5):(Sv.b5 (Sv.mk r al up l1 l2 rs cs) cs.length).length<=400:=by
 have key:∀(X:List (List Int)) (f:Nat->List (List Int)) (t:Nat),(∀k,(f k).length<=2)->(acc X f t).length<=X.length+2*t:=by
  intro X f t h
  induction t with
  |zero=>exact Nat.le_refl _
  |succ t ih=>show(acc X f t++f t).length<=_;rw[List.length_append];have:=h t;omega
 have hN:l2.length*l1.length<=12:=Nat.mul_le_mul h2 h1;have g1:=key [] (Sv.q1 (Sv.mk r al up l1 l2 rs cs)) (l2.length*l1.length) (fun k=>Nat.le_refl _);have g2:=key (Sv.b1 (Sv.mk r al up l1 l2 rs cs)) (Sv.q2 (Sv.mk r al up l1 l2 rs cs)) (l2.length*l1.length) (fun k=>by unfold Sv.q2;split;exact Nat.le_refl _;exact Nat.zero_le _);have g3:=key (Sv.b2 (Sv.mk r al up l1 l2 rs cs)) (Sv.q3 (Sv.mk r al up l1 l2 rs cs)) (l2.length*l1.length) (fun k=>by unfold Sv.q3;split;exact Nat.le_refl _;exact Nat.zero_le _);have g4:=key (Sv.b3 (Sv.mk r al up l1 l2 rs cs)) (Sv.q4 (Sv.mk r al up l1 l2 rs cs)) (dys rs).length (fun k=>Nat.le_refl _);have g5:∀i,(Sv.b5 (Sv.mk r al up l1 l2 rs cs) i).length<=(Sv.b5 (Sv.mk r al up l1 l2 rs cs) 0).length+28*i:=by
  intro i
  induction i with
  |zero=>exact Nat.le_refl _
  |succ i ih=>
   have:=key (Sv.b5 (Sv.mk r al up l1 l2 rs cs) i) (Sv.q5 (Sv.mk r al up l1 l2 rs cs) i) (dys rs).length (fun k=>by unfold Sv.q5;split;exact Nat.le_refl _;exact Nat.zero_le _);have e:Sv.b5 (Sv.mk r al up l1 l2 rs cs) (i+1)=acc (Sv.b5 (Sv.mk r al up l1 l2 rs cs) i) (Sv.q5 (Sv.mk r al up l1 l2 rs cs) i) (dys rs).length:=rfl;rw[e];omega
 have g7:=g5 cs.length;have c1:Sv.b1 (Sv.mk r al up l1 l2 rs cs)=acc [] (Sv.q1 (Sv.mk r al up l1 l2 rs cs)) (l2.length*l1.length):=rfl;have c2:Sv.b2 (Sv.mk r al up l1 l2 rs cs)=acc (Sv.b1 (Sv.mk r al up l1 l2 rs cs)) (Sv.q2 (Sv.mk r al up l1 l2 rs cs)) (l2.length*l1.length):=rfl;have c3:Sv.b3 (Sv.mk r al up l1 l2 rs cs)=acc (Sv.b2 (Sv.mk r al up l1 l2 rs cs)) (Sv.q3 (Sv.mk r al up l1 l2 rs cs)) (l2.length*l1.length):=rfl;have c4:Sv.b5 (Sv.mk r al up l1 l2 rs cs) 0=acc (Sv.b3 (Sv.mk r al up l1 l2 rs cs)) (Sv.q4 (Sv.mk r al up l1 l2 rs cs)) (dys rs).length:=rfl;rw[c1] at g2;rw[c2,c1] at g3;rw[c3,c2,c1] at g4;rw[c4,c3,c2,c1] at g7;simp only[List.length_nil] at g1;omega
section
variable{X:FuncId->List Value->St->(Value->St->Bool)->Bool}
end
end Ev
end Go.Proofs.YtjkdkpckjgaplaaGreat
namespace Go.Proofs.YtjkdkpckjgaplaaGreat.Ev
open Go Go.RowKit
section
variable{P:Program}{C:Nat->(CF->Bool)->Bool}{X:FuncId->List Value->St->(Value->St->Bool)->Bool}{nt:Nat}{r:Option Nat}{env:List (Nat×Value)}{D:List Nat}{Q:iH->List (Nat×Value)->List Nat->St->Prop}{s:St}
end
section
variable{P:Program}{C:Nat->(CF->Bool)->Bool}{X:FuncId->List Value->St->(Value->St->Bool)->Bool}{s0:St}{n nt:Nat}{r:Option Nat}{env:List (Nat×Value)}{D:List Nat}{A:List Ob}{Q:iH->List (Nat×Value)->List Nat->List Ob->Prop}
end
end Go.Proofs.YtjkdkpckjgaplaaGreat.Ev
namespace Go.Proofs.YtjkdkpckjgaplaaGreat
open Go Go.RowKit
namespace Ev
variable{s0:St}{env:List (Nat×Value)}{A A' U:List Ob}{b m e n c k h nt TT w:Nat}{op:Bool}{l z:List Value}{a:Option Addr}{P:Program}{C:Nat->(CF->Bool)->Bool}{R:Value->List Ob->Prop}{x:Ev.X}{rs L:List (List Int)}{y:Sv}
theorem LH{l:List Value}:∀{r:List Value} {i:Nat},(∀t,t<r.length->l[i+t]? = r[t]?)->jD l i r.length=some r
 |[],_,_=>rfl
 |v::r,i,h=>by
  have h0:=h 0 sM;have h1:=LH (l:=l) (r:=r) (i:=i+1) (fun t ht=>by
   have:=h (t+1) (by simp;omega);simpa [Nat.add_assoc,Nat.add_comm 1 t] using this)
  rw[Nat.add_zero] at h0;show jD l i (r.length+1)=_;unfold jD;rw[h0,h1];rfl
theorem LI{D:List Nat}{a b o m e:Nat}{l r:List Value}{Q:Value->List Ob->Prop}{A2:List Ob}(ha:look env a=some (.pointer (some ⟨b,o,none⟩)))(h0:m≠0)(hd:yD A D A2)(ho:lK A2 b e op l)(hv:jD l o m=some r)(hq:Q (.agg ⟨r⟩) A2):uV s0 [.cell a (some m)] Q .ret env D A:=
 ⟨A2,[.agg ⟨r⟩],A2,hd,⟨b,o,r,[],rfl,ha,h0,⟨e,op,l,ho,hv⟩,rfl⟩,List.Sublist.refl _,hq⟩
theorem AP{a u b o m e:Nat}{l r:List Value}{w:Value}{Q:Value->List Ob->Prop}(ha:look env a=some (.pointer (some ⟨b,o,none⟩)))(h0:m≠0)(hs:A'.Sublist A)(ho:lK A b e op l)(hv:jD l o m=some r)(hu:look env u=some w)(hq:Q (.tuple #[.agg ⟨r⟩,w]) A'):ES s0 [.cell a (some m),.tmp u] Q .ret env [] A:=
 ⟨rfl,[.agg ⟨r⟩,w],A',⟨b,o,r,[w],rfl,ha,h0,⟨e,op,l,ho,hv⟩,w,[],rfl,hu,rfl⟩,hs,hq⟩
def Tz(TU:Nat)(a:Option Addr)(n c:Nat)(l:List Value)(UL:List Ob):Prop:=(a=none/\n=0/\c=0/\l=[]/\UL=[])∨∃b op,a=some ⟨b,0,none⟩/\0<n/\l.length=n*2/\xR op n c/\UL=[.row b TU op l]
theorem Tz.len{TU:Nat}{UL:List Ob}(h:Tz TU a n c l UL):l.length=n*2:=by
 rcases h with ⟨_,rfl,_,rfl,_⟩|⟨_,_,_,_,hl,_⟩
 ·rfl
 ·exact hl
theorem LJ{row:Nat->Option (Nat×Nat×Bool)}(hr:row b=some (k,107,true))(hk:h*4<=k):evSlc row 107 4 (.slice (some ⟨b,0,none⟩) n OPEN) none (some (.int .i64 (h:Int))) none=some (.slice (some ⟨b,0,none⟩) h OPEN):=by
 show(match row b with
  |some (k,e',op)=>sel (op && Nat.beq 107 e' && Nat.beq 0 ((OPEN-OPEN)*4) && !Nat.beq 4 0 && (Nat.beq OPEN OPEN || !Nat.beq n 0)) (evSlcOpen b 4 0 h k (OPEN-OPEN) none) none
  |none=>none)=_
 rw[hr];show sel (Nat.ble 0 h && Nat.ble ((0+h)*4) k) (some (Value.slice (some ⟨b,(0+0)*4,none⟩) (h-0) (OPEN+(0+0)))) none=_;rw[show Nat.ble 0 h=true from by rw[Nat.ble_eq];omega,show Nat.ble ((0+h)*4) k=true from by rw[Nat.ble_eq];omega];rfl
theorem LK{X:FuncId->List Value->St->(Value->St->Bool)->Bool}{x hi:Ev.X}{l9:List Value}(hx:xv env x=some (.slice (some ⟨b,0,none⟩) m OPEN))(h_hi:xv env hi=some (.int .i64 (h:Int)))(ho:lK A b 107 true l9)(hk:h*4<=l9.length)
 (hR:R (.slice (some ⟨b,0,none⟩) h OPEN) A):fT P C X s0 n nt (.slc 107 4 x none (some hi) none) env A R:=.mk fun s hs T hT q hq=>by
 refine U5 hT (k:=fun x=>eU T (some hi) (fun o_hi=>nO s 107 4 x none o_hi none (vK s q))) hx ?_;refine U5 hT (k:=fun v=>nO s 107 4 _ none (some v) none (vK s q)) h_hi ?_;unfold nO;obtain⟨c,h3,_⟩:=hs.own ho;have hrow:iW s b=some (l9.length,107,true):=by
  unfold iW;rw[h3]
 have key:=LJ (n:=m) hrow hk;rw[key];show gY (Value.slice (some ⟨b,0,none⟩) h OPEN) (vK s q)=true;rw[eC];exact hq _ _ ⟨A,hs,hR⟩
theorem LL{row:Nat->Option (Nat×Nat×Bool)}(hr:row b=some (k,91,true))(hk:h*6<=k):evSlc row 91 6 (.slice (some ⟨b,0,none⟩) n OPEN) none (some (.int .i64 (h:Int))) none=some (.slice (some ⟨b,0,none⟩) h OPEN):=by
 show(match row b with
  |some (k,e',op)=>sel (op && Nat.beq 91 e' && Nat.beq 0 ((OPEN-OPEN)*6) && !Nat.beq 6 0 && (Nat.beq OPEN OPEN || !Nat.beq n 0)) (evSlcOpen b 6 0 h k (OPEN-OPEN) none) none
  |none=>none)=_
 rw[hr];show sel (Nat.ble 0 h && Nat.ble ((0+h)*6) k) (some (Value.slice (some ⟨b,(0+0)*6,none⟩) (h-0) (OPEN+(0+0)))) none=_;rw[show Nat.ble 0 h=true from by rw[Nat.ble_eq];omega,show Nat.ble ((0+h)*6) k=true from by rw[Nat.ble_eq];omega];rfl
theorem LM{X:FuncId->List Value->St->(Value->St->Bool)->Bool}{x hi:Ev.X}{l9:List Value}(hx:xv env x=some (.slice (some ⟨b,0,none⟩) m OPEN))(h_hi:xv env hi=some (.int .i64 (h:Int)))(ho:lK A b 91 true l9)(hk:h*6<=l9.length)
 (hR:R (.slice (some ⟨b,0,none⟩) h OPEN) A):fT P C X s0 n nt (.slc 91 6 x none (some hi) none) env A R:=.mk fun s hs T hT q hq=>by
 refine U5 hT (k:=fun x=>eU T (some hi) (fun o_hi=>nO s 91 6 x none o_hi none (vK s q))) hx ?_;refine U5 hT (k:=fun v=>nO s 91 6 _ none (some v) none (vK s q)) h_hi ?_;unfold nO;obtain⟨c,h3,_⟩:=hs.own ho;have hrow:iW s b=some (l9.length,91,true):=by
  unfold iW;rw[h3]
 have key:=LL (n:=m) hrow hk;rw[key];show gY (Value.slice (some ⟨b,0,none⟩) h OPEN) (vK s q)=true;rw[eC];exact hq _ _ ⟨A,hs,hR⟩
theorem RQ{X:FuncId->List Value->St->(Value->St->Bool)->Bool}{e size bytes b len cap m:Nat}{z more l:List Value}{x y:Ev.X}{yv:Value}(hcap:cap=OPEN)(hx:xv env x=some (.slice (some ⟨b,0,none⟩) len cap))(hy:xv env y=some yv)(hsrc:fK s0 A size m more yv)(hu:pL A b e true l (over l (len*size) more) A')(hfit:(len+m)*size<=l.length)(hb1:len+m<=1048576)(hb2:bytes*(len+m)<=1073741824)
 (h:R (.slice (some ⟨b,0,none⟩) (len+m) OPEN) A'):fT P C X s0 n nt (.app e size bytes z false x y) env A R:=.mk fun s hs T hT k hk=>by
 refine U5 hT (k:=fun x=>bO T y (fun y=>kX s e size bytes z false x y k)) hx (U5 hT (k:=fun y=>kX s e size bytes z false _ y k) hy ?_);unfold kX;refine rR hs hsrc ?_;obtain⟨_,_,_,_,hml,hm0,_⟩:=hsrc;show ifB (Nat.beq cap 0) _ (ifB (Nat.ble (Nat.add len m) 1048576) (ifB (Nat.ble (Nat.mul bytes (Nat.add len m)) 1073741824) (eR s e size b 0 len cap m more k) false) false)=true;rw[uT (show cap≠0 by rw[hcap];decide)];show ifB (Nat.ble (Nat.add len m) 1048576) (ifB (Nat.ble (Nat.mul bytes (Nat.add len m)) 1073741824) (eR s e size b 0 len cap m more k) false) false=true;rw[show Nat.ble (Nat.add len m) 1048576=true from by rw[Nat.ble_eq];exact hb1,show Nat.ble (Nat.mul bytes (Nat.add len m)) 1073741824=true from by rw[Nat.ble_eq];exact hb2];show eR s e size b 0 len cap m more k=true;obtain⟨c,hc,hf,hg⟩:=hs.own hu.own;unfold eR;refine fE (k:=_) hc ?_;have hfit2:len*size+more.length<=l.length:=by rw[hml,<-Nat.add_mul];exact hfit
 show ifB (Nat.beq e e) (ifB (Nat.ble OPEN cap) (ifB true (ifB (Nat.beq 0 0) (ifB (Nat.beq cap OPEN) (ifB (Nat.ble (Nat.mul (Nat.add len m) size) l.length) (fM c (Nat.mul len size) more _) _) _) _) _) _) false=true;rw[show Nat.beq e e=true from by rw[Nat.beq_eq],show Nat.ble OPEN cap=true from by rw[Nat.ble_eq];omega,show Nat.beq cap OPEN=true from by rw[Nat.beq_eq];exact hcap,show Nat.ble (Nat.mul (Nat.add len m) size) l.length=true from by rw[Nat.ble_eq];exact hfit];show fM c (len*size) more _=true;refine nD hf hfit2 (fun c' hc' hg'=>eX hs.wf (eE.lt hs.wf hc) (fun s1 hm1 hn1 hd1=>?_));rw[bG];have hol:(over l (len*size) more).length=l.length:=lV hfit2;refine hk _ _ ⟨_,hs.upd hu hm1 ⟨c',by rw[hol];exact hd1,by rw[hol];exact hc',fun j=>?_⟩,h⟩;rw[hg',oX hfit2];by_cases h1:len*size<=j/\j<len*size+more.length
 ·rw[if_pos h1,if_pos h1]
 ·rw[if_neg h1,if_neg h1,hg]
inductive zB(U:List Ob):List Ob->List Ob->Prop where
 |here {A:List Ob}:zB U (U++A) A
 |next {x:Ob} {A A':List Ob} (h:zB U A A'):zB U (x::A) (x::A')
section
variable{x0 x1 x2 x3 x4 x5 x6 x7 x8:Ob}{U A:List Ob}
theorem zB.h1:zB U (x0::(U++A)) (x0::A):=.next .here
theorem zB.h2:zB U (x0::x1::(U++A)) (x0::x1::A):=.next .h1
theorem zB.h3:zB U (x0::x1::x2::(U++A)) (x0::x1::x2::A):=.next .h2
theorem zB.h4:zB U (x0::x1::x2::x3::(U++A)) (x0::x1::x2::x3::A):=.next .h3
theorem zB.h5:zB U (x0::x1::x2::x3::x4::(U++A)) (x0::x1::x2::x3::x4::A):=.next .h4
theorem zB.h6:zB U (x0::x1::x2::x3::x4::x5::(U++A)) (x0::x1::x2::x3::x4::x5::A):=.next .h5
theorem zB.h7:zB U (x0::x1::x2::x3::x4::x5::x6::(U++A)) (x0::x1::x2::x3::x4::x5::x6::A):=.next .h6
theorem zB.h8:zB U (x0::x1::x2::x3::x4::x5::x6::x7::(U++A)) (x0::x1::x2::x3::x4::x5::x6::x7::A):=.next .h7
theorem zB.h9:zB U (x0::x1::x2::x3::x4::x5::x6::x7::x8::(U++A)) (x0::x1::x2::x3::x4::x5::x6::x7::x8::A):=.next .h8
end
theorem zB.parts(h:zB U A A'):∃A1 A2,A=A1++(U++A2)/\A'=A1++A2:=by
 induction h with
 |here=>exact⟨[],_,rfl,rfl⟩
 |next _ ih=>
  obtain⟨A1,A2,h1,h2⟩:=ih;exact⟨_::A1,A2,by rw[h1];rfl,by rw[h2];rfl⟩
theorem LN{X:FuncId->List Value->St->(Value->St->Bool)->Bool}{x:Ob}{c:COp}(hd:gG A x A')(h:fT P C X s0 n nt c env (x::A') R):fT P C X s0 n nt c env A R:=.mk fun s hs=>h.go s (hs.front hd)
def vV(TT w:Nat)(a:Option Addr)(n c:Nat)(rs:List (List Int))(U:List Ob):Prop:=(a=none/\n=0/\c=0/\rs=[]/\U=[])∨∃b z,a=some ⟨b,0,none⟩/\rs.length=n/\c=OPEN/\(z=[]/\0<n∨z.length=w)/\U=[.row b TT true (aT rs++z)]
theorem vV.spot(h:vV TT w a n c rs U):∀b,a=some b->b.spot=none:=fun b hb=>by
 rcases h with ⟨rfl,_⟩|⟨b',z,rfl,_⟩
 ·cases hb
 ·cases hb;rfl
theorem wW{i:Nat}{r:List Int}(hw:∀r∈L,r.length=w)(h:L[i]? = some r):jD (aT L++z) (i*w) (r.map (Value.int .i64)).length=some (r.map (Value.int .i64)):=by
 have hr:r.length=w:=hw r (List.mem_of_getElem? h);obtain⟨hi,_⟩:=List.getElem?_eq_some_iff.1 h;have e1:=uY hw h;have hl:=aA hw;have hb:(i+1)*w<=L.length*w:=Nat.mul_le_mul_right w hi;rw[Nat.add_mul,Nat.one_mul] at hb;refine LH (fun t ht=>?_);rw[List.length_map,hr] at ht;have h2:=(jP e1).2 t (by rw[List.length_map,hr];exact ht);rw[List.getElem?_append_left oM];exact h2
theorem RowsE.ownFP{s:St}(h:Obj s b e op (aT L++z))(hw:Wd w L)(hl:L.length<140737488355328):RowsE s w (some ⟨b,0,none⟩) L:=
 ⟨fun c hc=>by cases hc;rfl,fun _=>⟨b,0,rfl⟩,fun c o hc i r hr=>by
  cases hc;rw[Nat.zero_add];exact h.ats (jP (wW hw.len hr)).2,hw.len,hw.fit,hl⟩
theorem vV.rows{s0 s:St}(h:vV TT w a n c rs U)(hA:U.Sublist A)(hs:iP s0 A s)(hw:Wd w rs)(hl:rs.length<140737488355328):RowsE s w a rs:=by
 rcases h with ⟨rfl,_,_,rfl,_⟩|⟨b,z,rfl,_,_,_,h2⟩
 ·exact RowsE.nil
 ·exact RowsE.ownFP ((hs.sub hA).own (by rw[h2];exact .here)) hw hl
theorem vV.len(h:vV TT w a n c rs U):n=rs.length:=by
 rcases h with ⟨_,rfl,_,rfl,_⟩|⟨b,z,_,h,_⟩
 ·rfl
 ·exact h.symm
theorem vV.own(h:vV TT w a n c rs U)(h0:0<n):∃b z,a=some ⟨b,0,none⟩/\∀R,lK (U++R) b TT true (aT rs++z):=by
 rcases h with ⟨_,h,_⟩|⟨b,z,h1,_,_,_,h5⟩
 ·omega
 ·exact⟨b,z,h1,fun R=>by rw[h5];exact .here⟩
theorem wX{X:FuncId->List Value->St->(Value->St->Bool)->Bool}{TU w bytes k c b9 e9 c9:Nat}{op9:Bool}{more z:List Value}{x y:Ev.X}(hU:vV TU w a k c rs U)(hA:zB U A A')(hx:xv env x=some (.slice a k c))(hy:xv env y=some (.slice (some ⟨b9,0,none⟩) 1 c9))(ho:lK A' b9 e9 op9 more)(hw:∀r∈rs,r.length=w)(hm:more.length=w)(h0w:w≠0)(hb1:k+1<=1048576)(hb2:bytes*(k+1)<=1073741824)
 (h:∀b,R (.slice (some ⟨b,0,none⟩) (k+1) OPEN) (.row b TU true (aT rs++more)::A')):fT P C X s0 n nt (.app TU w bytes z false x y) env A R:=by
 obtain⟨A1,A2,e1,e2⟩:=hA.parts;have hsrc:∀{B:List Ob},lK B b9 e9 op9 more->fK s0 B w 1 more (.slice (some ⟨b9,0,none⟩) 1 c9):=fun hB=>⟨b9,0,c9,rfl,by rw[hm,Nat.one_mul],fun q=>by rw[q] at hm;exact h0w hm.symm,.inl ⟨_,_,_,hB,Ay⟩⟩
 rcases hU with ⟨rfl,rfl,rfl,rfl,rfl⟩|⟨b,z9,rfl,hl,rfl,hz,rfl⟩
 ·have e:A=A':=by rw[e1,e2];rfl
  subst e;exact gZ hx hy (hsrc ho) dE oM oM (fun b=>by have:=h b;exact this)
 ·have hd:gG A (.row b TU true (aT rs++z9)) A':=by
   rw[e1,e2];clear e1 e2 hA hsrc h ho
   induction A1 with
   |nil=>exact .here
   |cons p A1 ih=>exact .next ih
  refine LN hd ?_;have hfl:(aT rs).length=k*w:=by rw[aA hw,hl]
  rcases hz with ⟨rfl,h0⟩|hz
  ·rw[List.append_nil]
   exact cO hx hy (hsrc (.next ho)) .here hfl (.inl ⟨rfl,rfl⟩) dE oM oM h
  ·have ho2:over (aT rs++z9) (k*w) more=aT rs++more:=by
    unfold over;rw[List.take_left' hfl,List.drop_eq_nil_of_le (by rw[List.length_append,hfl,hz,hm];omega),List.append_nil]
   refine RQ J hx hy (hsrc (.next ho)) (l:=aT rs++z9) (by rw[ho2];exact .here) ?_ oM oM (h b);rw[List.length_append,hfl,hz,Nat.add_mul,Nat.one_mul];omega
/-! The free limits, within all. -/
theorem wY{X:List (List Int)}{f:Nat->List (List Int)}:∀t,acc X f t=X++acc [] f t
 |0=>(List.append_nil X).symm
 |t+1=>by
  show acc X f t++f t=X++(acc [] f t++f t);rw[wY t,List.append_assoc]
theorem RS:aT (Sv.b6 y)=aT (Sv.b5 y y.cs.length)++aT (acc [] y.q6 y.rs.length):=by
 unfold Sv.b6;rw[wY,dY]
theorem RT:((Sv.b6 y).length:Int)-2*(y.rs.length:Int)=((Sv.b5 y y.cs.length).length:Int):=by
 have key:∀t,(acc [] y.q6 t).length=2*t:=by
  intro t
  induction t with
  |zero=>rfl
  |succ t ih=>
   show(acc [] y.q6 t++y.q6 t).length=_;rw[List.length_append,ih];show 2*t+2=_;omega
 unfold Sv.b6;rw[wY,List.length_append,key];omega
theorem Hk{r al up:Int}{l1 l2:List Int}{rs cs:List (List Int)}:aT (Sv.b6 (Sv.mk r al up l1 l2 rs cs))=aT (Sv.b5 (Sv.mk r al up l1 l2 rs cs) cs.length)++aT (acc [] (Sv.q6 (Sv.mk r al up l1 l2 rs cs)) rs.length):=RS
theorem Hl{r al up:Int}{l1 l2:List Int}{rs cs:List (List Int)}:((Sv.b6 (Sv.mk r al up l1 l2 rs cs)).length:Int)-2*(rs.length:Int)=((Sv.b5 (Sv.mk r al up l1 l2 rs cs) cs.length).length:Int):=RT
theorem Hm:∀r∈Sv.b5 y y.cs.length,r∈Sv.b6 y:=fun r hr=>mN hr _
theorem Wd.sub{L M:List (List Int)}(h:Wd w M)(hs:∀r∈L,r∈M):Wd w L:=⟨fun r hr=>h.len r (hs r hr),fun r hr=>h.fit r (hs r hr)⟩
section
variable{X:FuncId->List Value->St->(Value->St->Bool)->Bool}
theorem LP(n:Nat)(d r al up:Int)(a1 a2:Option Addr)(c1 c2:Nat)(l1 l2:List Int)(a3 a4:Option Addr)(c3 c4:Nat)(rs cs:List (List Int))(s:St)(hs:Wf s)(hn:6755399441055744<=n)(hl1:aN s a1 l1)(hl2:aN s a2 l2)(hr:RowsE s 7 a3 rs)(hc:RowsE s 6 a4 cs)(hpt:nK ((1<=d/\d<=99999)/\(1<=r/\r<=99999)/\(0<=al/\al<=100000)/\(0<=up/\up<=100000)/\cJ l1 l2=true) l1 l2 rs cs=0)(hq1:l1.length<=4)(hq2:l2.length<=3)(hq3:rs.length<=14)(hq4:cs.length<=5):bX Tryz.prog (bZ cB) X (n+5600) 67 [.agg ⟨[.int .i64 d,.int .i64 r,.slice a1 l1.length c1,.slice a2 l2.length c2,.int .i64 al,.int .i64 up,.slice a3 rs.length c3,.slice a4 cs.length c4]⟩] s (fun v A=>(Ij (wm (Sv.b5 (Sv.mk r al up l1 l2 rs cs) cs.length) ((l1.length*l2.length+(dys rs).length)+1) ((l1.length*l2.length+(dys rs).length)+1)) ((l1.length*l2.length+(dys rs).length)+1)/\v = .bool false/\A=[])∨(¬Ij (wm (Sv.b5 (Sv.mk r al up l1 l2 rs cs) cs.length) ((l1.length*l2.length+(dys rs).length)+1) ((l1.length*l2.length+(dys rs).length)+1)) ((l1.length*l2.length+(dys rs).length)+1)/\v = .bool true/\A=[])):=by
 refine enter Pb rfl hs ?_;unfold N6;have hlen1:=hl1.len;have hlen2:=hl2.len;have hlen3:=hr.len;have hlen4:=hc.len;obtain⟨⟨hsd,hsr,hsa,hsu,hpl⟩,h60,h20,hrdb,hcpb⟩:=oN hpt;have hp1:=fZ hpl;have hp2:=gO hpl;have hm1:=hp1.hm;have hm2:(l2.length:Int)<=7:=DL hpl;have h21:=hp1.h2;have h22:=hp2.h2;have hmm:=gA (x:=(l1.length:Int)) (y:=(l2.length:Int)) oM oM;have hmn:=iY (x:=l2.length) (y:=l1.length) oM oM;have hdl:=rY hr;have hW6:=AL hsr hsa hsu hpl h60 h20 hrdb hcpb hr hc (show(dys rs).length<=60 from oM);have hN12:l1.length*l2.length<=12:=Nat.mul_le_mul hq1 hq2;obtain⟨M,hMn⟩:∃M,M=(l1.length*l2.length+(dys rs).length):=⟨_,rfl⟩;have hMI:(M:Int)=(l1.length:Int)*(l2.length:Int)+((dys rs).length:Int):=by rw[hMn,Int.natCast_add,Int.natCast_mul]
 have hF5:(aT (Sv.b5 (Sv.mk r al up l1 l2 rs cs) cs.length)).length=(Sv.b5 (Sv.mk r al up l1 l2 rs cs) cs.length).length*4:=aA (hW6.sub Hm).len;have hlv:=(DW (m:=(M:Int)) hsr hsa hsu hpl hcpb hc hMI oM).2.2 cs.length (Nat.le_refl _);have hst:=Hi (r:=r) (al:=al) (up:=up) (cs:=cs) hMn cs.length;have hfl:=LG (r:=r) (al:=al) (up:=up) hq1 hq2 (show(dys rs).length<=14 from oM) hq4;have hl6:=Qp (r:=r) (al:=al) (up:=up) (cs:=cs) h60 h20 hmn (show(dys rs).length<=60 from oM);have hsysF:fR (M:Int) (Sv.b5 (Sv.mk r al up l1 l2 rs cs) cs.length)=0:=by
  unfold fR;rw[if_pos oM,if_neg oM,if_pos (show mU (M:Int) (Sv.b5 (Sv.mk r al up l1 l2 rs cs) cs.length)=true from hlv)]
 rw[<-hMn];refine rS (aZ J J J (fun b1=>(kM J (Q0 (rS (dD J dE .here rfl (kG (bI J J Dw rfl ?_))))))));unfold Dv;refine rS (aZ J J J (fun b2=>(aY J J (fun b3=>(Q0 (rS (dD J dE .h1 J (kO (Z4 J J (fun s1 h1=>wT _ _ _ _ _ _ _ _ _ _ _ _ _ _ _ _ _ s1 h1.wf oM (hl1.ext hs h1.2.1) (hl2.ext hs h1.2.1) (hr.ext hs h1.2.1) (hc.ext hs h1.2.1) hpt) (fun v1 A1 q1=>?_))))))))));obtain⟨bS4,rfl,rfl⟩:=q1;rw[<-hMI,Hk,List.singleton_append];refine aY J J (fun b5=>(kZ (Q6 J J .here rfl rfl rfl rfl (Q0 (rS (aH J (aL J .here rfl (aH J (aL J .here rfl (kO (cK J (aH J (aL J .h3 J (aJ J (by first|exact hr.spot|exact hc.spot) (aV J J oM (kO (bN J J oM ?_)))))))))))))))));rw[show(((Sv.b6 (Sv.mk r al up l1 l2 rs cs)).length:Nat):Int)-2*(rs.length:Int)=(((Sv.b5 (Sv.mk r al up l1 l2 rs cs) cs.length).length:Nat):Int) from Hl];refine kO (LK (h:=(Sv.b5 (Sv.mk r al up l1 l2 rs cs) cs.length).length) J J .h1 (by rw[List.length_append,hF5];omega) (aH J (kZ (cY J J .here rfl rfl (Q0 (rS (dD J dE .here rfl (kZ (Q6 J J .h2 J J J J (Q0 (V2 (LI J dE .nil .h2 J (kO (Z4 J J (fun s1 h1=>DV _ M _ _ (Sv.b5 (Sv.mk r al up l1 l2 rs cs) cs.length) s1 h1.wf oM (RowsE.ownFP (h1.own .h1) (hW6.sub Hm) oM) (fun _=>Hd hlv hst)) (fun v1 A1 q1=>?_)))))))))))))));rcases q1 with ⟨hc1,rfl,rfl⟩|⟨hc1,hc2,rfl,rfl⟩|⟨hc1,hc2,q1⟩
 ·exact absurd hsysF hc1
 ·have hno:=hc2
  refine kM J (eK J J (eK J J (kM J (kM J (Q0 (rS (kM J (kO (V3 J J (fun _=>(kM J (Q0 (V2 ?_)))) (fun h=>absurd h dE))))))))));exact aO J (.inr ⟨hno,rfl,rfl⟩)
 ·obtain⟨Ux,Bw7,rfl,rfl⟩:=q1
  have hyes:=hc2;refine kM J (eK J J (eK J J (kM J (kM J (Q0 (rS (kM J (kO (V3 J J (fun h=>absurd h dE) (fun _=>(kM J (Q0 (V2 ?_)))))))))))));exact aO J (.inl ⟨hyes,rfl,rfl⟩)
theorem zD(n:Nat)(d r al up:Int)(a1 a2:Option Addr)(c1 c2:Nat)(l1 l2:List Int)(a3 a4:Option Addr)(c3 c4:Nat)(rs cs:List (List Int))(ap:Option Addr)(cp:Nat)(ps:List Int)(s:St)(hs:Wf s)(hn:7318349394477056<=n)(hl1:aN s a1 l1)(hl2:aN s a2 l2)(hr:RowsE s 7 a3 rs)(hc:RowsE s 6 a4 cs)(hpt:nK ((1<=d/\d<=99999)/\(1<=r/\r<=99999)/\(0<=al/\al<=100000)/\(0<=up/\up<=100000)/\cJ l1 l2=true) l1 l2 rs cs=0)(hq1:l1.length<=4)(hq2:l2.length<=3)(hq3:rs.length<=14)(hq4:cs.length<=5)(hSnd:Ij (wm (Sv.b5 (Sv.mk r al up l1 l2 rs cs) cs.length) ((l1.length*l2.length+(dys rs).length)+1) ((l1.length*l2.length+(dys rs).length)+1)) ((l1.length*l2.length+(dys rs).length)+1))(hP:aN s ap ps):bX Tryz.prog (bZ cB) X (n+5600) 68 [.agg ⟨[.int .i64 d,.int .i64 r,.slice a1 l1.length c1,.slice a2 l2.length c2,.int .i64 al,.int .i64 up,.slice a3 rs.length c3,.slice a4 cs.length c4]⟩,.slice ap ps.length cp] s (fun v A=>∃b op c x,v = .slice (some ⟨b,0,none⟩) ((l1.length*l2.length+(dys rs).length)+1) c/\A=[.row b 3 op (ints x)]/\x.length=(l1.length*l2.length+(dys rs).length)+1/\PB x 163840000/\xR op ((l1.length*l2.length+(dys rs).length)+1) c):=by
 refine enter Pc rfl hs ?_;unfold N8;have hlen1:=hl1.len;have hlen2:=hl2.len;have hlen3:=hr.len;have hlen4:=hc.len;obtain⟨⟨hsd,hsr,hsa,hsu,hpl⟩,h60,h20,hrdb,hcpb⟩:=oN hpt;have hp1:=fZ hpl;have hp2:=gO hpl;have hm1:=hp1.hm;have hm2:(l2.length:Int)<=7:=DL hpl;have h21:=hp1.h2;have h22:=hp2.h2;have hmm:=gA (x:=(l1.length:Int)) (y:=(l2.length:Int)) oM oM;have hmn:=iY (x:=l2.length) (y:=l1.length) oM oM;have hdl:=rY hr;have hW6:=AL hsr hsa hsu hpl h60 h20 hrdb hcpb hr hc (show(dys rs).length<=60 from oM);have hN12:l1.length*l2.length<=12:=Nat.mul_le_mul hq1 hq2;obtain⟨M,hMn⟩:∃M,M=(l1.length*l2.length+(dys rs).length):=⟨_,rfl⟩;have hMI:(M:Int)=(l1.length:Int)*(l2.length:Int)+((dys rs).length:Int):=by rw[hMn,Int.natCast_add,Int.natCast_mul]
 have hF5:(aT (Sv.b5 (Sv.mk r al up l1 l2 rs cs) cs.length)).length=(Sv.b5 (Sv.mk r al up l1 l2 rs cs) cs.length).length*4:=aA (hW6.sub Hm).len;have hlv:=(DW (m:=(M:Int)) hsr hsa hsu hpl hcpb hc hMI oM).2.2 cs.length (Nat.le_refl _);have hst:=Hi (r:=r) (al:=al) (up:=up) (cs:=cs) hMn cs.length;have hfl:=LG (r:=r) (al:=al) (up:=up) hq1 hq2 (show(dys rs).length<=14 from oM) hq4;have hl6:=Qp (r:=r) (al:=al) (up:=up) (cs:=cs) h60 h20 hmn (show(dys rs).length<=60 from oM);have hsysF:fR (M:Int) (Sv.b5 (Sv.mk r al up l1 l2 rs cs) cs.length)=0:=by
  unfold fR;rw[if_pos oM,if_neg oM,if_pos (show mU (M:Int) (Sv.b5 (Sv.mk r al up l1 l2 rs cs) cs.length)=true from hlv)]
 rw[<-hMn] at hSnd ⊢;refine rS (aZ J J J (fun b1=>(kM J (Q0 (rS (dD J dE .here rfl (kG (bI J J Dw rfl ?_))))))));unfold Dv;refine rS (aZ J J J (fun b2=>(aY J J (fun b3=>(Q0 (rS (dD J dE .h1 J (kO (Z4 J J (fun s1 h1=>wT _ _ _ _ _ _ _ _ _ _ _ _ _ _ _ _ _ s1 h1.wf oM (hl1.ext hs h1.2.1) (hl2.ext hs h1.2.1) (hr.ext hs h1.2.1) (hc.ext hs h1.2.1) hpt) (fun v1 A1 q1=>?_))))))))));obtain⟨bS4,rfl,rfl⟩:=q1;rw[<-hMI,Hk,List.singleton_append];refine aY J J (fun b5=>(kZ (Q6 J J .here rfl rfl rfl rfl (Q0 (rS (aH J (aL J .here rfl (aH J (aL J .here rfl (kO (cK J (aH J (aL J .h3 J (aJ J (by first|exact hr.spot|exact hc.spot) (aV J J oM (kO (bN J J oM ?_)))))))))))))))));rw[show(((Sv.b6 (Sv.mk r al up l1 l2 rs cs)).length:Nat):Int)-2*(rs.length:Int)=(((Sv.b5 (Sv.mk r al up l1 l2 rs cs) cs.length).length:Nat):Int) from Hl];refine kO (LK (h:=(Sv.b5 (Sv.mk r al up l1 l2 rs cs) cs.length).length) J J .h1 (by rw[List.length_append,hF5];omega) (aH J (kZ (cY J J .here rfl rfl (Q0 (rS (dD J dE .here rfl (kZ (Q6 J J .h2 J J J J (Q0 (V2 (LI J dE .nil .h2 J (kM J (kO (Z4 J J (fun s1 h1=>LE _ M _ _ (Sv.b5 (Sv.mk r al up l1 l2 rs cs) cs.length) _ _ ps s1 h1.wf oM (RowsE.ownFP (h1.own .h1) (hW6.sub Hm) oM) (fun _=>Hd hlv hst) (fun _=>PE hlv hst) (hP.ext hs h1.2.1)) (fun v1 A1 q1=>?_))))))))))))))));rcases q1 with ⟨hc1,rfl,rfl⟩|⟨hc1,hc2,rfl,rfl⟩|⟨hc1,hc2,q1⟩
 ·exact absurd hsysF hc1
 ·exact absurd hSnd hc2
 ·obtain⟨bx6,opx,cqx,x,rfl,rfl,hxl,hxb,hxt⟩:=q1
  refine kM J (eK J J (eK J J (kM J (kM J (Q0 (rS (kM J (kM J (Q0 (V2 ?_))))))))));exact gH J (.q (.cons _ (.cons _ (.cons _ (.cons _ (.cons _ .slnil)))))) ⟨_,opx,cqx,x,rfl,rfl,hxl,hxb,hxt⟩
end
variable{m n x0 x1 x2 x3 x4 x5 x6:Int}{rs:List (List Int)}{k:Nat}
theorem DX{s0:St}{A:List Ob}{a:Option Addr}{l:List Int}{c:Nat}(h:aN s0 a l)(hl:l≠[]):fK s0 A 1 l.length (ints l) (.slice a l.length c):=by
 obtain⟨b,o,rfl⟩:=h.addr hl;exact⟨b,o,c,rfl,by rw[bU,Nat.mul_one],fun e=>hl (by cases l with|nil=>rfl|cons x l=>cases e),.inr (h.cells b o rfl)⟩
theorem gG.app{T A A':List Ob}{x:Ob}(h:gG A x A'):gG (T++A) x (T++A'):=by
 induction T with
 |nil=>exact h
 |cons y T ih=>exact .next ih
theorem LQ{P:Program}{C:Nat->(CF->Bool)->Bool}{X:FuncId->List Value->St->(Value->St->Bool)->Bool}{n f:Nat}{vs:List Value}{s:St}{Q Q':Value->List Ob->Prop}(h:bX P C X n f vs s Q)(hq:∀v A,Q v A->Q' v A):bX P C X n f vs s Q':=fun k hk=>h k (fun v s' ⟨A,h1,h2⟩=>hk v s' ⟨A,h1,hq v A h2⟩)
theorem CK:pF m n rs=true↔∀r∈rs,pF m n [r]=true:=by
 induction rs with
 |nil=>exact⟨fun _ r hr=>(by cases hr),fun _=>rfl⟩
 |cons a rs ih=>
  have e:pF m n (a::rs)=(pF m n [a] && pF m n rs):=by
   match a with
   |[x0,x1,x2,x3,x4,x5,x6]=>
    show(decide _ && pF m n rs)=((decide _ && true) && pF m n rs);rw[Bool.and_true]
   |[]=>rfl
   |[_]=>rfl
   |[_,_]=>rfl
   |[_,_,_]=>rfl
   |[_,_,_,_]=>rfl
   |[_,_,_,_,_]=>rfl
   |[_,_,_,_,_,_]=>rfl
   |_::_::_::_::_::_::_::_::_=>rfl
  rw[e,Bool.and_eq_true,ih];exact⟨fun ⟨h1,h2⟩ r hr=>by
   rcases List.mem_cons.1 hr with rfl|hr
   ·exact h1
   ·exact h2 r hr,fun h=>⟨h a (List.mem_cons_self ..),fun r hr=>h r (List.mem_cons_of_mem _ hr)⟩⟩
def rv(m n:Int)(rs:List (List Int)):List (List Int):=rs.filter (fun r=>pF m n [r])
theorem CL(hx:rs[k]? = some [x0,x1,x2,x3,x4,x5,x6])(h:(1<=x0/\x0<=99999)/\(0<=x1/\x1<=m-1)/\(0<=x2/\x2<=n-1)/\(0<=x4/\x4<=1000)/\(0<=x3/\x3<=20000-x4)/\(1<=x5/\x5<=99)/\(0<=x6/\x6<=100000)):rv m n (rs.take (k+1))=rv m n (rs.take k)++[[x0,x1,x2,x3,x4,x5,x6]]:=by
 unfold rv;rw[List.take_add_one,hx,List.filter_append]
 congr 1
 show List.filter _ [_]=_;rw[List.filter_cons_of_pos (by show(decide _ && true)=true;rw[decide_eq_true h];rfl)];rfl
theorem LS(hx:rs[k]? = some [x0,x1,x2,x3,x4,x5,x6])(h:¬((1<=x0/\x0<=99999)/\(0<=x1/\x1<=m-1)/\(0<=x2/\x2<=n-1)/\(0<=x4/\x4<=1000)/\(0<=x3/\x3<=20000-x4)/\(1<=x5/\x5<=99)/\(0<=x6/\x6<=100000))):rv m n (rs.take (k+1))=rv m n (rs.take k):=by
 unfold rv;rw[List.take_add_one,hx,List.filter_append];show _++List.filter _ [_]=_;rw[List.filter_cons_of_neg (by show ¬(decide _ && true)=true;rw[decide_eq_false h];decide),List.filter_nil,List.append_nil]
theorem qJ{r:List Int}(h:r∈rv m n rs):r∈rs:=(List.mem_filter.1 h).1
theorem CM:pF m n (rv m n rs)=true:=CK.2 (fun r hr=>(List.mem_filter.1 hr).2)
theorem LT:(rv m n (rs.take k)).length<=k:=Nat.le_trans (List.length_filter_le _ _) (by rw[List.length_take];omega)
theorem PJ(hx:rs[k]? = some [x0,x1,x2,x3,x4,x5,x6])(h:(1<=x0/\x0<=99999)/\(0<=x1/\x1<=m-1)/\(0<=x2/\x2<=n-1)/\(0<=x4/\x4<=1000)/\(0<=x3/\x3<=20000-x4)/\(1<=x5/\x5<=99)/\(0<=x6/\x6<=100000)):aT (rv m n (rs.take k))++[.int .i64 x0,.int .i64 x1,.int .i64 x2,.int .i64 x3,.int .i64 x4,.int .i64 x5,.int .i64 x6]=aT (rv m n (rs.take (k+1))):=by
 rw[CL hx h,dY];rfl
theorem zE{L:List (List Int)}{t:List Int}:t∈dys L↔∃r∈L,t=[r.getD 5 0,r.getD 6 0]:=by
 have key:∀(M D:List (List Int)),t∈M.foldl gL D↔t∈D∨∃r∈M,t=[r.getD 5 0,r.getD 6 0]:=by
  intro M
  induction M with
  |nil=>intro D;exact⟨.inl,fun h=>h.elim id (fun ⟨r,hr,_⟩=>(by cases hr))⟩
  |cons a M ih=>
   intro D;show t∈M.foldl gL (gL D a)↔_;rw[ih];have e:t∈gL D a↔t∈D∨t=[a.getD 5 0,a.getD 6 0]:=by
    unfold gL;split
    ·rename_i h
     exact⟨.inl,fun q=>q.elim id (fun q=>q ▸ h)⟩
    ·rw[List.mem_append,List.mem_singleton]
   rw[e]
   constructor
   ·rintro((q|q)|⟨r,hr,q⟩)
    ·exact .inl q
    ·exact .inr ⟨a,List.mem_cons_self ..,q⟩
    ·exact .inr ⟨r,List.mem_cons_of_mem _ hr,q⟩
   ·rintro(q|⟨r,hr,q⟩)
    ·exact .inl (.inl q)
    ·rcases List.mem_cons.1 hr with rfl|hr
     ·exact .inl (.inr q)
     ·exact .inr ⟨r,hr,q⟩
 have:=key L [];exact this.trans ⟨fun h=>h.elim (fun q=>(by cases q)) id,.inr⟩
theorem RV{t:List Int}(h:t∈dys (rv m n rs)):t∈dys rs:=by
 obtain⟨r,hr,e⟩:=zE.1 h;exact zE.2 ⟨r,qJ hr,e⟩
theorem Hn(h:rs≠[]):0<(dys rs).length:=by
 cases rs with
 |nil=>exact absurd rfl h
 |cons r rs=>exact List.length_pos_of_mem (zE.2 ⟨r,List.mem_cons_self ..,rfl⟩)
theorem PK{u:Nat}(h:u<(dys rs).length):∃p q:Int,(dys rs)[u]? = some [p,q]:=by
 obtain⟨r,_,e⟩:=zE.1 (List.getElem_mem h);exact⟨_,_,by rw[List.getElem?_eq_getElem h,e]⟩
theorem H8{L:List (List Int)}{z:List Value}{u:Nat}{p q:Int}(hw:∀r∈L,r.length=2)(h:L[u]? = some [p,q]):jD (aT L++z) (0+u*2) 2=some [.int .i64 p,.int .i64 q]:=by
 rw[Nat.zero_add];exact wW hw h
theorem TQ(i0:I64 x0)(i1:I64 x1)(i2:I64 x2)(i3:I64 x3)(i4:I64 x4)(i5:I64 x5)(i6:I64 x6):Wd 7 [[x0,x1,x2,x3,x4,x5,x6]]:=
 ⟨fun r hr=>by rw[List.mem_singleton.1 hr];rfl,fun r hr x hx=>by
  rw[List.mem_singleton.1 hr] at hx;simp only[List.mem_cons,List.not_mem_nil,or_false] at hx;rcases hx with rfl|rfl|rfl|rfl|rfl|rfl|rfl <;> assumption⟩
theorem PL{x:List Int}{c:Int}(h:PB x c):PB (x.take k) c:=fun i=>by
 have:=h i;by_cases q:i<k
 ·rw[List.getD_eq_getElem?_getD,List.getElem?_take,if_pos q,<-List.getD_eq_getElem?_getD];exact this
 ·rw[List.getD_eq_getElem?_getD,List.getElem?_take,if_neg q]
  show -c<=0/\0<=c;omega
section
variable{X:FuncId->List Value->St->(Value->St->Bool)->Bool}
theorem CN(n:Nat)(a:Option Addr)(cap:Nat)(rs:List (List Int))(s:St)(hs:Wf s)(hn:844424930131968<=n)(hr:RowsE s 7 a rs)(h60:rs.length<=60):bX Tryz.prog (bZ cB) X (n+700) 39 [.slice a rs.length cap] s (fun v A=>∃aD cD U,v = .slice aD (dys rs).length cD/\A=U/\vV 86 2 aD (dys rs).length cD (dys rs) U/\Wd 2 (dys rs)/\(dys rs).length<=rs.length):=by
 refine LQ (yZ n a cap rs s hs hn hr h60 (X:=X)) (fun v A q=>?_);rcases q with ⟨rfl,rfl,rfl⟩|⟨hne,b,rfl,rfl,hW,hl⟩
 ·exact⟨none,0,[],rfl,rfl,.inl ⟨rfl,rfl,rfl,rfl,rfl⟩,Wd.nil,Nat.le_refl _⟩
 ·exact⟨_,OPEN,_,rfl,rfl,.inr ⟨b,[],rfl,rfl,rfl,.inl ⟨rfl,Hn hne⟩,by rw[List.append_nil]⟩,hW,hl⟩
theorem qK(n:Nat)(d r al up:Int)(a1 a2:Option Addr)(c1 c2:Nat)(l1 l2:List Int)(a3 a4:Option Addr)(c3 c4:Nat)(rs cs:List (List Int))(ax:Option Addr)(cx:Nat)(x:List Int)(N9:Nat)(s:St)(hs:Wf s)(hn:2814749767106560<=n)(hl1:aN s a1 l1)(hl2:aN s a2 l2)(hr:RowsE s 7 a3 rs)(hc:RowsE s 6 a4 cs)(hX:aN s ax x)(hcx:lB s ax x.length cx)(hN9:N9=l1.length*l2.length)(hq1:l1.length<=4)(hq2:l2.length<=3)(hq3:rs.length<=14)(hq4:cs.length<=5)(hxl:x.length=N9+1+(dys rs).length)(hxb:PB x 163840000):bX Tryz.prog (bZ cB) X (n+2500) 70 [.agg ⟨[.int .i64 d,.int .i64 r,.slice a1 l1.length c1,.slice a2 l2.length c2,.int .i64 al,.int .i64 up,.slice a3 rs.length c3,.slice a4 cs.length c4]⟩,.slice ax x.length cx] s (fun v A=>∃aR cR RU bY ys,v = .tuple #[.agg ⟨[.int .i64 d,.int .i64 r,.slice a1 l1.length c1,.slice a2 l2.length c2,.int .i64 al,.int .i64 up,.slice aR (rv (l1.length:Int) (l2.length:Int) rs).length cR,.slice a4 cs.length c4]⟩,.slice (some ⟨bY,0,none⟩) (N9+1+(dys (rv (l1.length:Int) (l2.length:Int) rs)).length) OPEN]/\A = .row bY 3 true (ints ys)::RU/\vV 89 7 aR (rv (l1.length:Int) (l2.length:Int) rs).length cR (rv (l1.length:Int) (l2.length:Int) rs) RU/\ys.length=N9+1+(dys (rv (l1.length:Int) (l2.length:Int) rs)).length/\PB ys 163840000):=by
 refine enter Pe rfl hs ?_;unfold Oe;have hlen1:=hl1.len;have hlen2:=hl2.len;have hlen3:=hr.len;have hlen4:=hc.len;have hlen5:=hX.len;have hN12:l1.length*l2.length<=12:=Nat.mul_le_mul hq1 hq2;have htk:(x.take (N9+1)).length=N9+1:=by rw[List.length_take];omega
 have hdl:=rY hr;have hN9i:(l1.length:Int)*(l2.length:Int)=((N9:Nat):Int):=by rw[hN9,Int.natCast_mul]
 refine rS (aZ J J J (fun b1=>(aY J J (fun b2=>(kM J (Q0 (rS (aH J (aL J .h1 J (kO (Z4 J J (fun s1 h1=>CN _ _ _ rs s1 h1.wf oM (hr.ext hs h1.2.1) oM) (fun v1 A1 q1=>?_))))))))))));obtain⟨aD9,cD9,UD,rfl,hAD,hRD,hWD,hlD⟩:=q1;rw[hAD];refine kM J (Q0 (rS (aH J (dD J dE (.app .h1) J (kO (aI J J (fun s1 h1=>gP _ _ _ _ _ _ _ _ _ _ _ s1 h1.wf oM (hl1.ext hs h1.2.1) (hl2.ext hs h1.2.1) oM) ?_))))));rw[hN9i];refine kM J (Q0 (rS (dD J dE (.app .h1) J (aY J J (fun b3=>(kZ (Q6 J J .here rfl rfl rfl rfl (Q0 (rS (aH J (kZ (cY J J .here rfl rfl (Q0 (rQ (rS (kM J (Q0 (W1 ?_))))))))))))))))));refine U4 (fun j e A=>∃(k:Nat) (aR:Option Addr) (nR cR:Nat) (RU:List Ob),e=[(1,.slice ax x.length cx),(2,.pointer (some ⟨b1,0,none⟩)),(4,.pointer (some ⟨b2,0,none⟩)),(6,.slice aD9 (dys rs).length cD9),(7,.int .i64 (N9:Int)),(8,.pointer (some ⟨b3,0,none⟩)),(9,.int .i64 (k:Int))]/\A=(RU++(.row b3 37 false ([.int .i64 d,.int .i64 r,.slice a1 l1.length c1,.slice a2 l2.length c2,.int .i64 al,.int .i64 up,.slice aR nR cR,.slice a4 cs.length c4])::(UD++(.row b2 37 false ([.int .i64 0,.int .i64 0,.slice none 0 0,.slice none 0 0,.int .i64 0,.int .i64 0,.slice none 0 0,.slice none 0 0])::(.row b1 37 false ([.int .i64 d,.int .i64 r,.slice a1 l1.length c1,.slice a2 l2.length c2,.int .i64 al,.int .i64 up,.slice a3 rs.length c3,.slice a4 cs.length c4])::[])))))/\j=rs.length-k/\k<=rs.length/\nR=(rv (l1.length:Int) (l2.length:Int) (rs.take k)).length/\vV 89 7 aR nR cR (rv (l1.length:Int) (l2.length:Int) (rs.take k)) RU/\Wd 7 (rv (l1.length:Int) (l2.length:Int) (rs.take k))) 700 562949953421312 281474976710656 ?_ (j:=_) (env2:=_) (A2:=_) ?_ ?_ ?_ ?_ ⟨0,none,0,0,[],rfl,rfl,rfl,Nat.zero_le _,rfl,(.inl ⟨rfl,rfl,rfl,rfl,rfl⟩),Wd.nil⟩
 rotate_left
 ·omega
 ·omega
 ·exact lL
 ·exact(.q (.r (.q (.q .slnil))))
 rintro n hn j _ _ ⟨k,aR,nR,cR,RU,rfl,rfl,rfl,hk,hnR,hU,hWv⟩;have hsp9:=hU.spot;have hrk9:=LT (m:=(l1.length:Int)) (n:=(l2.length:Int)) (rs:=rs) (k:=k);refine rQ (rS (kM J (aH J (aL J (.app (.next (.app .h1))) J (aJ J (by first|exact hr.spot|exact hRL.spot|exact hX.spot) (dB J J (fun h4=>?_) (fun h4=>?_)))))))
 ·obtain⟨q7,o7,x0,x1,x2,x3,x4,x5,x6,ahr,hx,hat,i0,i1,i2,i3,i4,i5,i6⟩:=hr.row7 (k:=k) oM
  have hat2:=hat;obtain⟨d0,d1,d2,d3,d4,d5,d6,_⟩:=hat2;have:=i0.lo;have:=i0.hi;have:=i1.lo;have:=i1.hi;have:=i2.lo;have:=i2.hi;have:=i3.lo;have:=i3.hi;have:=i4.lo;have:=i4.hi;have:=i5.lo;have:=i5.hi;have:=i6.lo;have:=i6.hi;refine Q0 (Y0 J (Q1 (W0 (rQ (W1 (rS (aH J (dD J dE (.app (.next (.app .h1))) J (aH J (aL J (.app (.next (.app .h1))) J (kM J (kO (cM (j:=k) ahr rfl rfl (by first|rfl|omega) (by first|decide|omega) (kO (dU J dE aM J (kO (bB J J (fun s1 h1=>rX _ _ _ _ _ _ _ _ _ _ _ _ _ _ _ _ _ _ s1 h1.wf oM (hl1.ext hs h1.2.1) (hl2.ext hs h1.2.1)) (fun h5=>?_) (fun h5=>?_))))))))))))))))))
  ·have hval:=h5
   refine Q0 (Y0 J (rI (aH J (aL J (.app .here) J (aH J (aL J (.app (.next (.app .h1))) J (kM J (kO (cM (j:=k) ahr rfl rfl (by first|rfl|omega) (by first|decide|omega) (kO (dU J dE aM J (kO (bF J J J (fun b6=>(kO (wX hU .h1 J J .here hWv.len rfl dE oM oM (fun b99=>(aH J (kZ (cY J J .h2 J J (Q0 (Z1 (W0 (rI (kM J (aX J J oM (kM J (Q0 (W0 ?_)))))))))))))))))))))))))))));exact⟨rfl,_,_,_,(show rs.length-(k+1)<rs.length-k from oM),lL,(.q (.cons _ (.q (.r (.q (.q .slnil)))))),⟨k+1,some ⟨b99,0,none⟩,nR+1,OPEN,[.row b99 89 true (aT (rv (l1.length:Int) (l2.length:Int) (rs.take (k+1))))],rfl,(by rw[<-PJ hx hval];rfl),rfl,oM,(by rw[CL hx hval,List.length_append,hnR];rfl),(.inr ⟨_,[],rfl,by rw[CL hx hval,List.length_append,hnR];rfl,rfl,.inl ⟨rfl,oM⟩,by rw[List.append_nil]⟩),(by rw[CL hx hval];exact hWv.app (TQ i0 i1 i2 i3 i4 i5 i6))⟩⟩
  ·have hval:=h5
   refine Q0 (U0 J (Q1 (Z1 (W0 (rI (kM J (aX J J oM (kM J (Q0 (W0 ?_))))))))));exact⟨rfl,_,_,_,(show rs.length-(k+1)<rs.length-k from oM),lL,(.r (.q (.r (.q (.q .slnil))))),⟨k+1,aR,nR,cR,RU,rfl,rfl,rfl,oM,(by rw[LS hx hval];exact hnR),(by rw[LS hx hval];exact hU),(by rw[LS hx hval];exact hWv)⟩⟩
 ·obtain rfl:k=rs.length:=oM
  rw[List.take_length] at hU hWv hnR;subst hnR;have hrk9:=LT (m:=(l1.length:Int)) (n:=(l2.length:Int)) (rs:=rs) (k:=rs.length);rw[List.take_length] at hrk9;refine Q0 (U0 J (Y4 (Z2 (Z2 (Q3 (W0 (rS (kO (bF J J J (fun b7=>(kM J (kM J (aX J J oM (kO (EY (h:=(x.take (N9+1)).length) hX rfl rfl (by rw[List.length_take];omega) oM (by rw[List.length_take];omega) hcx (kO (Ll J (fun b hb=>by cases hb;rfl) J (DX (hX.take (N9+1)) (fun e=>by rw[e] at htk;cases htk)) oM oM oM (fun b8=>(kM J (Q0 (rS (aH J (aL J (.next (.next (.app .here))) J (kO (Z4 J J (fun s1 h1=>CN _ _ _ (rv (l1.length:Int) (l2.length:Int) rs) s1 h1.wf oM (hU.rows (.cons _ (.cons _ sA)) h1 hWv oM) oM) (fun v1 A1 q1=>?_))))))))))))))))))))))))));obtain⟨aL9,cL9,UL,rfl,hAL,hRL,hWL,hlL⟩:=q1;rw[hAL];refine kM J (Q0 (rQ (rS (kM J (Q0 (W1 (kQ (.app .here) ?_)))))));rw[show(x.take (N9+1)).length=N9+1+0 from htk];refine U4 (fun j e A=>∃(u b cp:Nat) (ys:List Int),e=[(1,.slice ax x.length cx),(4,.pointer (some ⟨b2,0,none⟩)),(6,.slice aD9 (dys rs).length cD9),(7,.int .i64 (N9:Int)),(8,.pointer (some ⟨b3,0,none⟩)),(10,.slice (some ⟨b,0,none⟩) (N9+1+u) OPEN),(11,.slice aL9 (dys (rv (l1.length:Int) (l2.length:Int) rs)).length cL9),(12,.int .i64 (u:Int))]/\A=(.row b 3 true (ints ys)::(UL++(RU++(.row b3 37 false ([.int .i64 d,.int .i64 r,.slice a1 l1.length c1,.slice a2 l2.length c2,.int .i64 al,.int .i64 up,.slice aR (rv (l1.length:Int) (l2.length:Int) rs).length cR,.slice a4 cs.length c4])::(UD++(.row b2 37 false ([.int .i64 0,.int .i64 0,.slice none 0 0,.slice none 0 0,.int .i64 0,.int .i64 0,.slice none 0 0,.slice none 0 0])::[]))))))/\j=(dys (rv (l1.length:Int) (l2.length:Int) rs)).length-u/\u<=(dys (rv (l1.length:Int) (l2.length:Int) rs)).length/\ys.length=N9+1+u/\PB ys 163840000) 500 281474976710656 281474976710656 ?_ (j:=_) (env2:=_) (A2:=_) ?_ ?_ ?_ ?_ ⟨0,b8,OPEN,x.take (N9+1),rfl,rfl,rfl,Nat.zero_le _,htk,(PL hxb)⟩
  rotate_left
  ·omega
  ·omega
  ·exact lL
  ·exact(.q (.r (.cons _ (.r (.q (.r (.q (.cons _ .slnil))))))))
  rintro n hn j _ _ ⟨u,b,cp,ys,rfl,rfl,rfl,hu,hyl,hyb⟩;refine rQ (rS (kM J (kM J (aJ J (by first|exact hr.spot|exact hRL.spot|exact hX.spot) (dB J J (fun h9=>?_) (fun h9=>?_))))))
  ·obtain⟨bL,zL,haL,how⟩:=hRL.own (show 0<(dys (rv (l1.length:Int) (l2.length:Int) rs)).length by omega)
   obtain⟨p,q,hpq⟩:=PK (rs:=(rv (l1.length:Int) (l2.length:Int) rs)) (u:=u) oM;have hmem:=RV (List.mem_of_getElem? hpq);have hix:=qF hmem;refine Q0 (Y0 J (Q1 (W0 (rQ (W1 (rI (kM J (kM J (kM J (aX J J oM (kM J (kM J (kM J (kO (cM (j:=u) haL rfl rfl (by first|rfl|omega) (by first|decide|omega) (dD J dE (.next (how _)) (H8 hWL.len hpq) (kO (aI J J (fun s1 h1=>nY _ aD9 cD9 (dys rs) p q s1 h1.wf oM (hRD.rows (.cons _ (sR (sR (.cons _ sA)))) h1 hWD oM)) ?_))))))))))))))))));rw[pH hmem];refine aX J J oM (kO (Q7 (j:=(N9+1+vU [p,q] (dys rs))) hX rfl rfl oM (by first|rfl|omega) oM (fun _ _ a10=>(kO (W6 J (hX.at a10 oM) (kO (bF J J J (fun b11=>(kO (cO J J (fK.own .here rfl sM) .h1 (by rw[bU,hyl,Nat.mul_one]) (.inl ⟨rfl,rfl⟩) dE oM oM (fun b12=>(kM J (Q0 (Z1 (W0 (rI (kM J (aX J J oM (kM J (Q0 (W0 ?_)))))))))))))))))))));exact⟨rfl,_,_,_,(show(dys (rv (l1.length:Int) (l2.length:Int) rs)).length-(u+1)<(dys (rv (l1.length:Int) (l2.length:Int) rs)).length-u by omega),lL,(.q (.cons _ (.r (.r (.q (.r (.q .slnil))))))),⟨u+1,b12,OPEN,ys++[x.getD (N9+1+vU [p,q] (dys rs)) 0],rfl,(by rw[sN];rfl),rfl,oM,(by rw[List.length_append,hyl];rfl),(hyb.add oM (hxb _) oM)⟩⟩
  ·have hn9:u=(dys (rv (l1.length:Int) (l2.length:Int) rs)).length:=oM
   refine Q0 (U0 J (Y4 (Z2 (Z2 (Q3 (W0 (rS (dD J dE (.next (.app (.app .here))) J (kM J (kZ (Q6 J J (.next (.app (.app (.next (.app .here))))) J J J J (kM J (Q0 (V2 ?_))))))))))))));subst hn9;exact AP J dE (.q (sR (.r (.cons _ (sR (.cons _ .slnil)))))) (.next (.app (.app (.next (.app .here))))) J J ⟨aR,cR,RU,_,ys,rfl,by rw[List.append_nil],hU,hyl,hyb⟩
end
variable{rs:List (List Int)}{k i:Nat}{x0 x1 x2 x3 x4 x5 x6 v:Int}
theorem RowsE.row5{s:St}{a:Option Addr}(h:RowsE s 5 a rs)(hk:k<rs.length):∃b o w0 w1 w2 w3 w4,a=some ⟨b,o,none⟩/\rs[k]? = some [w0,w1,w2,w3,w4]/\pK s b (o+k*5) [.int .i64 w0,.int .i64 w1,.int .i64 w2,.int .i64 w3,.int .i64 w4]/\I64 w0/\I64 w1/\I64 w2/\I64 w3/\I64 w4:=by
 obtain⟨b,o,r,h1,h2,h3,h4,h5⟩:=h.row hk;obtain⟨w0,r1,rfl,g1⟩:=bA h3;obtain⟨w1,r2,rfl,g2⟩:=bA g1;obtain⟨w2,r3,rfl,g3⟩:=bA g2;obtain⟨w3,r4,rfl,g4⟩:=bA g3;obtain⟨w4,r5,rfl,g5⟩:=bA g4;have:r5=[]:=List.eq_nil_of_length_eq_zero g5;subst this;exact⟨b,o,w0,w1,w2,w3,w4,h1,h2,h4,h5 w0 sM,h5 w1 sM,h5 w2 sM,h5 w3 sM,h5 w4 sM⟩
theorem PM{m n:Int}(h:pF m n rs=true)(hc:(1<=x0/\x0<=99999)/\(0<=x1/\x1<=m-1)/\(0<=x2/\x2<=n-1)/\(0<=x4/\x4<=1000)/\(0<=x3/\x3<=20000-x4)/\(1<=x5/\x5<=99)/\(0<=x6/\x6<=100000)):pF m n (rs++[[x0,x1,x2,x3,x4,x5,x6]])=true:=CK.2 (fun r hr=>by
 rcases List.mem_append.1 hr with q|q
 ·exact CK.1 h r q
 ·rw[List.mem_singleton.1 q]
  show(decide _ && true)=true;rw[decide_eq_true hc];rfl)
theorem PN{l r:List (List Int)}:pG (l++r)=(pG l && pG r):=by
 induction l with
 |nil=>rfl
 |cons a l ih=>
  match a with
  |[z0,z1,z2,z3,z4,z5]=>
   show(decide _ && pG (l++r))=((decide _ && pG l) && pG r);rw[ih,Bool.and_assoc]
  |[]=>rfl
  |[_]=>rfl
  |[_,_]=>rfl
  |[_,_,_]=>rfl
  |[_,_,_,_]=>rfl
  |[_,_,_,_,_]=>rfl
  |_::_::_::_::_::_::_::_=>rfl
theorem Ho{cs:List (List Int)}{z0 z1 z2 z3 z4 z5:Int}(h:pG cs=true)(hc:(1<=z0/\z0<=99999)/\(1<=z1/\z1<=99)/\(0<=z2/\z2<=z3/\z3<=100000)/\(-1000<=z4/\z4<=z5/\z5<=1000)):pG (cs++[[z0,z1,z2,z3,z4,z5]])=true:=by
 rw[PN,h];show(true && (decide _ && true))=true;rw[decide_eq_true hc];rfl
theorem Hp{cs:List (List Int)}{z0 z1 z2 z3 z4 z5:Int}:aT cs++[.int .i64 z0,.int .i64 z1,.int .i64 z2,.int .i64 z3,.int .i64 z4,.int .i64 z5]=aT (cs++[[z0,z1,z2,z3,z4,z5]]):=by rw[dY];rfl
theorem UR(i0:I64 x0)(i1:I64 x1)(i2:I64 x2)(i3:I64 x3)(i4:I64 x4)(i5:I64 x5):Wd 6 [[x0,x1,x2,x3,x4,x5]]:=
 ⟨fun r hr=>by rw[List.mem_singleton.1 hr];rfl,fun r hr x hx=>by
  rw[List.mem_singleton.1 hr] at hx;simp only[List.mem_cons,List.not_mem_nil,or_false] at hx;rcases hx with rfl|rfl|rfl|rfl|rfl|rfl <;> assumption⟩
theorem zF{L:List Int}{x:Int}(h:Hf L x)(hx:x<=100000):∀z∈L,-9223372036854775808<=z/\z<9223372036854775808:=fun z hz=>by
 have:=h.2 z hz;omega
structure Fa(rs r3:List (List Int)):Prop where
 len:r3.length=rs.length
 row:∀(k:Nat) (x0 x1 x2 x3 x4 x5 x6:Int),rs[k]? = some [x0,x1,x2,x3,x4,x5,x6]->∃v,r3[k]? = some [x0,x1,x2,v,x4,x5,x6]
theorem Fa.refl:Fa rs rs:=⟨rfl,fun k x0 x1 x2 x3 x4 x5 x6 h=>⟨x3,h⟩⟩
theorem qL{x c:Int}(hx:-9223372036854775808<=x/\x<9223372036854775808)(hc:2<=c):-9223372036854775808<=x.tdiv c/\x.tdiv c<9223372036854775808:=by
 have key:∀y:Int,0<=y->0<=y.tdiv c/\y.tdiv c<=y:=fun y hy=>by
  rw[Int.tdiv_eq_ediv_of_nonneg hy];exact⟨Int.ediv_nonneg hy oM,Int.ediv_le_self _ hy⟩
 by_cases h:0<=x
 ·have:=key x h;omega
 ·have e:x.tdiv c = -((-x).tdiv c):=by rw[Int.neg_tdiv,Int.neg_neg]
  have h1:=key (-x) oM;have h2:(-x).tdiv c<=9223372036854775808:=oM
  rw[e];omega
theorem CO:(dys rs).length<=rs.length:=by
 have key:∀(M D:List (List Int)),(M.foldl gL D).length<=D.length+M.length:=by
  intro M
  induction M with
  |nil=>intro D;exact Nat.le_refl _
  |cons a M ih=>
   intro D;have h1:=ih (gL D a);have h2:(gL D a).length<=D.length+1:=by
    unfold gL;split
    ·omega
    ·rw[List.length_append];exact Nat.le_refl _
   show(M.foldl gL (gL D a)).length<=D.length+(M.length+1);omega
 have:=key rs []
 rwa [List.length_nil,Nat.zero_add] at this
theorem sO(hw:Wd 7 rs)(hk:k<rs.length):∃x0 x1 x2 x3 x4 x5 x6:Int,rs[k]? = some [x0,x1,x2,x3,x4,x5,x6]:=by
 have hr:=hw.len _ (List.getElem_mem hk);rw[List.getElem?_eq_getElem hk]
 match rs[k],hr with
 |[x0,x1,x2,x3,x4,x5,x6],_=>exact⟨x0,x1,x2,x3,x4,x5,x6,rfl⟩
theorem sP{a b:Nat}(h1:0<=x1/\x1<=(a:Int)-1)(h2:0<=x2/\x2<=(b:Int)-1):∃uN:Nat,1+x1*(b:Int)+x2=(uN:Int)/\uN<=a*b:=by
 obtain⟨p,rfl⟩:∃p:Nat,x1=(p:Int):=⟨x1.toNat,oM⟩;obtain⟨q,rfl⟩:∃q:Nat,x2=(q:Int):=⟨x2.toNat,oM⟩;refine⟨1+p*b+q,by rw[Int.natCast_add,Int.natCast_add,Int.natCast_mul];rfl,?_⟩;have:=Nat.mul_le_mul_right b (show p+1<=a from oM);rw[Nat.add_mul,Nat.one_mul] at this;omega
theorem CP{x:List Int}(h:PB x 163840000):∀z∈x,-9223372036854775808<=z/\z<9223372036854775808:=fun z hz=>by
 obtain⟨i,hi,e⟩:=List.mem_iff_getElem.1 hz;have:=h i;rw[List.getD_eq_getElem?_getD,List.getElem?_eq_getElem hi,e] at this;have this:-163840000<=z/\z<=163840000:=this;omega
theorem sQ{s:St}{b n c:Nat}{l:List Value}{op:Bool}(ht:xR op n c)(h:Obj s b 3 op l)(hn:n<=l.length):lB s (some ⟨b,0,none⟩) n c:=by
 rcases ht with ⟨rfl,rfl⟩|⟨rfl,rfl,h2⟩
 ·exact lB.own h hn
 ·exact .inl ⟨h2,Nat.le_refl _⟩
def pI(rs:List (List Int))(i:Nat)(v:Int):List (List Int):=rs.set i ((rs.getD i []).set 3 v)
theorem sB:(pI rs i v).length=rs.length:=by unfold pI;rw[List.length_set]
theorem Hq(h:rs[i]? = some [x0,x1,x2,x3,x4,x5,x6]):(pI rs i v)[i]? = some [x0,x1,x2,v,x4,x5,x6]:=by
 obtain⟨hi,_⟩:=List.getElem?_eq_some_iff.1 h;unfold pI;rw[List.getElem?_set,if_pos rfl,if_pos hi,Sv.getD_of h];rfl
theorem Hr(h:i≠k):(pI rs i v)[k]? = rs[k]?:=by unfold pI;rw[List.getElem?_set,if_neg h]
theorem Fa.set{rs r3:List (List Int)}(h:Fa rs r3):Fa rs (pI r3 i v):=⟨by rw[sB,h.len],fun k x0 x1 x2 x3 x4 x5 x6 hx=>by
 obtain⟨u,hu⟩:=h.row k x0 x1 x2 x3 x4 x5 x6 hx;by_cases q:i=k
 ·subst q;exact⟨v,Hq hu⟩
 ·exact⟨u,by rw[Hr q];exact hu⟩⟩
theorem zG(hw:Wd 7 rs)(h:rs[i]? = some [x0,x1,x2,x3,x4,x5,x6])(hv:I64 v):Wd 7 (pI rs i v):=by
 have hm:∀r∈pI rs i v,r=[x0,x1,x2,v,x4,x5,x6]∨r∈rs:=fun r hr=>by
  obtain⟨k,hk⟩:=List.mem_iff_getElem?.1 hr;by_cases q:i=k
  ·subst q;rw[Hq h] at hk;cases hk;exact .inl rfl
  ·rw[Hr q] at hk;exact .inr (List.mem_of_getElem? hk)
 have h0:=List.mem_of_getElem? h;have hf:=hw.fit _ h0;refine⟨fun r hr=>?_,fun r hr x hx=>?_⟩
 ·rcases hm r hr with rfl|q
  ·rfl
  ·exact hw.len r q
 ·rcases hm r hr with rfl|q
  ·simp only[List.mem_cons,List.not_mem_nil,or_false] at hx
   rcases hx with rfl|rfl|rfl|rfl|rfl|rfl|rfl
   ·exact hf _ sM
   ·exact hf _ sM
   ·exact hf _ sM
   ·exact hv
   ·exact hf _ sM
   ·exact hf _ sM
   ·exact hf _ sM
  ·exact hw.fit r q x hx
theorem PO{L M:List (List Int)}(h:L.map (fun r=>[r.getD 5 0,r.getD 6 0])=M.map (fun r=>[r.getD 5 0,r.getD 6 0])):dys L=dys M:=by
 have key:∀(L M D:List (List Int)),L.map (fun r=>[r.getD 5 0,r.getD 6 0])=M.map (fun r=>[r.getD 5 0,r.getD 6 0])->L.foldl gL D=M.foldl gL D:=by
  intro L
  induction L with
  |nil=>intro M D h;cases M with|nil=>rfl|cons a M=>cases h
  |cons a L ih=>
   intro M D h;cases M with
   |nil=>cases h
   |cons b M=>
    rw[List.map_cons,List.map_cons] at h;obtain⟨e1,e2⟩:=List.cons.inj h;have e3:gL D a=gL D b:=by
     unfold gL;rw[e1]
    show L.foldl gL (gL D a)=M.foldl gL (gL D b);rw[e3];exact ih M _ e2
 exact key L M [] h
theorem Fa.dys{rs r3:List (List Int)}(h:Fa rs r3)(hw:∀r∈rs,r.length=7):dys r3=dys rs:=by
 refine PO (List.ext_getElem? (fun k=>?_));rw[List.getElem?_map,List.getElem?_map];by_cases q:k<rs.length
 ·have hr:=hw _ (List.getElem_mem q)
  obtain⟨x0,x1,x2,x3,x4,x5,x6,e⟩:∃x0 x1 x2 x3 x4 x5 x6,rs[k]? = some [x0,x1,x2,x3,x4,x5,x6]:=by
   rw[List.getElem?_eq_getElem q]
   match rs[k],hr with
   |[x0,x1,x2,x3,x4,x5,x6],_=>exact⟨x0,x1,x2,x3,x4,x5,x6,rfl⟩
  obtain⟨v,e2⟩:=h.row k _ _ _ _ _ _ _ e;rw[e,e2];rfl
 ·rw[List.getElem?_eq_none (by have:=h.len;omega),List.getElem?_eq_none oM]
theorem sS{z:List Value}(hw:∀r∈rs,r.length=7)(h:rs[i]? = some [x0,x1,x2,x3,x4,x5,x6]):(aT rs++z).set (0+i*7+3) (.int .i64 v)=aT (pI rs i v)++z:=by
 obtain⟨hi,he⟩:=List.getElem?_eq_some_iff.1 h;have e1:rs=rs.take i++[[x0,x1,x2,x3,x4,x5,x6]]++rs.drop (i+1):=by
  rw[List.append_assoc,List.singleton_append,<-he,<-List.drop_eq_getElem_cons hi,List.take_append_drop]
 have e2:pI rs i v=rs.take i++[[x0,x1,x2,v,x4,x5,x6]]++rs.drop (i+1):=by
  unfold pI;rw[Sv.getD_of h,List.set_eq_take_append_cons_drop,if_pos hi,List.append_assoc,List.singleton_append];rfl
 have hl:(aT (rs.take i)).length=i*7:=by
  rw[aA (w:=7) (fun r hr=>hw r (List.mem_of_mem_take hr)),List.length_take,Nat.min_eq_left oM]
 rw[e2]
 conv=>lhs;rw[e1]
 rw[dY,dY,dY,dY,List.append_assoc,List.append_assoc,List.append_assoc,List.append_assoc,Nat.zero_add,List.set_append_right _ _ (by rw[hl];omega),hl,Nat.add_sub_cancel_left];rfl
theorem mW{L:List (List Int)}{z:List Value}{u:Nat}(hw:∀r∈L,r.length=7)(h:L[u]? = some [x0,x1,x2,x3,x4,x5,x6]):jD (aT L++z) (0+u*7) 7=some [.int .i64 x0,.int .i64 x1,.int .i64 x2,.int .i64 x3,.int .i64 x4,.int .i64 x5,.int .i64 x6]:=by
 rw[Nat.zero_add];exact wW hw h
section
variable{X:FuncId->List Value->St->(Value->St->Bool)->Bool}
end
end Ev
end Go.Proofs.YtjkdkpckjgaplaaGreat
