import Derived.Test.YtjkdkpckjgaplaaGreatZl12
import Derived.Test.YtjkdkpckjgaplaaGreatZl10
set_option linter.unusedVariables false
set_option linter.unusedSimpArgs false
namespace Go.Proofs.YtjkdkpckjgaplaaGreat
open Go Go.RowKit
namespace Ev
theorem CE(n i k:Nat):1+(i:Int)*(n:Int)+(k:Int)=((n*i+k:Nat):Int)+1:=by
 simp only[Int.natCast_add,Int.natCast_mul];rw[Int.mul_comm];omega
theorem DM{X:List (List Int)}{f:Nat->List (List Int)}{t:Nat}:∀{n:Nat},(∀k,k<n->f (t+k)=[])->acc X f (t+n)=acc X f t
 |0,_=>rfl
 |n+1,h=>by
  show acc X f (t+n)++f (t+n)=_;rw[h n oM,List.append_nil,DM (fun k hk=>h k oM)]
theorem pH{L:List (List Int)}{x:List Int}(h:x∈L):yF L x=(vU x L:Int):=if_pos h
theorem tZ{sp:Prop}[Decidable sp]{l1 l2:List Int}{rs cs:List (List Int)}(h1:sp)(h2:¬(60<(rs.length:Int)∨20<(cs.length:Int)))(h3:pF (l1.length:Int) (l2.length:Int) rs=true)(h4:pG cs=true):nK sp l1 l2 rs cs=0:=by
 unfold nK;rw[if_pos h1,if_neg h2,if_pos h3,if_pos h4]
namespace Sv
variable{y:Sv}
theorem b2_end{i:Nat}(h:i+1=y.l1.length):acc y.b1 y.q2 (y.l2.length*i)=y.b2:=by
 show _=acc y.b1 y.q2 (y.l2.length*y.l1.length);rw[<-h,Nat.mul_add,Nat.mul_one];exact(DM (fun k hk=>q2_no hk oM)).symm
theorem q3_end{i k:Nat}(h:k+1=y.l2.length):acc y.b2 y.q3 (y.l2.length*(i+1))=acc y.b2 y.q3 (y.l2.length*i+k):=by
 rw[Nat.mul_add,Nat.mul_one];have e:y.l2.length*i+y.l2.length=y.l2.length*i+(k+1):=oM
 rw[e];exact mL (q3_no oM oM)
end Sv
section
variable{X:FuncId->List Value->St->(Value->St->Bool)->Bool}
set_option maxHeartbeats 4000000 in
theorem vB(n:Nat)(d r al up:Int)(a1 a2:Option Addr)(c1 c2:Nat)(l1 l2:List Int)(a3 a4:Option Addr)(c3 c4:Nat)(rs cs:List (List Int))(s:St)(hs:Wf s)(hn:2814749767106560<=n)(hl1:aN s a1 l1)(hl2:aN s a2 l2)(hr:RowsE s 7 a3 rs)(hc:RowsE s 6 a4 cs)(hpt:nK ((1<=d/\d<=99999)/\(1<=r/\r<=99999)/\(0<=al/\al<=100000)/\(0<=up/\up<=100000)/\cJ l1 l2=true) l1 l2 rs cs=0):bX Tryz.prog (bZ cB) X (n+3000) 57 [.agg ⟨[.int .i64 d,.int .i64 r,.slice a1 l1.length c1,.slice a2 l2.length c2,.int .i64 al,.int .i64 up,.slice a3 rs.length c3,.slice a4 cs.length c4]⟩] s (fun v A=>∃b,v = .slice (some ⟨b,0,none⟩) (Sv.b6 (Sv.mk r al up l1 l2 rs cs)).length OPEN/\A=[.row b 107 true (aT (Sv.b6 (Sv.mk r al up l1 l2 rs cs)))]):=by
 refine enter O3 rfl hs ?_;unfold NO;have hlen1:=hl1.len;have hlen2:=hl2.len;have hlen3:=hr.len;have hlen4:=hc.len;obtain⟨⟨hsd,hsr,hsa,hsu,hpl⟩,h60,h20,hrdb,hcpb⟩:=oN hpt;have hp1:=fZ hpl;have hp2:=gO hpl;have hm1:=hp1.hm;have hm2:(l2.length:Int)<=7:=DL hpl;have h21:=hp1.h2;have h22:=hp2.h2;have hmm:=gA (x:=(l1.length:Int)) (y:=(l2.length:Int)) oM oM;have hmn:=iY (x:=l2.length) (y:=l1.length) oM oM;refine rS (aZ J J J (fun b1=>(kM J (Q0 (rS (aH J (dD J dE .here rfl (aY J J (fun b2=>(kZ (Q6 J J .here rfl rfl rfl rfl (Q0 (rS (kM J (Q0 (rQ (rS (kM J (Q0 (W1 (bM (rQ (rS (kM J (aH J (aL J .here rfl ?_))))))))))))))))))))))))));refine aJ J hl1.spot (dB J J (fun h3=>?_) (fun h3=>?_))
 ·refine Q0 (Y0 J (Q1 (W0 (rQ (W1 (rS (kM J (Q0 (W1 (bM (rQ (rS (kM J (aH J (aL J .here rfl (aJ J hl2.spot (dB J J (fun h4=>?_) (fun h4=>?_))))))))))))))))))
  ·refine Q0 (Y0 J (Q1 (W0 (rQ (W1 (rS (dD J dE .here rfl (kM J (kM J (kO (aI J J (fun s1 h1=>fL _ _ _ _ _ _ _ _ _ _ _ _ _ s1 h1.wf oM (hl1.ext hs h1.2.1) (hl2.ext hs h1.2.1) oM oM oM) ?_)))))))))))
   rw[show(1+0*(l2.length:Int)+0:Int)=1 by omega];refine kM J (Q0 (rI (kM J (kM J (aH J (aL J .here rfl (eG J J (kM J (aH J (aL J .here rfl (eG J J (kO (bF J J J (fun b5=>(kO (gZ J J (fK.own .here rfl (by first|(simp;done)|(simp[aT,mI];done))) dE oM oM (fun b6=>(kM J (Q0 (Z1 (W0 (rI (kM J (aX J J dE (kM J (Q0 (W0 ?_)))))))))))))))))))))))))));refine U4 (fun j e A=>∃(k b ln:Nat),e=[(1,.pointer (some ⟨b1,0,none⟩)),(3,.pointer (some ⟨b2,0,none⟩)),(4,.slice (some ⟨b,0,none⟩) ln OPEN),(5,.int .i64 ((0:Nat):Int)),(6,.int .i64 (k:Int))]/\A=(.row b 107 true (aT (acc [] (Sv.q1 (Sv.mk r al up l1 l2 rs cs)) (l2.length*0+k)))::(.row b2 33 false ([.int .i64 d,.int .i64 r,.slice a1 l1.length c1,.slice a2 l2.length c2,.int .i64 al,.int .i64 up])::(.row b1 37 false ([.int .i64 d,.int .i64 r,.slice a1 l1.length c1,.slice a2 l2.length c2,.int .i64 al,.int .i64 up,.slice a3 rs.length c3,.slice a4 cs.length c4])::[])))/\j=l2.length-k/\k<=l2.length/\ln=(acc [] (Sv.q1 (Sv.mk r al up l1 l2 rs cs)) (l2.length*0+k)).length/\ln<=0+2*(l2.length*0+k)) 600 0 281474976710656 ?_ (j:=_) (env2:=_) (A2:=_) ?_ ?_ ?_ ?_ ⟨1,b6,2,rfl,rfl,rfl,oM,rfl,oM⟩
   rotate_left
   ·omega
   ·omega
   ·exact lL
   ·exact(.q (.cons _ (.q (.q .slnil))))
   rintro n hn j _ _ ⟨k,b,ln,rfl,rfl,rfl,hk,hln,hlb⟩;have y0:=hp2.lo k;have y1:=hp2.lo (k+1);have r1:k+1<l2.length->l2.getD k 0<l2.getD (k+1) 0:=fun h=>hp2.rise k h
   refine rQ (rS (kM J (aH J (aL J .h1 J (aJ J hl2.spot (dB J J (fun h7=>?_) (fun h7=>?_)))))))
   ·refine Q0 (Y0 J (Q1 (W0 (rQ (W1 (rS (dD J dE .h1 J (kM J (kM J (kO (aI J J (fun s1 h1=>fL _ _ _ _ _ _ _ _ _ _ _ _ _ s1 h1.wf oM (hl1.ext hs h1.2.1) (hl2.ext hs h1.2.1) oM oM oM) ?_)))))))))))
    rw[show(1+((0:Nat):Int)*(l2.length:Int)+(k:Int):Int)=((l2.length*0+k:Nat):Int)+1 from CE _ _ _];refine kM J (Q0 (rI (kM J (kM J (aH J (aL J .h1 J (eG J J (kM J (aH J (aL J .h1 J (eG J J (kO (bF J J J (fun b8=>(kO (cO J J (fK.own .here rfl (by first|(simp;done)|(simp[aT,mI];done))) .h1 (by rw[hln];first|exact aA (Sv.h1 _ _)|exact aA (Sv.h2 _ _)|exact aA (Sv.h3 _ _)|exact aA (Sv.h4 _ _)|exact aA (Sv.h5i _ _ _)|exact aA (Sv.h6 _ _)) (.inl ⟨rfl,rfl⟩) dE oM oM (fun b9=>(kM J (Q0 (Z1 (W0 (rI (kM J (aX J J oM (kM J (Q0 (W0 ?_)))))))))))))))))))))))))));exact⟨rfl,_,_,_,(show l2.length-(k+1)<l2.length-k from oM),lL,(.q (.cons _ (.q (.q .slnil)))),⟨k+1,b9,ln+2,rfl,(by rw[gU (show Sv.q1 (Sv.mk r al up l1 l2 rs cs) (l2.length*0+k)=mI 0 (((l2.length*0+k:Nat):Int)+1) 20000 0 r from rfl)];first|done|rfl),rfl,oM,(by rw[jU (show Sv.q1 (Sv.mk r al up l1 l2 rs cs) (l2.length*0+k)=mI 0 (((l2.length*0+k:Nat):Int)+1) 20000 0 r from rfl),<-hln];first|done|rfl),oM⟩⟩
   ·refine Q0 (U0 J (Y4 (Z2 (Z2 (Q3 (Z1 (W0 (rI (kM J (aX J J dE (kM J (Q0 (W0 ?_)))))))))))))
    have hkl:k=l2.length:=oM
    subst hkl;refine U4 (fun j e A=>∃(i b ln:Nat),e=[(1,.pointer (some ⟨b1,0,none⟩)),(3,.pointer (some ⟨b2,0,none⟩)),(4,.slice (some ⟨b,0,none⟩) ln OPEN),(5,.int .i64 (i:Int))]/\A=(.row b 107 true (aT (acc [] (Sv.q1 (Sv.mk r al up l1 l2 rs cs)) (l2.length*i)))::(.row b2 33 false ([.int .i64 d,.int .i64 r,.slice a1 l1.length c1,.slice a2 l2.length c2,.int .i64 al,.int .i64 up])::(.row b1 37 false ([.int .i64 d,.int .i64 r,.slice a1 l1.length c1,.slice a2 l2.length c2,.int .i64 al,.int .i64 up,.slice a3 rs.length c3,.slice a4 cs.length c4])::[])))/\j=l1.length-i/\i<=l1.length/\ln=(acc [] (Sv.q1 (Sv.mk r al up l1 l2 rs cs)) (l2.length*i)).length/\ln<=0+2*(l2.length*i)) 900 281474976710656 281474976710656 ?_ (j:=_) (env2:=_) (A2:=_) ?_ ?_ ?_ ?_ ⟨1,b,ln,rfl,rfl,rfl,oM,hln,oM⟩
    rotate_left
    ·omega
    ·omega
    ·exact lL
    ·exact(.q (.q (.q .slnil)))
    rintro n hn j _ _ ⟨i,b,ln,rfl,rfl,rfl,hi,hln,hlb⟩;have z0:=hp1.lo i;have z1:=hp1.lo (i+1);have r0:i+1<l1.length->l1.getD i 0<l1.getD (i+1) 0:=fun h=>hp1.rise i h
    have hq7:l2.length*i<=81:=iY oM oM;refine rQ (rS (kM J (aH J (aL J .h1 J (aJ J hl1.spot (dB J J (fun h10=>?_) (fun h10=>?_)))))))
    ·refine Q0 (Y0 J (Q1 (W0 (rQ (W1 (rS (kM J (Q0 (W1 (U4 (fun j e A=>∃(k b ln:Nat),e=[(1,.pointer (some ⟨b1,0,none⟩)),(3,.pointer (some ⟨b2,0,none⟩)),(4,.slice (some ⟨b,0,none⟩) ln OPEN),(5,.int .i64 ((i:Nat):Int)),(6,.int .i64 (k:Int))]/\A=(.row b 107 true (aT (acc [] (Sv.q1 (Sv.mk r al up l1 l2 rs cs)) (l2.length*i+k)))::(.row b2 33 false ([.int .i64 d,.int .i64 r,.slice a1 l1.length c1,.slice a2 l2.length c2,.int .i64 al,.int .i64 up])::(.row b1 37 false ([.int .i64 d,.int .i64 r,.slice a1 l1.length c1,.slice a2 l2.length c2,.int .i64 al,.int .i64 up,.slice a3 rs.length c3,.slice a4 cs.length c4])::[])))/\j=l2.length-k/\k<=l2.length/\ln=(acc [] (Sv.q1 (Sv.mk r al up l1 l2 rs cs)) (l2.length*i+k)).length/\ln<=0+2*(l2.length*i+k)) 600 0 281474976710656 ?_ (j:=_) (env2:=_) (A2:=_) ?_ ?_ ?_ ?_ ⟨0,b,ln,rfl,rfl,rfl,oM,hln,oM⟩))))))))))
     rotate_left
     ·omega
     ·omega
     ·exact lL
     ·exact(.q (.q (.q .slnil)))
     rintro n hn j _ _ ⟨k,b,ln,rfl,rfl,rfl,hk,hln,hlb⟩;have y0:=hp2.lo k;have y1:=hp2.lo (k+1);have r1:k+1<l2.length->l2.getD k 0<l2.getD (k+1) 0:=fun h=>hp2.rise k h
     refine rQ (rS (kM J (aH J (aL J .h1 J (aJ J hl2.spot (dB J J (fun h11=>?_) (fun h11=>?_)))))))
     ·refine Q0 (Y0 J (Q1 (W0 (rQ (W1 (rS (dD J dE .h1 J (kM J (kM J (kO (aI J J (fun s1 h1=>fL _ _ _ _ _ _ _ _ _ _ _ _ _ s1 h1.wf oM (hl1.ext hs h1.2.1) (hl2.ext hs h1.2.1) oM oM oM) ?_)))))))))))
      rw[show(1+(i:Int)*(l2.length:Int)+(k:Int):Int)=((l2.length*i+k:Nat):Int)+1 from CE _ _ _];refine kM J (Q0 (rI (kM J (kM J (aH J (aL J .h1 J (eG J J (kM J (aH J (aL J .h1 J (eG J J (kO (bF J J J (fun b12=>(kO (cO J J (fK.own .here rfl (by first|(simp;done)|(simp[aT,mI];done))) .h1 (by rw[hln];first|exact aA (Sv.h1 _ _)|exact aA (Sv.h2 _ _)|exact aA (Sv.h3 _ _)|exact aA (Sv.h4 _ _)|exact aA (Sv.h5i _ _ _)|exact aA (Sv.h6 _ _)) (.inl ⟨rfl,rfl⟩) dE oM oM (fun b13=>(kM J (Q0 (Z1 (W0 (rI (kM J (aX J J oM (kM J (Q0 (W0 ?_)))))))))))))))))))))))))));exact⟨rfl,_,_,_,(show l2.length-(k+1)<l2.length-k from oM),lL,(.q (.cons _ (.q (.q .slnil)))),⟨k+1,b13,ln+2,rfl,(by rw[gU (show Sv.q1 (Sv.mk r al up l1 l2 rs cs) (l2.length*i+k)=mI 0 (((l2.length*i+k:Nat):Int)+1) 20000 0 r from rfl)];first|done|rfl),rfl,oM,(by rw[jU (show Sv.q1 (Sv.mk r al up l1 l2 rs cs) (l2.length*i+k)=mI 0 (((l2.length*i+k:Nat):Int)+1) 20000 0 r from rfl),<-hln];first|done|rfl),oM⟩⟩
     ·refine Q0 (U0 J (Y4 (Z2 (Z2 (Q3 (Z1 (W0 (rI (kM J (aX J J oM (kM J (Q0 (W0 ?_)))))))))))))
      have hkl:k=l2.length:=oM
      subst hkl;exact⟨rfl,_,_,_,(show l1.length-(i+1)<l1.length-i from oM),lL,(.q (.q (.q .slnil))),⟨i+1,b,ln,rfl,rfl,rfl,oM,hln,(by rw[Nat.mul_add,Nat.mul_one];omega)⟩⟩
    ·refine Q0 (U0 J (Y4 (Z2 (Z2 (Q3 (W0 (rQ (rS (kM J (Q0 (W1 ?_)))))))))))
     have hil:i=l1.length:=oM
     subst hil;refine U4 (fun j e A=>∃(i b ln:Nat),e=[(1,.pointer (some ⟨b1,0,none⟩)),(3,.pointer (some ⟨b2,0,none⟩)),(4,.slice (some ⟨b,0,none⟩) ln OPEN),(8,.int .i64 (i:Int))]/\A=(.row b 107 true (aT (acc (Sv.b1 (Sv.mk r al up l1 l2 rs cs)) (Sv.q2 (Sv.mk r al up l1 l2 rs cs)) (l2.length*i)))::(.row b2 33 false ([.int .i64 d,.int .i64 r,.slice a1 l1.length c1,.slice a2 l2.length c2,.int .i64 al,.int .i64 up])::(.row b1 37 false ([.int .i64 d,.int .i64 r,.slice a1 l1.length c1,.slice a2 l2.length c2,.int .i64 al,.int .i64 up,.slice a3 rs.length c3,.slice a4 cs.length c4])::[])))/\j=l1.length-i/\i+1<=l1.length/\ln=(acc (Sv.b1 (Sv.mk r al up l1 l2 rs cs)) (Sv.q2 (Sv.mk r al up l1 l2 rs cs)) (l2.length*i)).length/\ln<=162+2*(l2.length*i)) 900 281474976710656 281474976710656 ?_ (j:=_) (env2:=_) (A2:=_) ?_ ?_ ?_ ?_ ⟨0,b,ln,rfl,rfl,rfl,oM,hln,oM⟩
     rotate_left
     ·omega
     ·omega
     ·exact lL
     ·exact(.q (.q (.q .slnil)))
     rintro n hn j _ _ ⟨i,b,ln,rfl,rfl,rfl,hi,hln,hlb⟩;have z0:=hp1.lo i;have z1:=hp1.lo (i+1);have r0:i+1<l1.length->l1.getD i 0<l1.getD (i+1) 0:=fun h=>hp1.rise i h
     have hq7:l2.length*i<=81:=iY oM oM;refine rQ (rS (kM J (aX J J oM (aH J (aL J .h1 J (aJ J hl1.spot (dB J J (fun h14=>?_) (fun h14=>?_))))))))
     ·refine Q0 (Y0 J (Q1 (W0 (rQ (W1 (rS (kM J (Q0 (W1 (U4 (fun j e A=>∃(k b ln:Nat),e=[(1,.pointer (some ⟨b1,0,none⟩)),(3,.pointer (some ⟨b2,0,none⟩)),(4,.slice (some ⟨b,0,none⟩) ln OPEN),(8,.int .i64 ((i:Nat):Int)),(9,.int .i64 (k:Int))]/\A=(.row b 107 true (aT (acc (Sv.b1 (Sv.mk r al up l1 l2 rs cs)) (Sv.q2 (Sv.mk r al up l1 l2 rs cs)) (l2.length*i+k)))::(.row b2 33 false ([.int .i64 d,.int .i64 r,.slice a1 l1.length c1,.slice a2 l2.length c2,.int .i64 al,.int .i64 up])::(.row b1 37 false ([.int .i64 d,.int .i64 r,.slice a1 l1.length c1,.slice a2 l2.length c2,.int .i64 al,.int .i64 up,.slice a3 rs.length c3,.slice a4 cs.length c4])::[])))/\j=l2.length-k/\k<=l2.length/\ln=(acc (Sv.b1 (Sv.mk r al up l1 l2 rs cs)) (Sv.q2 (Sv.mk r al up l1 l2 rs cs)) (l2.length*i+k)).length/\ln<=162+2*(l2.length*i+k)) 600 0 281474976710656 ?_ (j:=_) (env2:=_) (A2:=_) ?_ ?_ ?_ ?_ ⟨0,b,ln,rfl,rfl,rfl,oM,hln,oM⟩))))))))))
      rotate_left
      ·omega
      ·omega
      ·exact lL
      ·exact(.q (.q (.q .slnil)))
      rintro n hn j _ _ ⟨k,b,ln,rfl,rfl,rfl,hk,hln,hlb⟩;have y0:=hp2.lo k;have y1:=hp2.lo (k+1);have r1:k+1<l2.length->l2.getD k 0<l2.getD (k+1) 0:=fun h=>hp2.rise k h
      refine rQ (rS (kM J (aH J (aL J .h1 J (aJ J hl2.spot (dB J J (fun h15=>?_) (fun h15=>?_)))))))
      ·refine Q0 (Y0 J (Q1 (W0 (rQ (W1 (rI (kM J (dD J dE .h1 J (kM J (kM J (dD J dE .h1 J (kM J (aX J J oM (kM J (aH J (aH J (aL J .h1 J (aH J (aL J .h1 J (kM J (aX J J oM (kO (Q7 (j:=i+1) hl1 rfl rfl oM (by first|rfl|omega) oM (fun _ _ a16=>(kO (W6 J (hl1.at a16 oM) ?_))))))))))))))))))))))))))
       refine aH J (aL J .h1 J (kM J (kO (Q7 (j:=i) hl1 rfl rfl oM (by first|rfl|omega) oM (fun _ _ a17=>(kO (W6 J (hl1.at a17 oM) (kO (bN J J oM (aH J (aL J .h1 J (kO (aI J J (fun s1 h1=>fL _ _ _ _ _ _ _ _ _ _ _ _ _ s1 h1.wf oM (hl1.ext hs h1.2.1) (hl2.ext hs h1.2.1) oM oM oM) ?_)))))))))))));rw[show(1+(i:Int)*(l2.length:Int)+(k:Int):Int)=((l2.length*i+k:Nat):Int)+1 from CE _ _ _];refine kZ (aK J J .h1 J (by simp[eqV,eqA,eqL,kindEq,aB,V5 hl1.spot,V5 hl2.spot,V5 hr.spot,V5 hc.spot]) (kZ (lX J J (hl1.at a17 oM) (by simp[eqV,kindEq,aB]) (kZ (aK J J .h1 J (by simp[eqV,eqA,eqL,kindEq,aB,V5 hl1.spot,V5 hl2.spot,V5 hr.spot,V5 hc.spot]) (kZ (lX J J (hl1.at a16 oM) (by simp[eqV,kindEq,aB]) (kZ (aK J J .h1 J (by simp[eqV,eqA,eqL,kindEq,aB,V5 hl1.spot,V5 hl2.spot,V5 hr.spot,V5 hc.spot]) (kZ (aK J J .h1 J (by simp[eqV,eqA,eqL,kindEq,aB,V5 hl1.spot,V5 hl2.spot,V5 hr.spot,V5 hc.spot]) (kZ (eJ J J dE .h1 J (by simp[eqL,eqV,eqA,kindEq,aB,V5 hl1.spot,V5 hl2.spot,V5 hr.spot,V5 hc.spot]) (kO (aI J J (fun s1 h1=>fL _ _ _ _ _ _ _ _ _ _ _ _ _ s1 h1.wf oM (hl1.ext hs h1.2.1) (hl2.ext hs h1.2.1) oM oM oM) (kZ (aK J J .h1 J (by simp[eqV,eqA,eqL,kindEq,aB,V5 hl1.spot,V5 hl2.spot,V5 hr.spot,V5 hc.spot]) (kZ (lX J J (hl1.at a17 oM) (by simp[eqV,kindEq,aB]) (kZ (aK J J .h1 J (by simp[eqV,eqA,eqL,kindEq,aB,V5 hl1.spot,V5 hl2.spot,V5 hr.spot,V5 hc.spot]) (kZ (lX J J (hl1.at a16 oM) (by simp[eqV,kindEq,aB]) (kZ (aK J J .h1 J (by simp[eqV,eqA,eqL,kindEq,aB,V5 hl1.spot,V5 hl2.spot,V5 hr.spot,V5 hc.spot]) (kZ (aK J J .h1 J (by simp[eqV,eqA,eqL,kindEq,aB,V5 hl1.spot,V5 hl2.spot,V5 hr.spot,V5 hc.spot]) (kO (aI J J (fun s1 h1=>BS _ _ _ s1 h1.wf oM oM) (kZ (aK J J .h1 J (by simp[eqV,eqA,eqL,kindEq,aB,V5 hl1.spot,V5 hl2.spot,V5 hr.spot,V5 hc.spot]) (kO (Z4 J J (fun s1 h1=>CD _ _ _ _ _ s1 h1.wf) (fun v1 A1 q1=>?_))))))))))))))))))))))))))))))))));obtain⟨b18,rfl,rfl⟩:=q1;refine kO (cO J J (fK.own .here rfl (by first|(simp;done)|(simp[aT,mI];done))) .h1 (by rw[hln];first|exact aA (Sv.h1 _ _)|exact aA (Sv.h2 _ _)|exact aA (Sv.h3 _ _)|exact aA (Sv.h4 _ _)|exact aA (Sv.h5i _ _ _)|exact aA (Sv.h6 _ _)) (.inl ⟨rfl,rfl⟩) dE oM oM (fun b19=>(kM J (Q0 (Z1 (W0 (rI (kM J (aX J J oM (kM J (Q0 (W0 ?_))))))))))));exact⟨rfl,_,_,_,(show l2.length-(k+1)<l2.length-k from oM),lL,(.q (.cons _ (.q (.q .slnil)))),⟨k+1,b19,ln+2,rfl,(by rw[gU (Sv.q2_yes (y:=(Sv.mk r al up l1 l2 rs cs)) (show k<l2.length from oM) (show(i:Int)+1<(l1.length:Int) from oM))];first|done|rfl),rfl,oM,(by rw[jU (Sv.q2_yes (y:=(Sv.mk r al up l1 l2 rs cs)) (show k<l2.length from oM) (show(i:Int)+1<(l1.length:Int) from oM)),<-hln];first|done|rfl),oM⟩⟩
      ·refine Q0 (U0 J (Y4 (Z2 (Z2 (Q3 (Z1 (W0 (rI (kM J (aX J J oM (kM J (Q0 (W0 ?_)))))))))))))
       have hkl:k=l2.length:=oM
       subst hkl;exact⟨rfl,_,_,_,(show l1.length-(i+1)<l1.length-i from oM),lL,(.q (.q (.q .slnil))),⟨i+1,b,ln,rfl,rfl,rfl,oM,hln,(by rw[Nat.mul_add,Nat.mul_one];omega)⟩⟩
     ·refine Q0 (U0 J (Y4 (Z2 (Z2 (Q3 (W0 (rQ (rS (kM J (Q0 (W1 ?_)))))))))))
      have hil:i+1=l1.length:=oM
      have hbb:=Sv.b2_end (y:=(Sv.mk r al up l1 l2 rs cs)) (show i+1=l1.length from hil);have hbl:l2.length*i<=81:=iY oM oM;change acc (Sv.b1 (Sv.mk r al up l1 l2 rs cs)) (Sv.q2 (Sv.mk r al up l1 l2 rs cs)) (l2.length*i)=_ at hbb;rw[hbb] at hln ⊢;refine U4 (fun j e A=>∃(i b ln:Nat),e=[(1,.pointer (some ⟨b1,0,none⟩)),(3,.pointer (some ⟨b2,0,none⟩)),(4,.slice (some ⟨b,0,none⟩) ln OPEN),(10,.int .i64 (i:Int))]/\A=(.row b 107 true (aT (acc (Sv.b2 (Sv.mk r al up l1 l2 rs cs)) (Sv.q3 (Sv.mk r al up l1 l2 rs cs)) (l2.length*i)))::(.row b2 33 false ([.int .i64 d,.int .i64 r,.slice a1 l1.length c1,.slice a2 l2.length c2,.int .i64 al,.int .i64 up])::(.row b1 37 false ([.int .i64 d,.int .i64 r,.slice a1 l1.length c1,.slice a2 l2.length c2,.int .i64 al,.int .i64 up,.slice a3 rs.length c3,.slice a4 cs.length c4])::[])))/\j=l1.length-i/\i<=l1.length/\ln=(acc (Sv.b2 (Sv.mk r al up l1 l2 rs cs)) (Sv.q3 (Sv.mk r al up l1 l2 rs cs)) (l2.length*i)).length/\ln<=324+2*(l2.length*i)) 900 281474976710656 281474976710656 ?_ (j:=_) (env2:=_) (A2:=_) ?_ ?_ ?_ ?_ ⟨0,b,ln,rfl,rfl,rfl,oM,hln,oM⟩
      rotate_left
      ·omega
      ·omega
      ·exact lL
      ·exact(.q (.q (.q .slnil)))
      rintro n hn j _ _ ⟨i,b,ln,rfl,rfl,rfl,hi,hln,hlb⟩;have z0:=hp1.lo i;have z1:=hp1.lo (i+1);have r0:i+1<l1.length->l1.getD i 0<l1.getD (i+1) 0:=fun h=>hp1.rise i h
      have hq7:l2.length*i<=81:=iY oM oM;refine rQ (rS (kM J (aH J (aL J .h1 J (aJ J hl1.spot (dB J J (fun h20=>?_) (fun h20=>?_)))))))
      ·refine Q0 (Y0 J (Q1 (W0 (rQ (W1 (rS (kM J (Q0 (W1 (U4 (fun j e A=>∃(k b ln:Nat),e=[(1,.pointer (some ⟨b1,0,none⟩)),(3,.pointer (some ⟨b2,0,none⟩)),(4,.slice (some ⟨b,0,none⟩) ln OPEN),(10,.int .i64 ((i:Nat):Int)),(11,.int .i64 (k:Int))]/\A=(.row b 107 true (aT (acc (Sv.b2 (Sv.mk r al up l1 l2 rs cs)) (Sv.q3 (Sv.mk r al up l1 l2 rs cs)) (l2.length*i+k)))::(.row b2 33 false ([.int .i64 d,.int .i64 r,.slice a1 l1.length c1,.slice a2 l2.length c2,.int .i64 al,.int .i64 up])::(.row b1 37 false ([.int .i64 d,.int .i64 r,.slice a1 l1.length c1,.slice a2 l2.length c2,.int .i64 al,.int .i64 up,.slice a3 rs.length c3,.slice a4 cs.length c4])::[])))/\j=l2.length-k/\k+1<=l2.length/\ln=(acc (Sv.b2 (Sv.mk r al up l1 l2 rs cs)) (Sv.q3 (Sv.mk r al up l1 l2 rs cs)) (l2.length*i+k)).length/\ln<=324+2*(l2.length*i+k)) 600 0 281474976710656 ?_ (j:=_) (env2:=_) (A2:=_) ?_ ?_ ?_ ?_ ⟨0,b,ln,rfl,rfl,rfl,oM,hln,oM⟩))))))))))
       rotate_left
       ·omega
       ·omega
       ·exact lL
       ·exact(.q (.q (.q .slnil)))
       rintro n hn j _ _ ⟨k,b,ln,rfl,rfl,rfl,hk,hln,hlb⟩;have y0:=hp2.lo k;have y1:=hp2.lo (k+1);have r1:k+1<l2.length->l2.getD k 0<l2.getD (k+1) 0:=fun h=>hp2.rise k h
       refine rQ (rS (kM J (aX J J oM (aH J (aL J .h1 J (aJ J hl2.spot (dB J J (fun h21=>?_) (fun h21=>?_))))))))
       ·refine Q0 (Y0 J (Q1 (W0 (rQ (W1 (rI (kM J (dD J dE .h1 J (kM J (kM J (dD J dE .h1 J (kM J (kM J (aX J J oM (aH J (aH J (aL J .h1 J (aH J (aL J .h1 J (kM J (aX J J oM (kO (Q7 (j:=k+1) hl2 rfl rfl oM (by first|rfl|omega) oM (fun _ _ a22=>(kO (W6 J (hl2.at a22 oM) ?_))))))))))))))))))))))))))
        refine aH J (aL J .h1 J (kM J (kO (Q7 (j:=k) hl2 rfl rfl oM (by first|rfl|omega) oM (fun _ _ a23=>(kO (W6 J (hl2.at a23 oM) (kO (bN J J oM (aH J (aL J .h1 J (kO (aI J J (fun s1 h1=>fL _ _ _ _ _ _ _ _ _ _ _ _ _ s1 h1.wf oM (hl1.ext hs h1.2.1) (hl2.ext hs h1.2.1) oM oM oM) ?_)))))))))))));rw[show(1+(i:Int)*(l2.length:Int)+(k:Int):Int)=((l2.length*i+k:Nat):Int)+1 from CE _ _ _];refine kZ (aK J J .h1 J (by simp[eqV,eqA,eqL,kindEq,aB,V5 hl1.spot,V5 hl2.spot,V5 hr.spot,V5 hc.spot]) (kZ (lX J J (hl2.at a23 oM) (by simp[eqV,kindEq,aB]) (kZ (aK J J .h1 J (by simp[eqV,eqA,eqL,kindEq,aB,V5 hl1.spot,V5 hl2.spot,V5 hr.spot,V5 hc.spot]) (kZ (lX J J (hl2.at a22 oM) (by simp[eqV,kindEq,aB]) (kZ (aK J J .h1 J (by simp[eqV,eqA,eqL,kindEq,aB,V5 hl1.spot,V5 hl2.spot,V5 hr.spot,V5 hc.spot]) (kZ (aK J J .h1 J (by simp[eqV,eqA,eqL,kindEq,aB,V5 hl1.spot,V5 hl2.spot,V5 hr.spot,V5 hc.spot]) (kZ (eJ J J dE .h1 J (by simp[eqL,eqV,eqA,kindEq,aB,V5 hl1.spot,V5 hl2.spot,V5 hr.spot,V5 hc.spot]) (kO (aI J J (fun s1 h1=>fL _ _ _ _ _ _ _ _ _ _ _ _ _ s1 h1.wf oM (hl1.ext hs h1.2.1) (hl2.ext hs h1.2.1) oM oM oM) (kZ (aK J J .h1 J (by simp[eqV,eqA,eqL,kindEq,aB,V5 hl1.spot,V5 hl2.spot,V5 hr.spot,V5 hc.spot]) (kZ (lX J J (hl2.at a23 oM) (by simp[eqV,kindEq,aB]) (kZ (aK J J .h1 J (by simp[eqV,eqA,eqL,kindEq,aB,V5 hl1.spot,V5 hl2.spot,V5 hr.spot,V5 hc.spot]) (kZ (lX J J (hl2.at a22 oM) (by simp[eqV,kindEq,aB]) (kZ (aK J J .h1 J (by simp[eqV,eqA,eqL,kindEq,aB,V5 hl1.spot,V5 hl2.spot,V5 hr.spot,V5 hc.spot]) (kZ (aK J J .h1 J (by simp[eqV,eqA,eqL,kindEq,aB,V5 hl1.spot,V5 hl2.spot,V5 hr.spot,V5 hc.spot]) (kO (aI J J (fun s1 h1=>BS _ _ _ s1 h1.wf oM oM) (kZ (aK J J .h1 J (by simp[eqV,eqA,eqL,kindEq,aB,V5 hl1.spot,V5 hl2.spot,V5 hr.spot,V5 hc.spot]) (kO (Z4 J J (fun s1 h1=>CD _ _ _ _ _ s1 h1.wf) (fun v1 A1 q1=>?_))))))))))))))))))))))))))))))))));obtain⟨b24,rfl,rfl⟩:=q1;refine kO (cO J J (fK.own .here rfl (by first|(simp;done)|(simp[aT,mI];done))) .h1 (by rw[hln];first|exact aA (Sv.h1 _ _)|exact aA (Sv.h2 _ _)|exact aA (Sv.h3 _ _)|exact aA (Sv.h4 _ _)|exact aA (Sv.h5i _ _ _)|exact aA (Sv.h6 _ _)) (.inl ⟨rfl,rfl⟩) dE oM oM (fun b25=>(kM J (Q0 (Z1 (W0 (rI (kM J (aX J J oM (kM J (Q0 (W0 ?_))))))))))));exact⟨rfl,_,_,_,(show l2.length-(k+1)<l2.length-k from oM),lL,(.q (.cons _ (.q (.q .slnil)))),⟨k+1,b25,ln+2,rfl,(by rw[gU (Sv.q3_yes (y:=(Sv.mk r al up l1 l2 rs cs)) (show k<l2.length from oM) (show(k:Int)+1<(l2.length:Int) from oM))];first|done|rfl),rfl,oM,(by rw[jU (Sv.q3_yes (y:=(Sv.mk r al up l1 l2 rs cs)) (show k<l2.length from oM) (show(k:Int)+1<(l2.length:Int) from oM)),<-hln];first|done|rfl),oM⟩⟩
       ·refine Q0 (U0 J (Y4 (Z2 (Z2 (Q3 (Z1 (W0 (rI (kM J (aX J J oM (kM J (Q0 (W0 ?_)))))))))))))
        have hkl:k+1=l2.length:=oM
        have hbb:=Sv.q3_end (y:=(Sv.mk r al up l1 l2 rs cs)) (i:=i) (show k+1=l2.length from hkl);exact⟨rfl,_,_,_,(show l1.length-(i+1)<l1.length-i from oM),lL,(.q (.q (.q .slnil))),⟨i+1,b,ln,rfl,(congrArg (fun z=>_::z) J |>.trans (by first|rfl|(rw[show acc (Sv.b2 (Sv.mk r al up l1 l2 rs cs)) (Sv.q3 (Sv.mk r al up l1 l2 rs cs)) (l2.length*(i+1))=_ from hbb]))),rfl,oM,(hln.trans (congrArg List.length hbb.symm)),(by rw[Nat.mul_add,Nat.mul_one];omega)⟩⟩
      ·refine Q0 (U0 J (Y4 (Z2 (Z2 (Q3 (W0 (rS (aH J (aL J .h2 J (kO (Z4 J J (fun s1 h1=>yZ _ _ _ _ s1 h1.wf oM (hr.ext hs h1.2.1) oM) (fun v1 A1 q1=>?_))))))))))))
       rcases q1 with ⟨hrs,rfl,rfl⟩|⟨hne,bd,rfl,rfl,hWD,hDl⟩
       ·refine kM J (Q0 (rS (dD J dE .h1 J (kO (aI J J (fun s1 h1=>gP _ _ _ _ _ _ _ _ _ _ _ s1 h1.wf oM (hl1.ext hs h1.2.1) (hl2.ext hs h1.2.1) oM) (kM J (Q0 (rQ (rS (kM J (Q0 (W1 (bM (rQ (rS (kM J (kM J (kO (rO J (dB J J (fun h=>absurd h dE) (fun _=>(Q0 (U0 J (Y4 (Z2 (Z2 ?_))))))))))))))))))))))))))
        refine Q3 (W0 (rQ (rS (kM J (Q0 (W1 ?_))))));have hil:i=l1.length:=oM
        subst hil;have hbb:acc (Sv.b2 (Sv.mk r al up l1 l2 rs cs)) (Sv.q3 (Sv.mk r al up l1 l2 rs cs)) (l2.length*l1.length)=Sv.b5 (Sv.mk r al up l1 l2 rs cs) 0:=(Sv.b4_nil (y:=(Sv.mk r al up l1 l2 rs cs)) hrs).symm;rw[hbb] at hln ⊢;refine U4 (fun j e A=>∃(i b ln:Nat),e=[(1,.pointer (some ⟨b1,0,none⟩)),(3,.pointer (some ⟨b2,0,none⟩)),(4,.slice (some ⟨b,0,none⟩) ln OPEN),(12,.slice none 0 0),(13,.int .i64 ((l1.length:Int)*(l2.length:Int))),(15,.int .i64 (i:Int))]/\A=(.row b 107 true (aT (Sv.b5 (Sv.mk r al up l1 l2 rs cs) i))::(.row b2 33 false ([.int .i64 d,.int .i64 r,.slice a1 l1.length c1,.slice a2 l2.length c2,.int .i64 al,.int .i64 up])::(.row b1 37 false ([.int .i64 d,.int .i64 r,.slice a1 l1.length c1,.slice a2 l2.length c2,.int .i64 al,.int .i64 up,.slice a3 rs.length c3,.slice a4 cs.length c4])::[])))/\j=cs.length-i/\i<=cs.length/\ln=(Sv.b5 (Sv.mk r al up l1 l2 rs cs) i).length/\ln<=606+120*i) 700 844424930131968 281474976710656 ?_ (j:=_) (env2:=_) (A2:=_) ?_ ?_ ?_ ?_ ⟨0,b,ln,rfl,rfl,rfl,oM,hln,oM⟩
        rotate_left
        ·omega
        ·omega
        ·exact lL
        ·exact(.q (.q (.q .slnil)))
        rintro n hn j _ _ ⟨i,b,ln,rfl,rfl,rfl,hi,hln,hlb⟩;refine rQ (rS (kM J (aH J (aL J .h2 J (aJ J (by first|exact hl1.spot|exact hl2.spot|exact hr.spot|exact hc.spot) (dB J J (fun h27=>?_) (fun h27=>?_)))))))
        ·obtain⟨q6,o6,z0,z1,z2,z3,z4,z5,ahc,hz,hat,j0,j1,j2,j3,j4,j5⟩:=hc.row6 (k:=i) oM
         have hat2:=hat;obtain⟨e0,e1,e2,e3,e4,e5,_⟩:=hat2;have:=j0.lo;have:=j0.hi;have:=j1.lo;have:=j1.hi;have:=j2.lo;have:=j2.hi;have:=j3.lo;have:=j3.hi;have:=j4.lo;have:=j4.hi;have:=j5.lo;have:=j5.hi;have hcd:=tS hcpb hz;refine Q0 (Y0 J (Q1 (W0 (rQ (W1 (rS (kM J (Q0 (W1 (bM (rQ (rS (kM J (kM J (kO (rO J (dB J J (fun h=>absurd h dE) (fun _=>(Q0 (U0 J (Y4 (Z2 (Z2 (Q3 (Z1 ?_)))))))))))))))))))))))));refine W0 (rI (kM J (aX J J oM (kM J (Q0 (W0 ?_))))));exact⟨rfl,_,_,_,(show cs.length-(i+1)<cs.length-i from oM),lL,(.q (.q (.q .slnil))),⟨i+1,b,ln,rfl,(by rw[Sv.b5_nil (y:=(Sv.mk r al up l1 l2 rs cs)) hrs];first|done|rfl),rfl,oM,(by rw[Sv.b5_nil (y:=(Sv.mk r al up l1 l2 rs cs)) hrs];exact hln),oM⟩⟩
        ·refine Q0 (U0 J (Y4 (Z2 (Z2 (Q3 (W0 (rQ (rS (kM J (Q0 (W1 ?_)))))))))))
         have hic:i=cs.length:=oM
         subst hic;refine U4 (fun j e A=>∃(k b ln:Nat),e=[(1,.pointer (some ⟨b1,0,none⟩)),(3,.pointer (some ⟨b2,0,none⟩)),(4,.slice (some ⟨b,0,none⟩) ln OPEN),(12,.slice none 0 0),(13,.int .i64 ((l1.length:Int)*(l2.length:Int))),(17,.int .i64 (k:Int))]/\A=(.row b 107 true (aT (acc (Sv.b5 (Sv.mk r al up l1 l2 rs cs) cs.length) (Sv.q6 (Sv.mk r al up l1 l2 rs cs)) k))::(.row b2 33 false ([.int .i64 d,.int .i64 r,.slice a1 l1.length c1,.slice a2 l2.length c2,.int .i64 al,.int .i64 up])::(.row b1 37 false ([.int .i64 d,.int .i64 r,.slice a1 l1.length c1,.slice a2 l2.length c2,.int .i64 al,.int .i64 up,.slice a3 rs.length c3,.slice a4 cs.length c4])::[])))/\j=rs.length-k/\k<=rs.length/\ln=(acc (Sv.b5 (Sv.mk r al up l1 l2 rs cs) cs.length) (Sv.q6 (Sv.mk r al up l1 l2 rs cs)) k).length/\ln<=3006+2*k) 600 281474976710656 281474976710656 ?_ (j:=_) (env2:=_) (A2:=_) ?_ ?_ ?_ ?_ ⟨0,b,ln,rfl,rfl,rfl,oM,hln,oM⟩
         rotate_left
         ·omega
         ·omega
         ·exact lL
         ·exact(.q (.q (.q .slnil)))
         rintro n hn j _ _ ⟨k,b,ln,rfl,rfl,rfl,hk,hln,hlb⟩;refine rQ (rS (kM J (aH J (aL J .h2 J (aJ J (by first|exact hl1.spot|exact hl2.spot|exact hr.spot|exact hc.spot) (dB J J (fun h29=>?_) (fun h29=>?_)))))))
         ·exfalso;rw[hrs] at h29;simp at h29;omega
         ·refine Q0 (U0 J (Y4 (Z2 (Z2 (Q3 (W0 (rS (kM J (kM J (Q0 (V2 ?_)))))))))))
          have hkr:k=rs.length:=oM
          subst hkr;subst hln;exact gH J (.q (.cons _ (.cons _ .slnil))) ⟨b,rfl,rfl⟩
       ·refine kM J (Q0 (rS (dD J dE .h2 J (kO (aI J J (fun s1 h1=>gP _ _ _ _ _ _ _ _ _ _ _ s1 h1.wf oM (hl1.ext hs h1.2.1) (hl2.ext hs h1.2.1) oM) (kM J (Q0 (rQ (rS (kM J (Q0 (W1 (kQ .h1 ?_)))))))))))))
        have hil:i=l1.length:=oM
        subst hil;refine U4 (fun j e A=>∃(k b ln:Nat),e=[(1,.pointer (some ⟨b1,0,none⟩)),(3,.pointer (some ⟨b2,0,none⟩)),(4,.slice (some ⟨b,0,none⟩) ln OPEN),(12,.slice (some ⟨bd,0,none⟩) (dys rs).length OPEN),(13,.int .i64 ((l1.length:Int)*(l2.length:Int))),(14,.int .i64 (k:Int))]/\A=(.row b 107 true (aT (acc (Sv.b3 (Sv.mk r al up l1 l2 rs cs)) (Sv.q4 (Sv.mk r al up l1 l2 rs cs)) k))::(.row bd 86 true (aT (dys rs))::(.row b2 33 false ([.int .i64 d,.int .i64 r,.slice a1 l1.length c1,.slice a2 l2.length c2,.int .i64 al,.int .i64 up])::(.row b1 37 false ([.int .i64 d,.int .i64 r,.slice a1 l1.length c1,.slice a2 l2.length c2,.int .i64 al,.int .i64 up,.slice a3 rs.length c3,.slice a4 cs.length c4])::[]))))/\j=(dys rs).length-k/\k<=(dys rs).length/\ln=(acc (Sv.b3 (Sv.mk r al up l1 l2 rs cs)) (Sv.q4 (Sv.mk r al up l1 l2 rs cs)) k).length/\ln<=486+2*k) 400 281474976710656 281474976710656 ?_ (j:=_) (env2:=_) (A2:=_) ?_ ?_ ?_ ?_ ⟨0,b,ln,rfl,rfl,rfl,oM,hln,oM⟩
        rotate_left
        ·omega
        ·omega
        ·exact lL
        ·exact(.q (.q (.q (.q .slnil))))
        rintro n hn j _ _ ⟨k,b,ln,rfl,rfl,rfl,hk,hln,hlb⟩;refine rQ (rS (kM J (kM J (kO (cK J (dB J J (fun h30=>?_) (fun h30=>?_)))))))
        ·obtain⟨p,q,hx,ip,iq⟩:=hWD.at2 (j:=k) oM
         have hxm:=List.mem_of_getElem? hx;refine Q0 (Y0 J (Q1 (W0 (rQ (W1 (rI (kM J (kM J (aX J J oM (kM J (aX J J oM (aH J (aL J .h2 J (kO (Z4 J J (fun s1 h1=>CD _ _ _ _ _ s1 h1.wf) (fun v1 A1 q1=>?_))))))))))))))));obtain⟨b31,rfl,rfl⟩:=q1;refine kO (cO J J (fK.own .here rfl (by first|(simp;done)|(simp[aT,mI];done))) .h1 (by rw[hln];first|exact aA (Sv.h1 _ _)|exact aA (Sv.h2 _ _)|exact aA (Sv.h3 _ _)|exact aA (Sv.h4 _ _)|exact aA (Sv.h5i _ _ _)|exact aA (Sv.h6 _ _)) (.inl ⟨rfl,rfl⟩) dE oM oM (fun b32=>(kM J (Q0 (Z1 (W0 (rI (kM J (aX J J oM (kM J (Q0 (W0 ?_))))))))))));exact⟨rfl,_,_,_,(show(dys rs).length-(k+1)<(dys rs).length-k from oM),lL,(.q (.cons _ (.q (.q (.q .slnil))))),⟨k+1,b32,ln+2,rfl,(by rw[qG (show Sv.q4 (Sv.mk r al up l1 l2 rs cs) k=mI 0 ((l1.length:Int)*(l2.length:Int)+1+(k:Int)) 1000 1000 r from rfl)];first|done|rfl),rfl,oM,(by rw[tV (show Sv.q4 (Sv.mk r al up l1 l2 rs cs) k=mI 0 ((l1.length:Int)*(l2.length:Int)+1+(k:Int)) 1000 1000 r from rfl),<-hln];first|done|rfl),oM⟩⟩
        ·refine Q0 (U0 J (Y4 (Z2 (Z2 (Q3 (W0 (rQ (rS (kM J (Q0 (W1 ?_)))))))))))
         have hkl:k=(dys rs).length:=oM
         subst hkl;refine U4 (fun j e A=>∃(i b ln:Nat),e=[(1,.pointer (some ⟨b1,0,none⟩)),(3,.pointer (some ⟨b2,0,none⟩)),(4,.slice (some ⟨b,0,none⟩) ln OPEN),(12,.slice (some ⟨bd,0,none⟩) (dys rs).length OPEN),(13,.int .i64 ((l1.length:Int)*(l2.length:Int))),(15,.int .i64 (i:Int))]/\A=(.row b 107 true (aT (Sv.b5 (Sv.mk r al up l1 l2 rs cs) i))::(.row bd 86 true (aT (dys rs))::(.row b2 33 false ([.int .i64 d,.int .i64 r,.slice a1 l1.length c1,.slice a2 l2.length c2,.int .i64 al,.int .i64 up])::(.row b1 37 false ([.int .i64 d,.int .i64 r,.slice a1 l1.length c1,.slice a2 l2.length c2,.int .i64 al,.int .i64 up,.slice a3 rs.length c3,.slice a4 cs.length c4])::[]))))/\j=cs.length-i/\i<=cs.length/\ln=(Sv.b5 (Sv.mk r al up l1 l2 rs cs) i).length/\ln<=606+120*i) 700 844424930131968 281474976710656 ?_ (j:=_) (env2:=_) (A2:=_) ?_ ?_ ?_ ?_ ⟨0,b,ln,rfl,rfl,rfl,oM,hln,oM⟩
         rotate_left
         ·omega
         ·omega
         ·exact lL
         ·exact(.q (.q (.q (.q .slnil))))
         rintro n hn j _ _ ⟨i,b,ln,rfl,rfl,rfl,hi,hln,hlb⟩;refine rQ (rS (kM J (aH J (aL J .h3 J (aJ J (by first|exact hl1.spot|exact hl2.spot|exact hr.spot|exact hc.spot) (dB J J (fun h33=>?_) (fun h33=>?_)))))))
         ·obtain⟨q6,o6,z0,z1,z2,z3,z4,z5,ahc,hz,hat,j0,j1,j2,j3,j4,j5⟩:=hc.row6 (k:=i) oM
          have hat2:=hat;obtain⟨e0,e1,e2,e3,e4,e5,_⟩:=hat2;have:=j0.lo;have:=j0.hi;have:=j1.lo;have:=j1.hi;have:=j2.lo;have:=j2.hi;have:=j3.lo;have:=j3.hi;have:=j4.lo;have:=j4.hi;have:=j5.lo;have:=j5.hi;have hcd:=tS hcpb hz;refine Q0 (Y0 J (Q1 (W0 (rQ (W1 (rS (kM J (Q0 (W1 (U4 (fun j e A=>∃(k b ln:Nat),e=[(1,.pointer (some ⟨b1,0,none⟩)),(3,.pointer (some ⟨b2,0,none⟩)),(4,.slice (some ⟨b,0,none⟩) ln OPEN),(12,.slice (some ⟨bd,0,none⟩) (dys rs).length OPEN),(13,.int .i64 ((l1.length:Int)*(l2.length:Int))),(15,.int .i64 (i:Int)),(16,.int .i64 (k:Int))]/\A=(.row b 107 true (aT (acc (Sv.b5 (Sv.mk r al up l1 l2 rs cs) i) (Sv.q5 (Sv.mk r al up l1 l2 rs cs) i) k))::(.row bd 86 true (aT (dys rs))::(.row b2 33 false ([.int .i64 d,.int .i64 r,.slice a1 l1.length c1,.slice a2 l2.length c2,.int .i64 al,.int .i64 up])::(.row b1 37 false ([.int .i64 d,.int .i64 r,.slice a1 l1.length c1,.slice a2 l2.length c2,.int .i64 al,.int .i64 up,.slice a3 rs.length c3,.slice a4 cs.length c4])::[]))))/\j=(dys rs).length-k/\k<=(dys rs).length/\ln=(acc (Sv.b5 (Sv.mk r al up l1 l2 rs cs) i) (Sv.q5 (Sv.mk r al up l1 l2 rs cs) i) k).length/\ln<=606+120*i+2*k) 400 0 281474976710656 ?_ (j:=_) (env2:=_) (A2:=_) ?_ ?_ ?_ ?_ ⟨0,b,ln,rfl,rfl,rfl,oM,hln,oM⟩))))))))))
          rotate_left
          ·omega
          ·omega
          ·exact lL
          ·exact(.q (.q (.q (.q .slnil))))
          rintro n hn j _ _ ⟨k,b,ln,rfl,rfl,rfl,hk,hln,hlb⟩;refine rQ (rS (kM J (kM J (kO (cK J (dB J J (fun h34=>?_) (fun h34=>?_)))))))
          ·obtain⟨p,q,hx,ip,iq⟩:=hWD.at2 (j:=k) oM
           have hxm:=List.mem_of_getElem? hx;refine Q0 (Y0 J (Q1 (W0 (rQ (W1 (rI (kM J (aH J (aL J .h3 J (kM J (kO (cM (j:=i) ahc rfl rfl (by first|rfl|omega) (by first|decide|omega) (kO (dU J dE aM J (kM J (kM J (cN (j:=k) J J oM oM (dD J dE .h1 (wS hWD.len hx) (kM J (aX J J oM (kM J (aX J J oM (kO (Z4 J J (fun s1 h1=>Pw _ _ _ _ _ _ _ _ _ _ s1 h1.wf oM) (fun v1 A1 q1=>?_)))))))))))))))))))))))));rcases q1 with ⟨hno,rfl,rfl⟩|⟨hyes,bt,rfl,rfl⟩
           ·refine kO (RF J J .here (by rw[hln];first|exact aA (Sv.h1 _ _)|exact aA (Sv.h2 _ _)|exact aA (Sv.h3 _ _)|exact aA (Sv.h4 _ _)|exact aA (Sv.h5i _ _ _)|exact aA (Sv.h6 _ _)) oM oM (kM J (Q0 (Z1 (W0 (rI (kM J (aX J J oM (kM J (Q0 (W0 ?_)))))))))))
            exact⟨rfl,_,_,_,(show(dys rs).length-(k+1)<(dys rs).length-k from oM),lL,(.q (.q (.q (.q .slnil)))),⟨k+1,b,ln,rfl,(by rw[tU (Sv.q5_no (y:=(Sv.mk r al up l1 l2 rs cs)) hz hx hno)];first|done|rfl),rfl,oM,(by rw[tU (Sv.q5_no (y:=(Sv.mk r al up l1 l2 rs cs)) hz hx hno)];exact hln),oM⟩⟩
           ·refine kO (cO J J (fK.own .here rfl (by first|(simp;done)|(simp[aT,mI];done))) .h1 (by rw[hln];first|exact aA (Sv.h1 _ _)|exact aA (Sv.h2 _ _)|exact aA (Sv.h3 _ _)|exact aA (Sv.h4 _ _)|exact aA (Sv.h5i _ _ _)|exact aA (Sv.h6 _ _)) (.inl ⟨rfl,rfl⟩) dE oM oM (fun b35=>(kM J (Q0 (Z1 (W0 (rI (kM J (aX J J oM (kM J (Q0 (W0 ?_))))))))))))
            exact⟨rfl,_,_,_,(show(dys rs).length-(k+1)<(dys rs).length-k from oM),lL,(.q (.cons _ (.q (.q (.q .slnil))))),⟨k+1,b35,ln+2,rfl,(by rw[qG (Sv.q5_yes (y:=(Sv.mk r al up l1 l2 rs cs)) hz hx hyes)];first|done|rfl),rfl,oM,(by rw[tV (Sv.q5_yes (y:=(Sv.mk r al up l1 l2 rs cs)) hz hx hyes),<-hln];first|done|rfl),oM⟩⟩
          ·refine Q0 (U0 J (Y4 (Z2 (Z2 (Q3 (Z1 (W0 (rI (kM J (aX J J oM (kM J (Q0 (W0 ?_)))))))))))))
           have hkl:k=(dys rs).length:=oM
           subst hkl;exact⟨rfl,_,_,_,(show cs.length-(i+1)<cs.length-i from oM),lL,(.q (.q (.q (.q .slnil)))),⟨i+1,b,ln,rfl,rfl,rfl,oM,hln,oM⟩⟩
         ·refine Q0 (U0 J (Y4 (Z2 (Z2 (Q3 (W0 (rQ (rS (kM J (Q0 (W1 ?_)))))))))))
          have hic:i=cs.length:=oM
          subst hic;refine U4 (fun j e A=>∃(k b ln:Nat),e=[(1,.pointer (some ⟨b1,0,none⟩)),(3,.pointer (some ⟨b2,0,none⟩)),(4,.slice (some ⟨b,0,none⟩) ln OPEN),(12,.slice (some ⟨bd,0,none⟩) (dys rs).length OPEN),(13,.int .i64 ((l1.length:Int)*(l2.length:Int))),(17,.int .i64 (k:Int))]/\A=(.row b 107 true (aT (acc (Sv.b5 (Sv.mk r al up l1 l2 rs cs) cs.length) (Sv.q6 (Sv.mk r al up l1 l2 rs cs)) k))::(.row bd 86 true (aT (dys rs))::(.row b2 33 false ([.int .i64 d,.int .i64 r,.slice a1 l1.length c1,.slice a2 l2.length c2,.int .i64 al,.int .i64 up])::(.row b1 37 false ([.int .i64 d,.int .i64 r,.slice a1 l1.length c1,.slice a2 l2.length c2,.int .i64 al,.int .i64 up,.slice a3 rs.length c3,.slice a4 cs.length c4])::[]))))/\j=rs.length-k/\k<=rs.length/\ln=(acc (Sv.b5 (Sv.mk r al up l1 l2 rs cs) cs.length) (Sv.q6 (Sv.mk r al up l1 l2 rs cs)) k).length/\ln<=3006+2*k) 600 281474976710656 281474976710656 ?_ (j:=_) (env2:=_) (A2:=_) ?_ ?_ ?_ ?_ ⟨0,b,ln,rfl,rfl,rfl,oM,hln,oM⟩
          rotate_left
          ·omega
          ·omega
          ·exact lL
          ·exact(.q (.q (.q (.q .slnil))))
          rintro n hn j _ _ ⟨k,b,ln,rfl,rfl,rfl,hk,hln,hlb⟩;refine rQ (rS (kM J (aH J (aL J .h3 J (aJ J (by first|exact hl1.spot|exact hl2.spot|exact hr.spot|exact hc.spot) (dB J J (fun h36=>?_) (fun h36=>?_)))))))
          ·obtain⟨q7,o7,x0,x1,x2,x3,x4,x5,x6,ahr,hx,hat,i0,i1,i2,i3,i4,i5,i6⟩:=hr.row7 (k:=k) oM
           have hat2:=hat;obtain⟨d0,d1,d2,d3,d4,d5,d6,_⟩:=hat2;have:=i0.lo;have:=i0.hi;have:=i1.lo;have:=i1.hi;have:=i2.lo;have:=i2.hi;have:=i3.lo;have:=i3.hi;have:=i4.lo;have:=i4.hi;have:=i5.lo;have:=i5.hi;have:=i6.lo;have:=i6.hi;have hxm:=nZ hx;have hrd:=mF hrdb hx;refine Q0 (Y0 J (Q1 (W0 (rQ (W1 (rS (aH J (aL J .h3 J (kM J (kO (cM (j:=k) ahr rfl rfl (by first|rfl|omega) (by first|decide|omega) (kO (dU J dE aM J (aY J J (fun b37=>(kZ (Q6 J J .here rfl rfl rfl rfl (Q0 (rS (dD J dE .h3 J (aH J (aL J .here rfl (aH J (aL J .here rfl (kO (aI J J (fun s1 h1=>fL _ _ _ _ _ _ _ _ _ _ _ _ _ s1 h1.wf oM (hl1.ext hs h1.2.1) (hl2.ext hs h1.2.1) oM oM oM) (kM J (Q0 ?_))))))))))))))))))))))))))));refine rS (kM J (aX J J oM (kM J (aH J (aL J .here rfl (aH J (aL J .here rfl (eG J J (kO (aI J J (fun s1 h1=>nY _ _ _ _ _ _ s1 h1.wf oM (RowsE.ownF (h1.own .h2) hWD oM)) ?_))))))))));rw[pH hxm];have hixl:=qF hxm;refine aX J J oM (kM J (Q0 (rI (kM J (kM J (kM J (aH J (aL J .here rfl (aH J (aL J .here rfl (aX J J oM (aH J (aL J .here rfl (eG J J (kM J (kM J (aH J (aL J .here rfl (aH J (aL J .here rfl (kO (bN J J oM (aH J (aL J .here rfl ?_))))))))))))))))))))))));refine eG J J (kO (bF J J J (fun b38=>(kO (cO J J (fK.own .here rfl (by first|(simp;done)|(simp[aT,mI];done))) .h2 (by rw[hln];first|exact aA (Sv.h1 _ _)|exact aA (Sv.h2 _ _)|exact aA (Sv.h3 _ _)|exact aA (Sv.h4 _ _)|exact aA (Sv.h5i _ _ _)|exact aA (Sv.h6 _ _)) (.inl ⟨rfl,rfl⟩) dE oM oM (fun b39=>(kM J (Q0 (Z1 (W0 (rI (kM J (aX J J oM (kM J (Q0 (W0 ?_))))))))))))))));exact⟨rfl,_,_,_,(show rs.length-(k+1)<rs.length-k from oM),lL,(.q (.cons _ (.cons _ (.q (.q (.q .slnil)))))),⟨k+1,b39,ln+2,rfl,(by rw[qG (Sv.q6_at (y:=(Sv.mk r al up l1 l2 rs cs)) hx)];first|done|rfl),rfl,oM,(by rw[tV (Sv.q6_at (y:=(Sv.mk r al up l1 l2 rs cs)) hx),<-hln];first|done|rfl),oM⟩⟩
          ·refine Q0 (U0 J (Y4 (Z2 (Z2 (Q3 (W0 (rS (kM J (kM J (Q0 (V2 ?_)))))))))))
           have hkr:k=rs.length:=oM
           subst hkr;subst hln;exact gH J (.q (.cons _ (.cons _ (.cons _ .slnil)))) ⟨b,rfl,rfl⟩
  ·exfalso;omega
 ·exfalso;omega
end
variable{s:St}{rs:List (List Int)}{p r:Int}{fit:Prop}
theorem RowsE.row4{a:Option Addr}(h:RowsE s 4 a rs){k:Nat}(hk:k<rs.length):∃b o u0 u1 u2 u3,a=some ⟨b,o,none⟩/\rs[k]? = some [u0,u1,u2,u3]/\pK s b (o+k*4) [.int .i64 u0,.int .i64 u1,.int .i64 u2,.int .i64 u3]/\I64 u0/\I64 u1/\I64 u2/\I64 u3:=by
 obtain⟨b,o,r,h1,h2,h3,h4,h5⟩:=h.row hk;obtain⟨u0,r1,rfl,g1⟩:=bA h3;obtain⟨u1,r2,rfl,g2⟩:=bA g1;obtain⟨u2,r3,rfl,g3⟩:=bA g2;obtain⟨u3,r4,rfl,g4⟩:=bA g3;have:r4=[]:=List.eq_nil_of_length_eq_zero g4;subst this;exact⟨b,o,u0,u1,u2,u3,h1,h2,h4,h5 u0 sM,h5 u1 sM,h5 u2 sM,h5 u3 sM⟩
def AK(p:Int)(fit:Prop)[Decidable fit]:Int:=if p=0 then (if fit then 0 else 2) else p
theorem qU[Decidable fit](h:¬p=0):AK p fit=p:=if_neg h
theorem qH[Decidable fit](h:p=0)(h2:¬fit):AK p fit=2:=by unfold AK;rw[if_pos h,if_neg h2]
theorem fJ[Decidable fit](h:p=0)(h2:fit):AK p fit=0:=by unfold AK;rw[if_pos h,if_pos h2]
/-! The numbers of limits are numbers of the machine. -/
def F4(L:List (List Int)):Prop:=∀r∈L,∀x∈r,-9223372036854775808<=x/\x<9223372036854775808
theorem F4.nil:F4 []:=fun _ h=>(by cases h)
theorem F4.app{L M:List (List Int)}(h:F4 L)(k:F4 M):F4 (L++M):=fun r hr=>(List.mem_append.1 hr).elim (h r) (k r)
theorem F4.acc{X:List (List Int)}{f:Nat->List (List Int)}(hX:F4 X):∀t,(∀k,k<t->F4 (f k))->F4 (acc X f t)
 |0,_=>hX
 |t+1,h=>(F4.acc hX t (fun k hk=>h k oM)).app (h t oM)
theorem F4.lm{a b m1 m2 y:Int}(ha:-9223372036854775808<=a/\a<9223372036854775808)(hb:-9223372036854775808<=b/\b<9223372036854775808)(h1:-9223372036854775808<=m1/\m1<9223372036854775808)(h2:-9223372036854775808<=m2/\m2<9223372036854775808)(hy:-9223372036854775808<=y/\y<9223372036854775808):F4 (mI a b m1 m2 y):=fun r hr x hx=>by
 rcases List.mem_cons.1 hr with rfl|hr
 ·simp only[List.mem_cons,List.not_mem_nil,or_false] at hx
  rcases hx with rfl|rfl|rfl|rfl <;> assumption
 ·rw[List.mem_singleton.1 hr] at hx
  simp only[List.mem_cons,List.not_mem_nil,or_false] at hx;rcases hx with rfl|rfl|rfl|rfl <;> assumption
theorem CG{r d:Int}(hr:0<=r/\r<=100000)(hd:0<=d/\d<=100000):0<=uZ r d/\uZ r d<=20000:=by
 have h:=E5 hr hd;unfold uZ;rw[Int.tdiv_eq_ediv_of_nonneg oM];omega
theorem AL{a3 a4:Option Addr}{r al up:Int}{l1 l2:List Int}{rs cs:List (List Int)}(hsr:1<=r/\r<=99999)(hsa:0<=al/\al<=100000)(hsu:0<=up/\up<=100000)(hpl:cJ l1 l2=true)(h60:rs.length<=60)(h20:cs.length<=20)(hrdb:pF (l1.length:Int) (l2.length:Int) rs=true)(hcpb:pG cs=true)
 (hr:RowsE s 7 a3 rs) (hc:RowsE s 6 a4 cs) (hDl:(dys rs).length<=60):Wd 4 (Sv.b6 (Sv.mk r al up l1 l2 rs cs)):=by
 have hp1:=fZ hpl;have hp2:=gO hpl;have hm1:=hp1.hm;have hm2:(l2.length:Int)<=7:=DL hpl;have h22:=hp2.h2;have hN:l2.length*l1.length<=81:=iY oM oM;have hM:=gA (x:=(l1.length:Int)) (y:=(l2.length:Int)) oM oM;have hk9:∀k,k<l2.length*l1.length->k / l2.length<l1.length:=fun k hk=>Nat.div_lt_of_lt_mul hk
 have hkn:∀k,k % l2.length<l2.length:=fun k=>Nat.mod_lt _ oM
 have e1:F4 (acc [] (Sv.q1 (Sv.mk r al up l1 l2 rs cs)) (l2.length*l1.length)):=F4.nil.acc _ (fun k hk=>F4.lm oM oM oM oM (show _<=r/\r<_ from oM));have hsp:∀k,k<l2.length*l1.length->∃i w,w<l2.length/\i<l1.length/\k=l2.length*i+w:=fun k hk=>⟨k / l2.length,k % l2.length,hkn k,hk9 k hk,(Nat.div_add_mod k l2.length).symm⟩
 have e2:F4 (acc (Sv.b1 (Sv.mk r al up l1 l2 rs cs)) (Sv.q2 (Sv.mk r al up l1 l2 rs cs)) (l2.length*l1.length)):=F4.acc e1 _ (fun k hk=>by
  obtain⟨i,w,hw,hi,rfl⟩:=hsp k hk;by_cases hq:(i:Int)+1<(l1.length:Int)
  ·rw[Sv.q2_yes (y:=(Sv.mk r al up l1 l2 rs cs)) hw hq]
   have z0:=hp1.lo i;have z1:=hp1.lo (i+1);have z2:=hp1.rise i oM;have hb:=CG (r:=al) (d:=l1.getD (i+1) 0-l1.getD i 0) hsa oM;have hs:=gA (x:=(i:Int)+1) (y:=(l2.length:Int)) oM oM;exact F4.lm (by show _<=((l2.length*i+w:Nat):Int)+1/\((l2.length*i+w:Nat):Int)+1<_;omega) (by show _<=1+((i:Int)+1)*(l2.length:Int)+(w:Int)/\1+((i:Int)+1)*(l2.length:Int)+(w:Int)<_;omega) (by show _<=uZ al (l1.getD (i+1) 0-l1.getD i 0)/\uZ al (l1.getD (i+1) 0-l1.getD i 0)<_;omega) (by show _<=uZ al (l1.getD (i+1) 0-l1.getD i 0)/\uZ al (l1.getD (i+1) 0-l1.getD i 0)<_;omega) (by show _<=r/\r<_;omega)
  ·rw[Sv.q2_no (y:=(Sv.mk r al up l1 l2 rs cs)) hw hq];exact F4.nil)
 have e3:F4 (acc (Sv.b2 (Sv.mk r al up l1 l2 rs cs)) (Sv.q3 (Sv.mk r al up l1 l2 rs cs)) (l2.length*l1.length)):=F4.acc e2 _ (fun k hk=>by
  obtain⟨i,w,hw,hi,rfl⟩:=hsp k hk;by_cases hq:(w:Int)+1<(l2.length:Int)
  ·rw[Sv.q3_yes (y:=(Sv.mk r al up l1 l2 rs cs)) hw hq]
   have z0:=hp2.lo w;have z1:=hp2.lo (w+1);have z2:=hp2.rise w oM;have hb:=CG (r:=up) (d:=l2.getD (w+1) 0-l2.getD w 0) hsu oM;have hs:=gA (x:=(i:Int)) (y:=(l2.length:Int)) oM oM;exact F4.lm (by show _<=((l2.length*i+w:Nat):Int)+1/\((l2.length*i+w:Nat):Int)+1<_;omega) (by show _<=1+(i:Int)*(l2.length:Int)+((w:Int)+1)/\1+(i:Int)*(l2.length:Int)+((w:Int)+1)<_;omega) (by show _<=uZ up (l2.getD (w+1) 0-l2.getD w 0)/\uZ up (l2.getD (w+1) 0-l2.getD w 0)<_;omega) (by show _<=uZ up (l2.getD (w+1) 0-l2.getD w 0)/\uZ up (l2.getD (w+1) 0-l2.getD w 0)<_;omega) (by show _<=r/\r<_;omega)
  ·rw[Sv.q3_no (y:=(Sv.mk r al up l1 l2 rs cs)) hw hq];exact F4.nil)
 have e4:F4 (acc (Sv.b3 (Sv.mk r al up l1 l2 rs cs)) (Sv.q4 (Sv.mk r al up l1 l2 rs cs)) (dys rs).length):=F4.acc e3 _ (fun k hk=>F4.lm oM (show _<=(l1.length:Int)*(l2.length:Int)+1+(k:Int)/\(l1.length:Int)*(l2.length:Int)+1+(k:Int)<_ from oM) oM oM (show _<=r/\r<_ from oM));have e5:∀i,i<=cs.length->F4 (Sv.b5 (Sv.mk r al up l1 l2 rs cs) i):=by
  intro i
  induction i with
  |zero=>intro _;exact e4
  |succ i ih=>
   intro hi;refine F4.acc (ih oM) (dys rs).length (fun k hk=>?_);obtain⟨_,_,z0,z1,z2,z3,z4,z5,_,hz,_,j0,j1,j2,j3,j4,j5⟩:=hc.row6 (k:=i) oM;have hcd:=tS hcpb hz;have hz':cs.getD i []=[z0,z1,z2,z3,z4,z5]:=Sv.getD_of hz;unfold Sv.q5;split
   ·show F4 (mI 0 ((l1.length:Int)*(l2.length:Int)+1+(k:Int)) (-(cs.getD i []).getD 4 0) ((cs.getD i []).getD 5 0) ((cs.getD i []).getD 0 0))
    rw[hz'];exact F4.lm oM oM (show _<=-z4/\-z4<_ from oM) (show _<=z5/\z5<_ from oM) (show _<=z0/\z0<_ from oM)
   ·exact F4.nil
 refine⟨fun x hx=>Sv.h6 _ _ x hx,F4.acc (e5 _ (Nat.le_refl _)) rs.length (fun k hk=>?_)⟩;obtain⟨_,_,x0,x1,x2,x3,x4,x5,x6,_,hx,_,i0,i1,i2,i3,i4,i5,i6⟩:=hr.row7 (k:=k) oM;have hrd:=mF hrdb hx;have hix:=qF (nZ hx);have hs:=gA (x:=x1) (y:=(l2.length:Int)) oM oM;rw[Sv.q6_at (y:=(Sv.mk r al up l1 l2 rs cs)) hx];exact F4.lm (show _<=(l1.length:Int)*(l2.length:Int)+1+(vU [x5,x6] (dys rs):Int)/\(l1.length:Int)*(l2.length:Int)+1+(vU [x5,x6] (dys rs):Int)<_ from oM) (show _<=1+x1*(l2.length:Int)+x2/\1+x1*(l2.length:Int)+x2<_ from oM) oM oM oM
theorem rY{a:Option Addr}(hr:RowsE s 7 a rs):(dys rs).length<=rs.length:=by
 have key:∀k,k<=rs.length->(dys (rs.take k)).length<=k:=by
  intro k
  induction k with
  |zero=>intro _;exact Nat.le_refl _
  |succ k ih=>
   intro hk;obtain⟨_,_,x0,x1,x2,x3,x4,x5,x6,_,hx,_⟩:=hr.row7 (k:=k) oM;rw[AI hx];have:=ih oM;split
   ·omega
   ·rw[List.length_append];simp;omega
 have:=key rs.length (Nat.le_refl _)
 rwa [List.take_of_length_le (Nat.le_refl _)] at this
theorem Qp{r al up:Int}{l1 l2:List Int}{rs cs:List (List Int)}(h60:rs.length<=60)(h20:cs.length<=20)(hN:l2.length*l1.length<=81)(hD:(dys rs).length<=60):(Sv.b6 (Sv.mk r al up l1 l2 rs cs)).length<=4000:=by
 have key:∀(X:List (List Int)) (f:Nat->List (List Int)) (t:Nat),(∀k,(f k).length<=2)->(acc X f t).length<=X.length+2*t:=by
  intro X f t h
  induction t with
  |zero=>exact Nat.le_refl _
  |succ t ih=>show(acc X f t++f t).length<=_;rw[List.length_append];have:=h t;omega
 have g1:=key [] (Sv.q1 (Sv.mk r al up l1 l2 rs cs)) (l2.length*l1.length) (fun k=>Nat.le_refl _);have g2:=key (Sv.b1 (Sv.mk r al up l1 l2 rs cs)) (Sv.q2 (Sv.mk r al up l1 l2 rs cs)) (l2.length*l1.length) (fun k=>by unfold Sv.q2;split;exact Nat.le_refl _;exact Nat.zero_le _);have g3:=key (Sv.b2 (Sv.mk r al up l1 l2 rs cs)) (Sv.q3 (Sv.mk r al up l1 l2 rs cs)) (l2.length*l1.length) (fun k=>by unfold Sv.q3;split;exact Nat.le_refl _;exact Nat.zero_le _);have g4:=key (Sv.b3 (Sv.mk r al up l1 l2 rs cs)) (Sv.q4 (Sv.mk r al up l1 l2 rs cs)) (dys rs).length (fun k=>Nat.le_refl _);have g5:∀i,(Sv.b5 (Sv.mk r al up l1 l2 rs cs) i).length<=(Sv.b5 (Sv.mk r al up l1 l2 rs cs) 0).length+120*i:=by
  intro i
  induction i with
  |zero=>exact Nat.le_refl _
  |succ i ih=>
   have:=key (Sv.b5 (Sv.mk r al up l1 l2 rs cs) i) (Sv.q5 (Sv.mk r al up l1 l2 rs cs) i) (dys rs).length (fun k=>by unfold Sv.q5;split;exact Nat.le_refl _;exact Nat.zero_le _);have e:Sv.b5 (Sv.mk r al up l1 l2 rs cs) (i+1)=acc (Sv.b5 (Sv.mk r al up l1 l2 rs cs) i) (Sv.q5 (Sv.mk r al up l1 l2 rs cs) i) (dys rs).length:=rfl;rw[e];omega
 have g6:=key (Sv.b5 (Sv.mk r al up l1 l2 rs cs) cs.length) (Sv.q6 (Sv.mk r al up l1 l2 rs cs)) rs.length (fun k=>Nat.le_refl _);have g7:=g5 cs.length;have c1:Sv.b1 (Sv.mk r al up l1 l2 rs cs)=acc [] (Sv.q1 (Sv.mk r al up l1 l2 rs cs)) (l2.length*l1.length):=rfl;have c2:Sv.b2 (Sv.mk r al up l1 l2 rs cs)=acc (Sv.b1 (Sv.mk r al up l1 l2 rs cs)) (Sv.q2 (Sv.mk r al up l1 l2 rs cs)) (l2.length*l1.length):=rfl;have c3:Sv.b3 (Sv.mk r al up l1 l2 rs cs)=acc (Sv.b2 (Sv.mk r al up l1 l2 rs cs)) (Sv.q3 (Sv.mk r al up l1 l2 rs cs)) (l2.length*l1.length):=rfl;have c4:Sv.b5 (Sv.mk r al up l1 l2 rs cs) 0=acc (Sv.b3 (Sv.mk r al up l1 l2 rs cs)) (Sv.q4 (Sv.mk r al up l1 l2 rs cs)) (dys rs).length:=rfl;have c6:(Sv.b6 (Sv.mk r al up l1 l2 rs cs))=acc (Sv.b5 (Sv.mk r al up l1 l2 rs cs) cs.length) (Sv.q6 (Sv.mk r al up l1 l2 rs cs)) rs.length:=rfl;rw[c1] at g2;rw[c2,c1] at g3;rw[c3,c2,c1] at g4;rw[c4,c3,c2,c1] at g7;rw[c6];simp only[List.length_nil] at g1;omega
section
variable{X:FuncId->List Value->St->(Value->St->Bool)->Bool}
theorem Lw(n:Nat)(d r al up:Int)(a1 a2:Option Addr)(c1 c2:Nat)(l1 l2:List Int)(a3 a4:Option Addr)(c3 c4:Nat)(rs cs:List (List Int))(s:St)(hs:Wf s)(hn:3940649673949184<=n)(hl1:aN s a1 l1)(hl2:aN s a2 l2)(hr:RowsE s 7 a3 rs)(hc:RowsE s 6 a4 cs):bX Tryz.prog (bZ cB) X (n+3400) 22 [.agg ⟨[.int .i64 d,.int .i64 r,.slice a1 l1.length c1,.slice a2 l2.length c2,.int .i64 al,.int .i64 up,.slice a3 rs.length c3,.slice a4 cs.length c4]⟩] s (fun v A=>v = .int .i64 (AK (nK ((1<=d/\d<=99999)/\(1<=r/\r<=99999)/\(0<=al/\al<=100000)/\(0<=up/\up<=100000)/\cJ l1 l2=true) l1 l2 rs cs) (tY (l1.length:Int) (l2.length:Int) rs (Sv.b6 (Sv.mk r al up l1 l2 rs cs))))/\A=[]):=by
 refine enter OJ rfl hs ?_;unfold Nb;have hlen1:=hl1.len;have hlen2:=hl2.len;have hlen3:=hr.len;have hlen4:=hc.len;refine rS (aZ J J J (fun b1=>(kM J (Q0 (rQ (rS (aH J (dD J dE .here rfl (kO (iQ J J (fun s1 h1=>Bj _ _ _ _ _ _ _ _ _ _ _ s1 h1.wf oM (hl1.ext hs h1.2.1) (hl2.ext hs h1.2.1)) (fun h2=>?_) (fun h2=>?_)))))))))))
 ·have hsp:=h2
  refine kO (V3 J J (fun h=>absurd h dE) (fun _=>(Q0 (U0 J (Q1 (W0 (rQ (rS (aH J (aL J .here rfl (aJ J (by first|exact hr.spot|exact hc.spot) (kO (dR J J (fun h4=>?_) (fun h4=>?_))))))))))))))
  ·refine kM J (V0 (V0 (V0 (V0 (cA J J J (Q0 (Y0 J (rS (kM J (Q0 (V2 (W3 (aO J ⟨congrArg (Value.int .i64) ?_,rfl⟩)))))))))))))
   first
    |(rw[qU (by unfold nK;rw[if_pos hsp,if_pos oM];decide)];unfold nK;rw[if_pos hsp,if_pos oM];done)
    |(refine(qH hpt ?_).symm;intro hf;have hf1:=hf.1;have hf2:=hf.2;first|omega|(have hd0:(dys rs).length=0:=(by rw[hrs];rfl);omega))
  ·refine kM J (kG (Q2 J (kG (Y1 J .here rfl (kG (oH J (by first|exact hr.spot|exact hc.spot) (kG (dR J J (fun h5=>?_) (fun h5=>?_)))))))))
   ·refine bK J J J (Q0 (Y0 J (rS (kM J (Q0 (V2 (W3 (aO J ⟨congrArg (Value.int .i64) ?_,rfl⟩))))))))
    first
     |(rw[qU (by unfold nK;rw[if_pos hsp,if_pos oM];decide)];unfold nK;rw[if_pos hsp,if_pos oM];done)
     |(refine(qH hpt ?_).symm;intro hf;have hf1:=hf.1;have hf2:=hf.2;first|omega|(have hd0:(dys rs).length=0:=(by rw[hrs];rfl);omega))
   ·refine bK J J J (Q0 (U0 J (Q1 (W0 (rQ (rS (kM J (Q0 (W1 (U4 (fun j e A=>∃(k:Nat),e=[(1,.pointer (some ⟨b1,0,none⟩)),(3,.int .i64 (k:Int))]/\A=(.row b1 37 false ([.int .i64 d,.int .i64 r,.slice a1 l1.length c1,.slice a2 l2.length c2,.int .i64 al,.int .i64 up,.slice a3 rs.length c3,.slice a4 cs.length c4])::[])/\j=rs.length-k/\k<=rs.length/\pF (l1.length:Int) (l2.length:Int) rs=pF (l1.length:Int) (l2.length:Int) (rs.drop k)) 400 844424930131968 281474976710656 ?_ (j:=_) (env2:=_) (A2:=_) ?_ ?_ ?_ ?_ ⟨0,rfl,rfl,rfl,Nat.zero_le _,rfl⟩))))))))))
    rotate_left
    ·omega
    ·omega
    ·exact lL
    ·exact(.q .slnil)
    rintro n hn j _ _ ⟨k,rfl,rfl,rfl,hk,hi⟩;refine rQ (rS (kM J (aH J (aL J .here rfl (aJ J (by first|exact hr.spot|exact hc.spot) (dB J J (fun h6=>?_) (fun h6=>?_)))))))
    ·obtain⟨q7,o7,x0,x1,x2,x3,x4,x5,x6,ahr,hx,hat,i0,i1,i2,i3,i4,i5,i6⟩:=hr.row7 (k:=k) oM
     have hat2:=hat;obtain⟨d0,d1,d2,d3,d4,d5,d6,_⟩:=hat2;have:=i0.lo;have:=i0.hi;have:=i1.lo;have:=i1.hi;have:=i2.lo;have:=i2.hi;have:=i3.lo;have:=i3.hi;have:=i4.lo;have:=i4.hi;have:=i5.lo;have:=i5.hi;have:=i6.lo;have:=i6.hi;refine Q0 (Y0 J (Q1 (W0 (rQ (W1 (rS (aH J (dD J dE .here rfl (aH J (aL J .here rfl (kM J (kO (cM (j:=k) ahr rfl rfl (by first|rfl|omega) (by first|decide|omega) (kO (dU J dE aM J (kO (bB J J (fun s1 h1=>rX _ _ _ _ _ _ _ _ _ _ _ _ _ _ _ _ _ _ s1 h1.wf oM (hl1.ext hs h1.2.1) (hl2.ext hs h1.2.1)) (fun h7=>?_) (fun h7=>?_))))))))))))))))))
     ·refine eP J (Q0 (U0 J (Q1 (Z1 (W0 (rI (kM J (aX J J oM (kM J (Q0 (W0 ?_)))))))))))
      exact⟨rfl,_,_,_,(show rs.length-(k+1)<rs.length-k from oM),lL,(.q .slnil),⟨k+1,rfl,rfl,rfl,oM,DH hx hi aM⟩⟩
     ·refine eP J (Q0 (Y0 J (rS (kM J (Q0 (V2 (Y6 (W3 (W3 (Y6 (W3 (aO J ⟨congrArg (Value.int .i64) ?_,rfl⟩))))))))))))
      have hpe:nK ((1<=d/\d<=99999)/\(1<=r/\r<=99999)/\(0<=al/\al<=100000)/\(0<=up/\up<=100000)/\cJ l1 l2=true) l1 l2 rs cs=31:=by unfold nK;rw[if_pos hsp,if_neg oM,iS hx hi aM];rfl
      rw[qU (by rw[hpe];decide),hpe]
    ·have hrd2:=G3 hi oM
     clear hi hk hn;refine Q0 (U0 J (Y4 (Z2 (Z2 (Q3 (W0 (rQ (rS (kM J (Q0 (W1 (U4 (fun j e A=>∃(k:Nat),e=[(1,.pointer (some ⟨b1,0,none⟩)),(4,.int .i64 (k:Int))]/\A=(.row b1 37 false ([.int .i64 d,.int .i64 r,.slice a1 l1.length c1,.slice a2 l2.length c2,.int .i64 al,.int .i64 up,.slice a3 rs.length c3,.slice a4 cs.length c4])::[])/\j=cs.length-k/\k<=cs.length/\pG cs=pG (cs.drop k)) 300 844424930131968 281474976710656 ?_ (j:=_) (env2:=_) (A2:=_) ?_ ?_ ?_ ?_ ⟨0,rfl,rfl,rfl,Nat.zero_le _,rfl⟩))))))))))))
     rotate_left
     ·omega
     ·omega
     ·exact lL
     ·exact(.q .slnil)
     rintro n hn j _ _ ⟨k,rfl,rfl,rfl,hk,hj⟩;refine rQ (rS (kM J (aH J (aL J .here rfl (aJ J (by first|exact hr.spot|exact hc.spot) (dB J J (fun h8=>?_) (fun h8=>?_)))))))
     ·obtain⟨q6,o6,z0,z1,z2,z3,z4,z5,ahc,hz,hat,j0,j1,j2,j3,j4,j5⟩:=hc.row6 (k:=k) oM
      have hat2:=hat;obtain⟨e0,e1,e2,e3,e4,e5,_⟩:=hat2;have:=j0.lo;have:=j0.hi;have:=j1.lo;have:=j1.hi;have:=j2.lo;have:=j2.hi;have:=j3.lo;have:=j3.hi;have:=j4.lo;have:=j4.hi;have:=j5.lo;have:=j5.hi;refine Q0 (Y0 J (Q1 (W0 (rQ (W1 (rS (aH J (aL J .here rfl (kM J (kO (cM (j:=k) ahc rfl rfl (by first|rfl|omega) (by first|decide|omega) (kO (dU J dE aM J (kO (bB J J (fun s1 h1=>AH _ _ _ _ _ _ _ s1 h1.wf) (fun h9=>?_) (fun h9=>?_))))))))))))))))
      ·refine eP J (Q0 (U0 J (Q1 (Z1 (W0 (rI (kM J (aX J J oM (kM J (Q0 (W0 ?_)))))))))))
       exact⟨rfl,_,_,_,(show cs.length-(k+1)<cs.length-k from oM),lL,(.q .slnil),⟨k+1,rfl,rfl,rfl,oM,DJ hz hj aM⟩⟩
      ·refine eP J (Q0 (Y0 J (rS (kM J (Q0 (V2 (Y6 (W3 (W3 (Y6 (W3 (aO J ⟨congrArg (Value.int .i64) ?_,rfl⟩))))))))))))
       have hpe:nK ((1<=d/\d<=99999)/\(1<=r/\r<=99999)/\(0<=al/\al<=100000)/\(0<=up/\up<=100000)/\cJ l1 l2=true) l1 l2 rs cs=32:=by unfold nK;rw[if_pos hsp,if_neg oM,hrd2,iU hz hj aM];rfl
       rw[qU (by rw[hpe];decide),hpe]
     ·have hcb:=qE hj oM
      have hpt:=tZ hsp oM hrd2 hcb;obtain⟨⟨hsd,hsr,hsa,hsu,hpl⟩,h60,h20,hrdb,hcpb⟩:=oN hpt;have hp1:=fZ hpl;have hm1:=hp1.hm;have hm2:(l2.length:Int)<=7:=DL hpl;have hmm:=gA (x:=(l1.length:Int)) (y:=(l2.length:Int)) oM oM;have hdl:=rY hr;clear hj hk hn;refine Q0 (U0 J (Y4 (Z2 (Z2 (Q3 (W0 (rQ (rS (aH J (dD J dE .here rfl (aH J (aL J .here rfl (kO (aI J J (fun s1 h1=>gP _ _ _ _ _ _ _ _ _ _ _ s1 h1.wf oM (hl1.ext hs h1.2.1) (hl2.ext hs h1.2.1) oM) (kZ (aK J J .here rfl (by simp[eqV,eqA,eqL,kindEq,aB,V5 hl1.spot,V5 hl2.spot,V5 hr.spot,V5 hc.spot]) (kO (Z4 J J (fun s1 h1=>yZ _ _ _ _ s1 h1.wf oM (hr.ext hs h1.2.1) oM) (fun v1 A1 q1=>?_)))))))))))))))))));rcases q1 with ⟨hrs,rfl,rfl⟩|⟨hne,bd,rfl,rfl,hWD,hDl⟩
      ·refine kO (rO J (aX J J oM (kO (dR J J (fun h10=>?_) (fun h10=>?_)))))
       ·refine kM J (V0 (V0 (V0 (V0 (cA J J J (Q0 (Y0 J (rS (kM J (Q0 (V2 (W3 (aO J ⟨congrArg (Value.int .i64) ?_,rfl⟩)))))))))))))
        first
         |(rw[qU (by unfold nK;rw[if_pos hsp,if_pos oM];decide)];unfold nK;rw[if_pos hsp,if_pos oM];done)
         |(refine(qH hpt ?_).symm;intro hf;have hf1:=hf.1;have hf2:=hf.2;first|omega|(have hd0:(dys rs).length=0:=(by rw[hrs];rfl);omega))
       ·refine kM J (kG (V4 J dE .here rfl (kG (Z4 J J (fun s1 h1=>vB _ _ _ _ _ _ _ _ _ _ _ _ _ _ _ _ _ s1 h1.wf oM (hl1.ext hs h1.2.1) (hl2.ext hs h1.2.1) (hr.ext hs h1.2.1) (hc.ext hs h1.2.1) hpt) (fun v1 A1 q1=>?_)))))
        obtain⟨bm11,rfl,rfl⟩:=q1;refine kG (cK J (kG (dR J J (fun h12=>?_) (fun h12=>?_))))
        ·refine bK J J J (Q0 (Y0 J (rS (kM J (Q0 (V2 (W3 (aO J ⟨congrArg (Value.int .i64) ?_,rfl⟩))))))))
         first
          |(rw[qU (by unfold nK;rw[if_pos hsp,if_pos oM];decide)];unfold nK;rw[if_pos hsp,if_pos oM];done)
          |(refine(qH hpt ?_).symm;intro hf;have hf1:=hf.1;have hf2:=hf.2;first|omega|(have hd0:(dys rs).length=0:=(by rw[hrs];rfl);omega))
        ·refine bK J J J (Q0 (U0 J (Q1 (W0 (rS (kM J (Q0 (V2 (aO J ⟨congrArg (Value.int .i64) ?_,rfl⟩)))))))))
         have hf1:tY (l1.length:Int) (l2.length:Int) rs (Sv.b6 (Sv.mk r al up l1 l2 rs cs)):=⟨by first|omega|(have hd0:(dys rs).length=0:=(by rw[hrs];rfl);omega),oM⟩;exact(fJ hpt hf1).symm
      ·refine kO (cK J (aX J J oM (kO (dR J J (fun h13=>?_) (fun h13=>?_)))))
       ·refine kM J (V0 (V0 (V0 (V0 (cA J J J (Q0 (Y0 J (rS (kM J (Q0 (V2 (W3 (aO J ⟨congrArg (Value.int .i64) ?_,rfl⟩)))))))))))))
        first
         |(rw[qU (by unfold nK;rw[if_pos hsp,if_pos oM];decide)];unfold nK;rw[if_pos hsp,if_pos oM];done)
         |(refine(qH hpt ?_).symm;intro hf;have hf1:=hf.1;have hf2:=hf.2;first|omega|(have hd0:(dys rs).length=0:=(by rw[hrs];rfl);omega))
       ·refine kM J (kG (V4 J dE .h1 J (kG (Z4 J J (fun s1 h1=>vB _ _ _ _ _ _ _ _ _ _ _ _ _ _ _ _ _ s1 h1.wf oM (hl1.ext hs h1.2.1) (hl2.ext hs h1.2.1) (hr.ext hs h1.2.1) (hc.ext hs h1.2.1) hpt) (fun v1 A1 q1=>?_)))))
        obtain⟨bm14,rfl,rfl⟩:=q1;refine kG (cK J (kG (dR J J (fun h15=>?_) (fun h15=>?_))))
        ·refine bK J J J (Q0 (Y0 J (rS (kM J (Q0 (V2 (W3 (aO J ⟨congrArg (Value.int .i64) ?_,rfl⟩))))))))
         first
          |(rw[qU (by unfold nK;rw[if_pos hsp,if_pos oM];decide)];unfold nK;rw[if_pos hsp,if_pos oM];done)
          |(refine(qH hpt ?_).symm;intro hf;have hf1:=hf.1;have hf2:=hf.2;first|omega|(have hd0:(dys rs).length=0:=(by rw[hrs];rfl);omega))
        ·refine bK J J J (Q0 (U0 J (Q1 (W0 (rS (kM J (Q0 (V2 (aO J ⟨congrArg (Value.int .i64) ?_,rfl⟩)))))))))
         have hf1:tY (l1.length:Int) (l2.length:Int) rs (Sv.b6 (Sv.mk r al up l1 l2 rs cs)):=⟨by first|omega|(have hd0:(dys rs).length=0:=(by rw[hrs];rfl);omega),oM⟩;exact(fJ hpt hf1).symm
 ·refine kO (V3 J J (fun _=>(Q0 (Y0 J (rS (kM J (Q0 (V2 (W3 (aO J ⟨congrArg (Value.int .i64) ?_,rfl⟩))))))))) (fun h=>absurd h dE))
  have hpe:nK ((1<=d/\d<=99999)/\(1<=r/\r<=99999)/\(0<=al/\al<=100000)/\(0<=up/\up<=100000)/\cJ l1 l2=true) l1 l2 rs cs=30:=by unfold nK;rw[if_neg aM]
  rw[qU (by rw[hpe];decide),hpe]
theorem wT(n:Nat)(d r al up:Int)(a1 a2:Option Addr)(c1 c2:Nat)(l1 l2:List Int)(a3 a4:Option Addr)(c3 c4:Nat)(rs cs:List (List Int))(s:St)(hs:Wf s)(hn:3659174697238528<=n)(hl1:aN s a1 l1)(hl2:aN s a2 l2)(hr:RowsE s 7 a3 rs)(hc:RowsE s 6 a4 cs)(hpt:nK ((1<=d/\d<=99999)/\(1<=r/\r<=99999)/\(0<=al/\al<=100000)/\(0<=up/\up<=100000)/\cJ l1 l2=true) l1 l2 rs cs=0):bX Tryz.prog (bZ cB) X (n+3300) 40 [.agg ⟨[.int .i64 d,.int .i64 r,.slice a1 l1.length c1,.slice a2 l2.length c2,.int .i64 al,.int .i64 up,.slice a3 rs.length c3,.slice a4 cs.length c4]⟩] s (fun v A=>∃b,v = .agg ⟨[.int .i64 ((l1.length:Int)*(l2.length:Int)+((dys rs).length:Int)),.slice (some ⟨b,0,none⟩) (Sv.b6 (Sv.mk r al up l1 l2 rs cs)).length OPEN]⟩/\A=[.row b 107 true (aT (Sv.b6 (Sv.mk r al up l1 l2 rs cs)))]):=by
 refine enter OS rfl hs ?_;unfold Nr;have hlen1:=hl1.len;have hlen2:=hl2.len;have hlen3:=hr.len;have hlen4:=hc.len;obtain⟨⟨hsd,hsr,hsa,hsu,hpl⟩,h60,h20,hrdb,hcpb⟩:=oN hpt;have hp1:=fZ hpl;have hp2:=gO hpl;have hm1:=hp1.hm;have hm2:(l2.length:Int)<=7:=DL hpl;have h21:=hp1.h2;have h22:=hp2.h2;have hmm:=gA (x:=(l1.length:Int)) (y:=(l2.length:Int)) oM oM;have hmn:=iY (x:=l2.length) (y:=l1.length) oM oM;refine rS (aZ J J J (fun b1=>(aY J J (fun b2=>(Q0 (rS (aH J (dD J dE .h1 J (aH J (aL J .h1 J (dD J dE .h1 J (kO (aI J J (fun s1 h1=>gP _ _ _ _ _ _ _ _ _ _ _ s1 h1.wf oM (hl1.ext hs h1.2.1) (hl2.ext hs h1.2.1) oM) (kZ (eJ J J dE .h1 J (by simp[eqL,eqV,eqA,kindEq,aB,V5 hl1.spot,V5 hl2.spot,V5 hr.spot,V5 hc.spot]) (kZ (aK J J .h1 J (by simp[eqV,eqA,eqL,kindEq,aB,V5 hl1.spot,V5 hl2.spot,V5 hr.spot,V5 hc.spot]) (kO (Z4 J J (fun s1 h1=>yZ _ _ _ _ s1 h1.wf oM (hr.ext hs h1.2.1) oM) (fun v1 A1 q1=>?_))))))))))))))))))));rcases q1 with ⟨hrs,rfl,rfl⟩|⟨hne,bd,rfl,rfl,hWD,hDl⟩
 ·refine kZ (eJ J J dE .h1 J (by simp[eqL,eqV,eqA,kindEq,aB,V5 hl1.spot,V5 hl2.spot,V5 hr.spot,V5 hc.spot]) (kO (rO J (aX J J oM (kO (Z4 J J (fun s1 h1=>vB _ _ _ _ _ _ _ _ _ _ _ _ _ _ _ _ _ s1 h1.wf oM (hl1.ext hs h1.2.1) (hl2.ext hs h1.2.1) (hr.ext hs h1.2.1) (hc.ext hs h1.2.1) hpt) (fun v1 A1 q1=>?_)))))))
  obtain⟨bm3,rfl,rfl⟩:=q1;refine eG J J (kZ (Q6 J J .h1 J J J J (Q0 (V2 (⟨rfl,[_],_,⟨_,_,_,[],rfl,rfl,dE,⟨_,_,_,.h1,rfl⟩,rfl⟩,(.q (.cons _ (.cons _ .slnil))),bm3,by rw[show(dys rs).length=0 from by rw[hrs];rfl];rfl,rfl⟩)))))
 ·refine kZ (eJ J J dE .h2 J (by simp[eqL,eqV,eqA,kindEq,aB,V5 hl1.spot,V5 hl2.spot,V5 hr.spot,V5 hc.spot]) (kO (cK J (aX J J oM (kO (Z4 J J (fun s1 h1=>vB _ _ _ _ _ _ _ _ _ _ _ _ _ _ _ _ _ s1 h1.wf oM (hl1.ext hs h1.2.1) (hl2.ext hs h1.2.1) (hr.ext hs h1.2.1) (hc.ext hs h1.2.1) hpt) (fun v1 A1 q1=>?_)))))))
  obtain⟨bm4,rfl,rfl⟩:=q1;refine eG J J (kZ (Q6 J J .h2 J J J J (Q0 (V2 (⟨rfl,[_],_,⟨_,_,_,[],rfl,rfl,dE,⟨_,_,_,.h2,rfl⟩,rfl⟩,(.q (.cons _ (.cons _ (.cons _ .slnil)))),bm4,rfl,rfl⟩)))))
end
variable{rs:List (List Int)}{k m n i:Nat}{y1 y2 y3:Int}{T:Nat->Nat->Int}{B:Nat->Nat}
theorem RowsE.row4r{s:St}{a:Option Addr}(h:RowsE s 4 a rs)(hk:k<rs.length):∃b o y0 y1 y2 y3,a=some ⟨b,o,none⟩/\rs[k]? = some [y0,y1,y2,y3]/\pK s b (o+k*4) [.int .i64 y0,.int .i64 y1,.int .i64 y2,.int .i64 y3]/\I64 y0/\I64 y1/\I64 y2/\I64 y3:=by
 obtain⟨b,o,r,h1,h2,h3,h4,h5⟩:=h.row hk;obtain⟨y0,r1,rfl,g1⟩:=bA h3;obtain⟨y1,r2,rfl,g2⟩:=bA g1;obtain⟨y2,r3,rfl,g3⟩:=bA g2;obtain⟨y3,r4,rfl,g4⟩:=bA g3;have:r4=[]:=List.eq_nil_of_length_eq_zero g4;subst this;exact⟨b,o,y0,y1,y2,y3,h1,h2,h4,h5 y0 sM,h5 y1 sM,h5 y2 sM,h5 y3 sM⟩
def mU(m:Int):List (List Int)->Bool
 |[]=>true
 |[y0,y1,y2,y3]::rs=>decide ((0<=m/\m<=64)/\(0<=y0/\y0<=m)/\(0<=y1/\y1<=m)/\¬y0=y1/\(-20000<=y2/\y2<=20000)/\(1<=y3/\y3<=99999)) && mU m rs
 |_::_=>false
theorem DO(m:Int){y0 y1 y2 y3:Int}(h:rs[k]? = some [y0,y1,y2,y3])(hi:mU m rs=mU m (rs.drop k)):mU m rs=(decide ((0<=m/\m<=64)/\(0<=y0/\y0<=m)/\(0<=y1/\y1<=m)/\¬y0=y1/\(-20000<=y2/\y2<=20000)/\(1<=y3/\y3<=99999)) && mU m (rs.drop (k+1))):=by
 obtain⟨hk,he⟩:=List.getElem?_eq_some_iff.1 h;rw[hi,List.drop_eq_getElem_cons hk,he];rfl
theorem oA{m:Int}{y0 y1 y2 y3:Int}(h:rs[k]? = some [y0,y1,y2,y3])(hi:mU m rs=mU m (rs.drop k))(hn:¬((0<=m/\m<=64)/\(0<=y0/\y0<=m)/\(0<=y1/\y1<=m)/\¬y0=y1/\(-20000<=y2/\y2<=20000)/\(1<=y3/\y3<=99999))):mU m rs=false:=by
 rw[DO m h hi,decide_eq_false hn];rfl
theorem DP{m:Int}{y0 y1 y2 y3:Int}(h:rs[k]? = some [y0,y1,y2,y3])(hi:mU m rs=mU m (rs.drop k))(hn:(0<=m/\m<=64)/\(0<=y0/\y0<=m)/\(0<=y1/\y1<=m)/\¬y0=y1/\(-20000<=y2/\y2<=20000)/\(1<=y3/\y3<=99999)):mU m rs=mU m (rs.drop (k+1)):=by
 rw[DO m h hi,decide_eq_true hn];rfl
theorem oB{m:Int}(hi:mU m rs=mU m (rs.drop k))(hk:rs.length<=k):mU m rs=true:=by
 rw[hi,List.drop_eq_nil_of_le hk];rfl
theorem E8{m:Int}{y0 y1 y2 y3:Int}:∀{rs:List (List Int)} {k:Nat},mU m rs=true->rs[k]? = some [y0,y1,y2,y3]->(0<=m/\m<=64)/\(0<=y0/\y0<=m)/\(0<=y1/\y1<=m)/\¬y0=y1/\(-20000<=y2/\y2<=20000)/\(1<=y3/\y3<=99999)
 |[],_,_,h=>by simp at h
 |r::rs,0,h1,h=>by
  simp only[List.getElem?_cons_zero,Option.some.injEq] at h;subst h;have h2:(decide ((0<=m/\m<=64)/\(0<=y0/\y0<=m)/\(0<=y1/\y1<=m)/\¬y0=y1/\(-20000<=y2/\y2<=20000)/\(1<=y3/\y3<=99999)) && mU m rs)=true:=h1;rw[Bool.and_eq_true] at h2;exact of_decide_eq_true h2.1
 |r::rs,k+1,h1,h=>by
  refine E8 (rs:=rs) (k:=k) ?_ (by simpa using h);unfold mU at h1;split at h1
  ·rename_i h2;cases h2
  ·rename_i h2;cases h2;rw[Bool.and_eq_true] at h1;exact h1.2
  ·cases h1
def mM(T:Nat->Nat->Int)(n i:Nat):List Int:=(List.range n).map (T i)
theorem fQ:(mM T n i).length=n:=by simp[mM]
theorem iG(h:k<n):(mM T n i).getD k 0=T i k:=by
 unfold mM;rw[List.getD_eq_getElem?_getD,List.getElem?_map,List.getElem?_range h];rfl
def nQ(T:Nat->Nat->Int)(i k:Nat)(v:Int):Nat->Nat->Int:=fun a b=>if a=i/\b=k then v else T a b
theorem AM{v:Int}:(mM T n i).set k v=mM (nQ T i k v) n i:=by
 unfold mM;refine List.ext_getElem? (fun j=>?_);rw[List.getElem?_set,List.getElem?_map,List.getElem?_map];by_cases hj:k=j
 ·subst hj
  rw[if_pos rfl];by_cases hk:k<n
  ·rw[if_pos (by simpa using hk),List.getElem?_range hk];simp[nQ]
  ·rw[if_neg (by simpa using hk),List.getElem?_eq_none (by simp;omega)];rfl
 ·rw[if_neg hj]
  by_cases hk:j<n
  ·rw[List.getElem?_range hk];simp[nQ];intro h;omega
  ·rw[List.getElem?_eq_none (by simp;omega)];rfl
theorem DQ{n i j k:Nat}{v:Int}(h:j≠i):mM (nQ T i k v) n j=mM T n j:=by
 unfold mM;refine List.map_congr_left (fun b _=>?_);unfold nQ;rw[if_neg (fun q=>h q.1)]
def seg(B:Nat->Nat)(n:Nat)(T:Nat->Nat->Int):Nat->List Ob
 |0=>[]
 |i+1=> .row (B i) 3 false (ints (mM T n i))::seg B n T i
theorem wU{B B':Nat->Nat}{n:Nat}{T T':Nat->Nat->Int}:∀{i:Nat},(∀j,j<i->B j=B' j)->(∀j,j<i->mM T n j=mM T' n j)->seg B n T i=seg B' n T' i
 |0,_,_=>rfl
 |i+1,h,k=>by
  show _::_=_::_;rw[h i oM,k i oM,wU (fun j hj=>h j oM) (fun j hj=>k j oM)]
theorem jX{B:Nat->Nat}{n:Nat}{T:Nat->Nat->Int}{R:List Ob}:∀{i j:Nat},j<i->lK (seg B n T i++R) (B j) 3 false (ints (mM T n j))
 |i+1,j,h=>by
  by_cases hj:j=i
  ·subst hj;exact .here
  ·exact .next (jX oM)
theorem CH{B:Nat->Nat}{n:Nat}{T:Nat->Nat->Int}{R:List Ob}{k:Nat}{v:Int}:∀{i j:Nat},j<i->pL (seg B n T i++R) (B j) 3 false (ints (mM T n j)) (ints ((mM T n j).set k v)) (seg B n (nQ T j k v) i++R)
 |i+1,j,h=>by
  rw[AM];by_cases hj:j=i
  ·subst hj
   have e:seg B n (nQ T j k v) j=seg B n T j:=wU (fun _ _=>rfl) (fun a ha=>DQ oM);show pL (_::(_++R)) _ _ _ _ _ (_::(seg B n (nQ T j k v) j++R));rw[e];exact .here
  ·have:=CH (B:=B) (n:=n) (T:=T) (R:=R) (k:=k) (v:=v) (i:=i) (j:=j) oM
   rw[AM] at this;show pL (_::(_++R)) _ _ _ _ _ (.row (B i) 3 false (ints (mM (nQ T j k v) n i))::(_++R));rw[DQ (fun q=>hj q.symm)];exact .next this
def oO(B:Nat->Nat)(n i m:Nat):List Value:=(List.range m).map fun j=>if j<i then .slice (some ⟨B j,0,none⟩) n n else .slice none 0 0
theorem Px:(oO B n i m).length=m:=by simp[oO]
theorem hJ{n i m j:Nat}(hj:j<i)(hm:j<m):(oO B n i m)[0+j*1]? = some (.slice (some ⟨B j,0,none⟩) n n):=by
 unfold oO;rw[Nat.zero_add,Nat.mul_one,List.getElem?_map,List.getElem?_range hm];simp[hj]
theorem Lx:List.replicate m (.slice none 0 0)=oO B n 0 m:=by
 unfold oO;refine List.ext_getElem? (fun j=>?_);rw[List.getElem?_replicate,List.getElem?_map];by_cases h:j<m
 ·rw[if_pos h,List.getElem?_range h];rfl
 ·rw[if_neg h,List.getElem?_eq_none (by simp;omega)];rfl
def yG(B:Nat->Nat)(i b:Nat):Nat->Nat:=fun j=>if j=i then b else B j
theorem Py{n m i b:Nat}:(oO B n i m).set (0+i*1) (.slice (some ⟨b,0,none⟩) n n)=oO (yG B i b) n (i+1) m:=by
 unfold oO;refine List.ext_getElem? (fun j=>?_);rw[Nat.zero_add,Nat.mul_one,List.getElem?_set,List.getElem?_map,List.getElem?_map];by_cases hj:i=j
 ·subst hj
  rw[if_pos rfl];by_cases hk:i<m
  ·rw[if_pos (by simpa using hk),List.getElem?_range hk];simp[yG]
  ·rw[if_neg (by simpa using hk),List.getElem?_eq_none (by simp;omega)];rfl
 ·rw[if_neg hj]
  by_cases hk:j<m
  ·rw[List.getElem?_range hk]
   simp only[Option.map_some];by_cases h1:j<i
   ·rw[if_pos h1,if_pos oM];simp[yG,show j≠i by omega]
   ·rw[if_neg h1,if_neg oM]
  ·rw[List.getElem?_eq_none (by simp;omega)];rfl
theorem Pz{n i b:Nat}:.row b 3 false (ints (mM T n i))::seg B n T i=seg (yG B i b) n T (i+1):=by
 show _=_::_;rw[show yG B i b i=b by simp[yG],wU (B:=B) (B':=yG B i b) (fun j hj=>by simp[yG,show j≠i by omega]) (fun _ _=>rfl)]
def fR(m:Int)(ls:List (List Int)):Int:=if 0<=m/\m<=64 then (if 400<(ls.length:Int) then 2 else if mU m ls=true then 0 else 20) else 21
section
variable{X:FuncId->List Value->St->(Value->St->Bool)->Bool}
theorem iV(n:Nat)(x lo hi:Int)(s:St)(hs:Wf s):bX Tryz.prog (bZ cB) X (n+20) 111 [.int .i64 x,.int .i64 lo,.int .i64 hi] s (fun v A=>v = .bool (decide (lo<=x/\x<=hi))/\A=[]):=by
 refine enter Ks rfl hs ?_;unfold F0;refine rS (kM J (Q0 (rS (kM J (kM J (kO (eV J J (fun h1=>?_) (fun h1=>?_))))))))
 ·refine kM J (kG (U2 J (kG (U2 J (kG (eV J J (fun h2=>?_) (fun h2=>?_)))))))
  ·refine cA J J J (kM J (Q0 (V2 (aO J ⟨congrArg Value.bool ?_,rfl⟩))))
   first|exact(decide_eq_true oM).symm|exact(decide_eq_false oM).symm
  ·refine cA J J J (kM J (Q0 (V2 (aO J ⟨congrArg Value.bool ?_,rfl⟩))))
   first|exact(decide_eq_true oM).symm|exact(decide_eq_false oM).symm
 ·refine kM J (V0 (V0 (V0 (bK J J J (kM J (Q0 (V2 (aO J ⟨congrArg Value.bool ?_,rfl⟩))))))))
  first|exact(decide_eq_true oM).symm|exact(decide_eq_false oM).symm
theorem Bl(n:Nat)(m y0 y1 y2 y3:Int)(s:St)(hs:Wf s):bX Tryz.prog (bZ cB) X (n+100) 188 [.int .i64 m,.agg ⟨[.int .i64 y0,.int .i64 y1,.int .i64 y2,.int .i64 y3]⟩] s (fun v A=>v = .int .i64 (if (0<=m/\m<=64)/\(0<=y0/\y0<=m)/\(0<=y1/\y1<=m)/\¬y0=y1/\(-20000<=y2/\y2<=20000)/\(1<=y3/\y3<=99999) then 0 else 20)/\A=[]):=by
 refine enter K2 rfl hs ?_;unfold GA;refine rS (aZ J J J (fun b1=>(kM J (Q0 (rQ (rS (kM J (kO (bB J J (fun s1 h1=>iV _ _ _ _ s1 h1.wf) (fun h2=>?_) (fun h2=>?_))))))))))
 ·refine eP J (kM J (kG (Q2 J (kG (Y1 J .here rfl (kG (U2 J (kG (bB J J (fun s1 h1=>iV _ _ _ _ s1 h1.wf) (fun h3=>?_) (fun h3=>?_))))))))))
  ·refine kG (U6 J (bK J J J (kM J (kG (Q2 J (kG (Y1 J .here rfl (kG (U2 J (kG (bB J J (fun s1 h1=>iV _ _ _ _ s1 h1.wf) (fun h4=>?_) (fun h4=>?_))))))))))))
   ·refine kG (U6 J (bK J J J (kM J (kG (Q2 J (kG (Y1 J .here rfl (kG (Q2 J (kG (Y1 J .here rfl (kG (bV J J (fun h5=>?_) (fun h5=>?_))))))))))))))
    ·refine bK J J J (kM J (V0 (V0 (V0 (V0 (cA J J J (kM J (V0 (V0 (V0 (V0 (cA J J J (Q0 (Y0 J (rS (kM J (Q0 (V2 (W3 (aO J ⟨congrArg (Value.int .i64) ?_,rfl⟩))))))))))))))))))))
     first|exact(if_pos oM).symm|exact(if_neg oM).symm
    ·refine bK J J J (kM J (kG (Q2 J (kG (Y1 J .here rfl (kG (bB J J (fun s1 h1=>iV _ _ _ _ s1 h1.wf) (fun h6=>?_) (fun h6=>?_))))))))
     ·refine kG (U6 J (bK J J J (kM J (kG (Q2 J (kG (Y1 J .here rfl (kG (bB J J (fun s1 h1=>iV _ _ _ _ s1 h1.wf) (fun h7=>?_) (fun h7=>?_))))))))))
      ·refine kG (U6 J (bK J J J (Q0 (U0 J (Q1 (W0 (rS (kM J (Q0 (V2 (aO J ⟨congrArg (Value.int .i64) ?_,rfl⟩)))))))))))
       first|exact(if_pos oM).symm|exact(if_neg oM).symm
      ·refine kG (U6 J (bK J J J (Q0 (Y0 J (rS (kM J (Q0 (V2 (W3 (aO J ⟨congrArg (Value.int .i64) ?_,rfl⟩))))))))))
       first|exact(if_pos oM).symm|exact(if_neg oM).symm
     ·refine kG (U6 J (bK J J J (kM J (V0 (V0 (V0 (V0 (cA J J J (Q0 (Y0 J (rS (kM J (Q0 (V2 (W3 (aO J ⟨congrArg (Value.int .i64) ?_,rfl⟩))))))))))))))))
      first|exact(if_pos oM).symm|exact(if_neg oM).symm
   ·refine kG (U6 J (bK J J J (kM J (V0 (V0 (V0 (V0 (V0 (cA J J J (kM J (V0 (V0 (V0 (V0 (cA J J J (kM J (V0 (V0 (V0 (V0 (cA J J J (Q0 (Y0 J (rS ?_))))))))))))))))))))))))
    refine kM J (Q0 (V2 (W3 (aO J ⟨congrArg (Value.int .i64) ?_,rfl⟩))))
    first|exact(if_pos oM).symm|exact(if_neg oM).symm
  ·refine kG (U6 J (bK J J J (kM J (V0 (V0 (V0 (V0 (V0 (cA J J J (kM J (V0 (V0 (V0 (V0 (V0 (cA J J J (kM J (V0 (V0 (V0 (V0 (cA J J J (kM J (V0 ?_))))))))))))))))))))))))
   refine V0 (V0 (V0 (cA J J J (Q0 (Y0 J (rS (kM J (Q0 (V2 (W3 (aO J ⟨congrArg (Value.int .i64) ?_,rfl⟩)))))))))))
   first|exact(if_pos oM).symm|exact(if_neg oM).symm
 ·refine eP J (kM J (V0 (V0 (V0 (V0 (V0 (cA J J J (kM J (V0 (V0 (V0 (V0 (V0 (cA J J J (kM J (V0 (V0 (V0 (V0 (V0 (cA J J J (kM J (V0 ?_)))))))))))))))))))))))
  refine V0 (V0 (V0 (cA J J J (kM J (V0 (V0 (V0 (V0 (cA J J J (Q0 (Y0 J (rS (kM J (Q0 (V2 (W3 (aO J ⟨congrArg (Value.int .i64) ?_,rfl⟩)))))))))))))))))
  first|exact(if_pos oM).symm|exact(if_neg oM).symm
theorem BV(n:Nat)(m:Int)(al:Option Addr)(cl:Nat)(ls:List (List Int))(s:St)(hs:Wf s)(hn:281474976710656<=n)(hL:RowsE s 4 al ls):bX Tryz.prog (bZ cB) X (n+400) 154 [.agg ⟨[.int .i64 m,.slice al ls.length cl]⟩] s (fun v A=>v = .int .i64 (fR m ls)/\A=[]):=by
 refine enter KN rfl hs ?_;unfold Gl;have hlen:=hL.len;refine rS (aZ J J J (fun b1=>(kM J (Q0 (rQ (rS (aH J (aL J .here rfl (kO (bB J J (fun s1 h1=>iV _ _ _ _ s1 h1.wf) (fun h2=>?_) (fun h2=>?_)))))))))))
 ·refine eP J (Q0 (U0 J (Q1 (W0 (rQ (rS (aH J (aL J .here rfl (aJ J hL.spot (kO (dR J J (fun h3=>?_) (fun h3=>?_))))))))))))
  ·refine Q0 (Y0 J (rS (kM J (Q0 (V2 (W3 (aO J ⟨congrArg (Value.int .i64) ?_,rfl⟩)))))))
   unfold fR
   first
    |(rw[if_neg oM];done)
    |(rw[if_pos oM,if_pos oM];done)
    |(rw[if_pos oM,if_neg oM,oA hx hi oM];rfl)
    |(rw[if_pos oM,if_neg oM,oB hi oM];rfl)
  ·refine Q0 (U0 J (Q1 (W0 (rQ (rS (aH J (aL J .here rfl (aJ J hL.spot (kM J (Q0 (W1 (U4 (fun j e A=>∃(k:Nat),e=[(1,.pointer (some ⟨b1,0,none⟩)),(14,.slice al ls.length cl),(15,.int .i64 (ls.length:Int)),(16,.int .i64 (k:Int))]/\A=(.row b1 45 false ([.int .i64 m,.slice al ls.length cl])::[])/\j=ls.length-k/\k<=ls.length/\mU m ls=mU m (ls.drop k)) 200 0 281474976710656 ?_ (j:=_) (env2:=_) (A2:=_) ?_ ?_ ?_ ?_ ⟨0,rfl,rfl,rfl,Nat.zero_le _,rfl⟩))))))))))))
   rotate_left
   ·omega
   ·omega
   ·exact lL
   ·exact(.q .slnil)
   rintro n hn j _ _ ⟨k,rfl,rfl,rfl,hk,hi⟩;refine rS (dB J J (fun h4=>?_) (fun h4=>?_))
   ·obtain⟨q4,o4,y0,y1,y2,y3,ahL,hx,hat,i0,i1,i2,i3⟩:=hL.row4r (k:=k) oM
    have hat2:=hat;obtain⟨d0,d1,d2,d3,_⟩:=hat2;have:=i0.lo;have:=i0.hi;have:=i1.lo;have:=i1.hi;have:=i2.lo;have:=i2.hi;have:=i3.lo;have:=i3.hi;refine Q0 (rQ (Y0 J (Q1 (W0 (rQ (W1 (rS (kO (cM (j:=k) ahL rfl rfl (by first|rfl|omega) (by first|decide|omega) (kO (dU J dE aM J (aY J J (fun b5=>(kZ (Q6 J J .here rfl rfl rfl rfl (Q0 (rS (aH J (aL J .h1 J (dD J dE .here rfl (kO (iQ J J (fun s1 h1=>Bl _ _ _ _ _ _ s1 h1.wf) (fun h6=>?_) (fun h6=>?_)))))))))))))))))))))))
    ·refine kO (V3 J J (fun h=>absurd h dE) (fun _=>(Q0 (U0 J (Q1 (Z1 (W0 (rI (aX J J oM (kM J (Q0 (W0 ?_))))))))))))
     exact⟨rfl,_,_,_,(show ls.length-(k+1)<ls.length-k from oM),lL,(.cons _ (.q .slnil)),⟨k+1,rfl,rfl,rfl,oM,DP hx hi aM⟩⟩
    ·refine kO (V3 J J (fun _=>(Q0 (Y0 J (rS (kM J (Q0 (V2 (Y6 (W3 (W3 (Y6 (W3 (aO J ⟨congrArg (Value.int .i64) ?_,rfl⟩))))))))))))) (fun h=>absurd h dE))
     unfold fR
     first
      |(rw[if_neg oM];done)
      |(rw[if_pos oM,if_pos oM];done)
      |(rw[if_pos oM,if_neg oM,oA hx hi oM];rfl)
      |(rw[if_pos oM,if_neg oM,oB hi oM];rfl)
   ·refine Q0 (rQ (U0 J (Y4 (Z2 (Z2 (Q3 (W0 (rS (kM J (Q0 (V2 (aO J ⟨congrArg (Value.int .i64) ?_,rfl⟩))))))))))))
    unfold fR
    first
     |(rw[if_neg oM];done)
     |(rw[if_pos oM,if_pos oM];done)
     |(rw[if_pos oM,if_neg oM,oA hx hi oM];rfl)
     |(rw[if_pos oM,if_neg oM,oB hi oM];rfl)
 ·refine eP J (Q0 (Y0 J (rS (kM J (Q0 (V2 (W3 (aO J ⟨congrArg (Value.int .i64) ?_,rfl⟩))))))))
  unfold fR
  first
   |(rw[if_neg oM];done)
   |(rw[if_pos oM,if_pos oM];done)
   |(rw[if_pos oM,if_neg oM,oA hx hi oM];rfl)
   |(rw[if_pos oM,if_neg oM,oB hi oM];rfl)
end
variable{n m i k:Nat}{ls:List (List Int)}
theorem G9{B:Nat->Nat}{n m i b:Nat}(h:i<m):(oO (yG B i b) n (i+1) m)[0+i*1]? = some (.slice (some ⟨b,0,none⟩) n n):=by
 rw[hJ oM h];simp[yG]
def dg(n i k:Nat):List Int:=mM (fun _ j=>if j<k/\¬j=i then 1000000000 else 0) n i
theorem RK:(dg n i k).length=n:=fQ
theorem AN{T T':Nat->Nat->Int}{n i i':Nat}(h:∀j,j<n->T i j=T' i' j):mM T n i=mM T' n i':=by
 unfold mM;exact List.map_congr_left (fun j hj=>h j (List.mem_range.1 hj))
theorem PA:List.replicate n 0=dg n i 0:=by
 refine List.ext_getElem? (fun j=>?_);unfold dg mM;rw[List.getElem?_replicate,List.getElem?_map];by_cases h:j<n
 ·rw[if_pos h,List.getElem?_range h];rfl
 ·rw[if_neg h,List.getElem?_eq_none (by simp;omega)];rfl
theorem Ha(h:k=i):dg n i (k+1)=dg n i k:=by
 subst h;refine AN (fun j hj=>?_);by_cases h1:j<k
 ·rw[if_pos ⟨oM,oM⟩,if_pos ⟨h1,oM⟩]
 ·rw[if_neg oM,if_neg oM]
theorem Ly(h:¬k=i):(dg n i k).set k 1000000000=dg n i (k+1):=by
 unfold dg;rw[AM];refine AN (fun j hj=>?_);unfold nQ;by_cases h1:j=k
 ·subst h1
  rw[if_pos ⟨rfl,rfl⟩,if_pos ⟨oM,h⟩]
 ·rw[if_neg oM]
  show(if j<k/\¬j=i then (1000000000:Int) else 0)=_;by_cases h2:j<k/\¬j=i
  ·rw[if_pos h2,if_pos ⟨oM,h2.2⟩]
  ·rw[if_neg h2,if_neg oM]
def T0:Nat->Nat->Int:=fun i k=>if i=k then 0 else 1000000000
theorem RL(h:k=n):dg n i k=mM T0 n i:=by
 subst h;refine AN (fun j hj=>?_);unfold T0;by_cases h1:j=i
 ·subst h1
  rw[if_neg oM,if_pos rfl]
 ·rw[if_pos ⟨hj,h1⟩,if_neg oM]
def qZ(ls:List (List Int)):Nat->Nat->Nat->Int
 |0=>T0
 |k+1=>nQ (qZ ls k) ((ls.getD k []).getD 0 0).toNat ((ls.getD k []).getD 1 0).toNat (min (qZ ls k ((ls.getD k []).getD 0 0).toNat ((ls.getD k []).getD 1 0).toNat) ((ls.getD k []).getD 2 0))
theorem mV{k u0 u1:Nat}{y2 y3:Int}(h:ls[k]? = some [(u0:Int),(u1:Int),y2,y3]):qZ ls (k+1)=nQ (qZ ls k) u0 u1 (min (qZ ls k u0 u1) y2):=by
 have e:ls.getD k []=[(u0:Int),(u1:Int),y2,y3]:=by rw[List.getD_eq_getElem?_getD,h];rfl
 show nQ _ _ _ _=_;rw[e];rfl
def Qq(T:Nat->Nat->Int)(m i k:Nat):Nat->Nat->Int:=
 if ¬T i m=1000000000/\¬T m k=1000000000 then nQ T i k (max (min (T i k) (T i m+T m k)) (-2560000)) else T
def kT(T:Nat->Nat->Int)(m i:Nat):Nat->Nat->Nat->Int
 |0=>T
 |k+1=>Qq (kT T m i k) m i k
def iT(T:Nat->Nat->Int)(N m:Nat):Nat->Nat->Nat->Int
 |0=>T
 |i+1=>kT (iT T N m i) m i N
def mT(T:Nat->Nat->Int)(N:Nat):Nat->Nat->Nat->Int
 |0=>T
 |m+1=>iT (mT T N m) N m N
def wm(ls:List (List Int))(N m:Nat):Nat->Nat->Int:=mT (qZ ls ls.length) N m
def wi(ls:List (List Int))(N m i:Nat):Nat->Nat->Int:=iT (wm ls N m) N m i
def wk(ls:List (List Int))(N m i k:Nat):Nat->Nat->Int:=kT (wi ls N m i) m i k
def WB(ls:List (List Int))(N:Nat):Prop:=∀m i k,m<N->i<N->k<N->∀a b,a<N->b<N->-1000000000000000000<=wk ls N m i k a b/\wk ls N m i k a b<=1000000000000000000
theorem Lz{N m i k:Nat}(h1:¬wk ls N m i k i m=1000000000)(h2:¬wk ls N m i k m k=1000000000):nQ (wk ls N m i k) i k (max (min (wk ls N m i k i k) (wk ls N m i k i m+wk ls N m i k m k)) (-2560000))=wk ls N m i (k+1):=(if_pos ⟨h1,h2⟩).symm
theorem LA{N m i k:Nat}(h:¬(¬wk ls N m i k i m=1000000000/\¬wk ls N m i k m k=1000000000)):wk ls N m i k=wk ls N m i (k+1):=(if_neg h).symm
section
variable{X:FuncId->List Value->St->(Value->St->Bool)->Bool}
theorem PC(n:Nat)(M:Nat)(al:Option Addr)(cl:Nat)(ls:List (List Int))(s:St)(hs:Wf s)(hn:1688849860263936<=n)(hL:RowsE s 4 al ls)(hM:M<=64)(hlm:mU (M:Int) ls=true)(hWB:WB ls (M+1)):bX Tryz.prog (bZ cB) X (n+1500) 156 [.agg ⟨[.int .i64 (M:Int),.slice al ls.length cl]⟩] s (fun v A=>∃b B,v = .slice (some ⟨b,0,none⟩) (M+1) (M+1)/\A=seg B (M+1) (wm ls (M+1) (M+1)) (M+1)++[.row b 22 false (oO B (M+1) (M+1) (M+1))]):=by
 refine enter KP rfl hs ?_;unfold Gn;have hlen:=hL.len;refine rS (aZ J J J (fun b1=>(kM J (Q0 (rS (aH J (aL J .here rfl (aX J J oM (kM J (Q0 (rS (kM J (kO (EX (m:=M+1) (c:=M+1) J J oM oM oM (fun b2=>(kM J (Q0 (rQ (rS (kM J (kO (cK J (kM J (Q0 (W1 ?_)))))))))))))))))))))))));rw[Lx (B:=fun _=>0) (n:=M+1)];refine U4 (fun j e A=>∃(i:Nat) (B:Nat->Nat),e=[(1,.pointer (some ⟨b1,0,none⟩)),(3,.int .i64 ((M:Int)+1)),(4,.slice (some ⟨b2,0,none⟩) (M+1) (M+1)),(18,.int .i64 ((M+1:Nat):Int)),(19,.int .i64 (i:Int))]/\A=(seg B (M+1) T0 i++(.row b2 22 false (oO B (M+1) i (M+1))::(.row b1 45 false ([.int .i64 (M:Int),.slice al ls.length cl])::[])))/\j=M+1-i/\i<=M+1) 400 281474976710656 281474976710656 ?_ (j:=_) (env2:=_) (A2:=_) ?_ ?_ ?_ ?_ ⟨0,fun _=>0,rfl,rfl,rfl,Nat.zero_le _⟩
 rotate_left
 ·omega
 ·omega
 ·exact lL
 ·exact(.q (.q .slnil))
 rintro n hn j _ _ ⟨i,B,rfl,rfl,rfl,hi⟩;refine rS (dB J J (fun h3=>?_) (fun h3=>?_))
 ·refine Q0 (rQ (Y0 J (Q1 (W0 (rQ (W1 (rS (kM J (kM J (Q0 (rS (kM J (kM J (kM J (kO (oI (m:=M+1) (c:=M+1) J J oM oM oM (fun b4=>(cN (j:=i) J J oM oM (kZ (cY J J (by rw[Py];exact(.next (.app .here))) (by rw[Nat.blt_eq,Px];omega) J (Q0 (rS (kM J (kM J (cN (j:=i) J J oM oM (aL J (.next (.app .here)) (G9 oM) ?_))))))))))))))))))))))))))
  refine kO (cK J (kM J (Q0 (W1 ?_))));rw[PA (i:=i)];refine U4 (fun j e A=>∃(k:Nat),e=[(1,.pointer (some ⟨b1,0,none⟩)),(3,.int .i64 ((M:Int)+1)),(4,.slice (some ⟨b2,0,none⟩) (M+1) (M+1)),(5,.int .i64 (i:Int)),(18,.int .i64 ((M+1:Nat):Int)),(19,.int .i64 (i:Int)),(31,.int .i64 ((M+1:Nat):Int)),(32,.int .i64 (k:Int))]/\A=(.row b4 3 false (ints (dg (M+1) i k))::(seg B (M+1) T0 i++(.row b2 22 false (oO (yG B i b4) (M+1) (i+1) (M+1))::(.row b1 45 false ([.int .i64 (M:Int),.slice al ls.length cl])::[]))))/\j=M+1-k/\k<=M+1) 200 0 281474976710656 ?_ (j:=_) (env2:=_) (A2:=_) ?_ ?_ ?_ ?_ ⟨0,rfl,rfl,rfl,Nat.zero_le _⟩
  rotate_left
  ·omega
  ·omega
  ·exact lL
  ·exact(.q (.r (.q (.q .slnil))))
  rintro n hn j _ _ ⟨k,rfl,rfl,rfl,hk⟩;have hdl:=RK (n:=M+1) (i:=i) (k:=k);refine rS (dB J J (fun h5=>?_) (fun h5=>?_))
  ·refine Q0 (rQ (Y0 J (Q1 (W0 (rQ (W1 (rS (kM J (kM J (Q0 (rS (kM J (kM J (kO (V3 J J (fun h6=>?_) (fun h6=>?_))))))))))))))))
   ·refine Q0 (Y0 J (rI (kM J (kM J (cN (j:=i) J J oM oM (aL J (.next (.app .here)) (G9 oM) (kM J (cN (j:=k) J J oM oM (kZ (W7 J J .here (by first|omega|(simp;done)|(simp[cI];omega)|(simp;omega)) (Q0 (Z1 (W0 (rI (aX J J oM (kM J (Q0 (W0 ?_))))))))))))))))))
    exact⟨rfl,_,_,_,(show M+1-(k+1)<M+1-k from oM),lL,(.q (.r (.q (.q .slnil)))),⟨k+1,rfl,(by first|(rw[Ly oM];done)|(rw[Ha oM];done)),rfl,oM⟩⟩
   ·refine Q0 (U0 J (Q1 (Z1 (W0 (rI (aX J J oM (kM J (Q0 (W0 ?_)))))))))
    exact⟨rfl,_,_,_,(show M+1-(k+1)<M+1-k from oM),lL,(.q (.r (.q (.q .slnil)))),⟨k+1,rfl,(by first|(rw[Ly oM];done)|(rw[Ha oM];done)),rfl,oM⟩⟩
  ·refine Q0 (rQ (U0 J (Y4 (Z2 (Z2 (Q3 (Z1 (W0 (rI (aX J J oM (kM J (Q0 (W0 ?_)))))))))))))
   exact⟨rfl,_,_,_,(show M+1-(i+1)<M+1-i from oM),lL,(.q (.r (.q (.q .slnil)))),⟨i+1,yG B i b4,rfl,(by rw[RL oM,<-Pz];rfl),rfl,oM⟩⟩
 ·have hiN:i=M+1:=oM
  subst hiN;refine Q0 (rQ (U0 J (Y4 (Z2 (Z2 (Q3 (W0 (rQ (rS (aH J (aL J (.app .h1) J (aJ J hL.spot (kM J (Q0 (W1 ?_)))))))))))))));refine U4 (fun j e A=>∃(k:Nat),e=[(4,.slice (some ⟨b2,0,none⟩) (M+1) (M+1)),(47,.slice al ls.length cl),(48,.int .i64 (ls.length:Int)),(49,.int .i64 (k:Int))]/\A=(seg B (M+1) (qZ ls k) (M+1)++(.row b2 22 false (oO B (M+1) (M+1) (M+1))::(.row b1 45 false ([.int .i64 (M:Int),.slice al ls.length cl])::[])))/\j=ls.length-k/\k<=ls.length) 200 0 281474976710656 ?_ (j:=_) (env2:=_) (A2:=_) ?_ ?_ ?_ ?_ ⟨0,rfl,rfl,rfl,Nat.zero_le _⟩
  rotate_left
  ·omega
  ·omega
  ·exact lL
  ·exact(.r (.q (.q .slnil)))
  rintro n hn j _ _ ⟨k,rfl,rfl,rfl,hk⟩;refine rS (dB J J (fun h7=>?_) (fun h7=>?_))
  ·obtain⟨q4,o4,y0,y1,y2,y3,ahL,hx,hat,i0,i1,i2,i3⟩:=hL.row4r (k:=k) oM
   have hat2:=hat;obtain⟨d0,d1,d2,d3,_⟩:=hat2;have:=i0.lo;have:=i0.hi;have:=i1.lo;have:=i1.hi;have:=i2.lo;have:=i2.hi;have:=i3.lo;have:=i3.hi;have hc4:=E8 hlm hx;obtain⟨u0,rfl⟩:∃q:Nat,y0=(q:Int):=⟨y0.toNat,oM⟩;obtain⟨u1,rfl⟩:∃q:Nat,y1=(q:Int):=⟨y1.toNat,oM⟩;refine Q0 (rQ (Y0 J (Q1 (W0 (rQ (W1 (rS (kO (cM (j:=k) ahL rfl rfl (by first|rfl|omega) (by first|decide|omega) (kO (dU J dE aM J (aY J J (fun b8=>(kZ (Q6 J J .here rfl rfl rfl rfl (Q0 (rI (kM J (aH J (aL J .here rfl (cN (j:=u0) J J oM oM (aL J (.next (.app .here)) (hJ oM oM) (aH J (aL J .here rfl (kM J (aH J (aL J .here rfl ?_)))))))))))))))))))))))))));refine cN (j:=u0) J J oM oM (aL J (.next (.app .here)) (hJ oM oM) (aH J (aL J .here rfl (cN (j:=u1) J J oM oM (kO (Q5 (x:=(qZ ls k) (u0) (u1)) J (.next (jX oM)) (by rw[fQ];omega) (iG oM) (aH J (aL J .here rfl (kO (qS J (cN (j:=u1) J J oM oM (kZ (W7 J J (.next (CH oM)) (by rw[fQ];omega) (Q0 (Z1 (W0 (rI (aX J J oM (kM J (Q0 (W0 ?_)))))))))))))))))))));exact⟨rfl,_,_,_,(show ls.length-(k+1)<ls.length-k from oM),lL,(.cons _ (.r (.q (.q .slnil)))),⟨k+1,rfl,(by first|(rw[mV hx];done)|(rw[mV hx];rfl)),rfl,oM⟩⟩
  ·have hkN:k=ls.length:=oM
   subst hkN;refine Q0 (rQ (U0 J (Y4 (Z2 (Z2 (Q3 (W0 (rQ (rS (kM J (kO (cK J (kM J (Q0 (W1 ?_)))))))))))))));refine U4 (fun j e A=>∃(u:Nat),e=[(4,.slice (some ⟨b2,0,none⟩) (M+1) (M+1)),(75,.int .i64 ((M+1:Nat):Int)),(76,.int .i64 (u:Int))]/\A=(seg B (M+1) (wm ls (M+1) u) (M+1)++(.row b2 22 false (oO B (M+1) (M+1) (M+1))::[]))/\j=M+1-u/\u<=M+1) 600 562949953421312 281474976710656 ?_ (j:=_) (env2:=_) (A2:=_) ?_ ?_ ?_ ?_ ⟨0,rfl,rfl,rfl,Nat.zero_le _⟩
   rotate_left
   ·omega
   ·omega
   ·exact lL
   ·exact(.r (.q (.cons _ .slnil)))
   rintro n hn j _ _ ⟨u,rfl,rfl,rfl,hu⟩;refine rS (dB J J (fun h9=>?_) (fun h9=>?_))
   ·refine Q0 (rQ (Y0 J (Q1 (W0 (rQ (W1 (rS (kM J (kM J (Q0 (rS (kM J (kO (cK J (kM J (Q0 (W1 ?_)))))))))))))))))
    refine U4 (fun j e A=>∃(i:Nat),e=[(4,.slice (some ⟨b2,0,none⟩) (M+1) (M+1)),(9,.int .i64 (u:Int)),(75,.int .i64 ((M+1:Nat):Int)),(76,.int .i64 (u:Int)),(80,.int .i64 ((M+1:Nat):Int)),(81,.int .i64 (i:Int))]/\A=(seg B (M+1) (wi ls (M+1) u i) (M+1)++(.row b2 22 false (oO B (M+1) (M+1) (M+1))::[]))/\j=M+1-i/\i<=M+1) 400 281474976710656 281474976710656 ?_ (j:=_) (env2:=_) (A2:=_) ?_ ?_ ?_ ?_ ⟨0,rfl,rfl,rfl,Nat.zero_le _⟩
    rotate_left
    ·omega
    ·omega
    ·exact lL
    ·exact(.r (.q .slnil))
    rintro n hn j _ _ ⟨i,rfl,rfl,rfl,hi2⟩;refine rS (dB J J (fun h10=>?_) (fun h10=>?_))
    ·refine Q0 (rQ (Y0 J (Q1 (W0 (rQ (W1 (rS (kM J (kM J (Q0 (rS (kM J (kO (cK J (kM J (Q0 (W1 ?_)))))))))))))))))
     refine U4 (fun j e A=>∃(k:Nat),e=[(4,.slice (some ⟨b2,0,none⟩) (M+1) (M+1)),(9,.int .i64 (u:Int)),(10,.int .i64 (i:Int)),(75,.int .i64 ((M+1:Nat):Int)),(76,.int .i64 (u:Int)),(80,.int .i64 ((M+1:Nat):Int)),(81,.int .i64 (i:Int)),(85,.int .i64 ((M+1:Nat):Int)),(86,.int .i64 (k:Int))]/\A=(seg B (M+1) (wk ls (M+1) u i k) (M+1)++(.row b2 22 false (oO B (M+1) (M+1) (M+1))::[]))/\j=M+1-k/\k<=M+1) 200 0 281474976710656 ?_ (j:=_) (env2:=_) (A2:=_) ?_ ?_ ?_ ?_ ⟨0,rfl,rfl,rfl,Nat.zero_le _⟩
     rotate_left
     ·omega
     ·omega
     ·exact lL
     ·exact(.r (.q .slnil))
     rintro n hn j _ _ ⟨k,rfl,rfl,rfl,hk2⟩;refine rS (dB J J (fun h11=>?_) (fun h11=>?_))
     ·have hw1:=hWB u i k oM oM oM i u oM oM
      have hw2:=hWB u i k oM oM oM u k oM oM;have hw3:=hWB u i k oM oM oM i k oM oM;refine Q0 (rQ (Y0 J (Q1 (W0 (rQ (W1 (rS (kM J (kM J (Q0 (rS (kM J (kM J (cN (j:=i) J J oM oM (aL J (.app .here) (hJ oM oM) (kM J (cN (j:=u) J J oM oM (kO (Q5 (x:=(wk ls (M+1) u i k) (i) (u)) J (jX oM) (by rw[fQ];omega) (iG oM) (kO (V3 J J (fun h12=>?_) (fun h12=>?_))))))))))))))))))))))
      ·refine kM J (kG (U2 J (kG (U2 J (kG (Z3 (j:=u) J J oM oM (kG (Y1 J (.app .here) (hJ oM oM) (kG (U2 J (kG (Z3 (j:=k) J J oM oM (kG (Q5 (x:=(wk ls (M+1) u i k) (u) (k)) J (jX oM) (by rw[fQ];omega) (iG oM) (kG (V3 J J (fun h13=>?_) (fun h13=>?_)))))))))))))))))
       ·refine cA J J J (Q0 (Y0 J (rI (kM J (kM J (cN (j:=i) J J oM oM (aL J (.app .here) (hJ oM oM) (kM J (kM J (kM J (cN (j:=i) J J oM oM (aL J (.app .here) (hJ oM oM) (kM J (cN (j:=k) J J oM oM (kO (Q5 (x:=(wk ls (M+1) u i k) (i) (k)) J (jX oM) (by rw[fQ];omega) (iG oM) (kM J (kM J (cN (j:=i) J J oM oM (aL J (.app .here) (hJ oM oM) (kM J (cN (j:=u) J J oM oM (kO (Q5 (x:=(wk ls (M+1) u i k) (i) (u)) J (jX oM) (by rw[fQ];omega) (iG oM) (kM J ?_)))))))))))))))))))))))))
        refine kM J (cN (j:=u) J J oM oM (aL J (.app .here) (hJ oM oM) (kM J (cN (j:=k) J J oM oM (kO (Q5 (x:=(wk ls (M+1) u i k) (u) (k)) J (jX oM) (by rw[fQ];omega) (iG oM) (aX J J oM (kO (qS J (kO (Dx J (cN (j:=k) J J oM oM (kZ (W7 J J (CH oM) (by rw[fQ];omega) (Q0 (Z1 (W0 (rI (aX J J oM (kM J (Q0 (W0 ?_))))))))))))))))))))));exact⟨rfl,_,_,_,(show M+1-(k+1)<M+1-k from oM),lL,(.r (.q .slnil)),⟨k+1,rfl,(by first|(rw[Lz oM oM];done)|(rw[LA oM];done)),rfl,oM⟩⟩
       ·refine cA J J J (Q0 (U0 J (Q1 (Z1 (W0 (rI (aX J J oM (kM J (Q0 (W0 ?_))))))))))
        exact⟨rfl,_,_,_,(show M+1-(k+1)<M+1-k from oM),lL,(.r (.q .slnil)),⟨k+1,rfl,(by first|(rw[Lz oM oM];done)|(rw[LA oM];done)),rfl,oM⟩⟩
      ·refine kM J (V0 (V0 (V0 (V0 (V0 (V0 (V0 (V0 (bK J J J (Q0 (U0 J (Q1 (Z1 (W0 (rI (aX J J oM (kM J (Q0 (W0 ?_)))))))))))))))))))
       exact⟨rfl,_,_,_,(show M+1-(k+1)<M+1-k from oM),lL,(.r (.q .slnil)),⟨k+1,rfl,(by first|(rw[Lz oM oM];done)|(rw[LA oM];done)),rfl,oM⟩⟩
     ·refine Q0 (rQ (U0 J (Y4 (Z2 (Z2 (Q3 (Z1 (W0 (rI (aX J J oM (kM J (Q0 (W0 ?_)))))))))))))
      exact⟨rfl,_,_,_,(show M+1-(i+1)<M+1-i from oM),lL,(.r (.q .slnil)),⟨i+1,rfl,(by rw[show k=M+1 by omega];rfl),rfl,oM⟩⟩
    ·refine Q0 (rQ (U0 J (Y4 (Z2 (Z2 (Q3 (Z1 (W0 (rI (aX J J oM (kM J (Q0 (W0 ?_)))))))))))))
     exact⟨rfl,_,_,_,(show M+1-(u+1)<M+1-u from oM),lL,(.r (.q .slnil)),⟨u+1,rfl,(by rw[show i=M+1 by omega];rfl),rfl,oM⟩⟩
   ·refine Q0 (rQ (U0 J (Y4 (Z2 (Z2 (Q3 (W0 (rS (kM J (kM J (Q0 (V2 ?_))))))))))))
    have huN:u=M+1:=oM
    subst huN;exact gH J (.r (.q .slnil)) ⟨_,B,rfl,rfl⟩
end
end Ev
end Go.Proofs.YtjkdkpckjgaplaaGreat
