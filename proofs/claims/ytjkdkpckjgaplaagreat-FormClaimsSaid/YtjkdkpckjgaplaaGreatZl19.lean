import Derived.Test.YtjkdkpckjgaplaaGreatZl18
import Derived.Test.YtjkdkpckjgaplaaGreatZl10
import Derived.Test.YtjkdkpckjgaplaaGreatProg
import Derived.Test.YtjkdkpckjgaplaaGreatZl08
import Derived.KernelRfl
import Derived.Test.YtjkdkpckjgaplaaGreatZl07
import Derived.Test.YtjkdkpckjgaplaaGreatZl05
set_option linter.unusedVariables false
set_option linter.unusedSimpArgs false
namespace Go.Proofs.YtjkdkpckjgaplaaGreat
open Go Go.RowKit
namespace Ev
variable{l:List Int}{k:Nat}
theorem Hz{s0:St}{env:List (Nat×Value)}{A A':List Ob}{a t u x b o m e:Nat}{op:Bool}{l r:List Value}{v w y:Value}{Q:Value->List Ob->Prop}(ha:look env a=some (.pointer (some ⟨b,o,none⟩)))(h0:m≠0)(ht:look env t=some v)(hu:look env u=some w)(hx:look env x=some y)(hs:A'.Sublist A)(ho:lK A b e op l)(hv:jD l o m=some r)(hq:Q (.tuple #[.agg ⟨r⟩,v,w,y]) A'):ES s0 [.cell a (some m),.tmp t,.tmp u,.tmp x] Q .ret env [] A:=
 ⟨rfl,[.agg ⟨r⟩,v,w,y],A',⟨b,o,r,[v,w,y],rfl,ha,h0,⟨e,op,l,ho,hv⟩,v,[w,y],rfl,ht,w,[y],rfl,hu,y,[],rfl,hx,rfl⟩,hs,hq⟩
theorem P7:ints (l++List.replicate k 0)++[.int .i64 0]=ints (l++List.replicate (k+1) 0):=by
 have e:[Value.int .i64 0]=ints [0]:=rfl;rw[e,Ec,List.append_assoc,List.replicate_succ']
theorem P8:ints l=ints (l++List.replicate 0 0):=by rw[show List.replicate 0 (0:Int)=[] from rfl,List.append_nil]
theorem TI:xW true l k=l++List.replicate k 0:=by
 show(l++List.replicate k 0).map (fun z=>(1:Int)*z)=_;rw[List.map_congr_left (g:=id) (fun z _=>Int.one_mul z),List.map_id]
def TV(l w:List Int)(k:Nat):Prop:=Ff (-1) l w k/\∀i,k<=i->w.getD i 0=l.getD i 0
theorem TV.step{l w:List Int}(h:TV l w k)(hk:k<l.length):TV l (w.set k (-(w.getD k 0))) (k+1):=by
 have e:-(w.getD k 0) = -1*l.getD k 0:=by rw[h.2 k (Nat.le_refl _)];omega
 rw[e];exact⟨h.1.step hk,fun i hi=>by rw[getD_set_ne oM];exact h.2 i oM⟩
section
variable{X:FuncId->List Value->St->(Value->St->Bool)->Bool}
theorem Mo(n:Nat)(d r al up:Int)(a1 a2:Option Addr)(c1 c2:Nat)(l1 l2:List Int)(a3 a4:Option Addr)(c3 c4:Nat)(rs cs:List (List Int))(wk ws ww:Int)(high:Bool)(s:St)(hs:Wf s)(hn:4503599627370496<=n)(hl1:aN s a1 l1)(hl2:aN s a2 l2)(hr:RowsE s 7 a3 rs)(hc:RowsE s 6 a4 cs)(hcp:lB s a2 l2.length c2):bX Tryz.prog (bZ cB) X (n+4000) 63 [.agg ⟨[.int .i64 d,.int .i64 r,.slice a1 l1.length c1,.slice a2 l2.length c2,.int .i64 al,.int .i64 up,.slice a3 rs.length c3,.slice a4 cs.length c4]⟩,.agg ⟨[.int .i64 wk,.int .i64 ws,.int .i64 ww]⟩,.bool high] s (fun v A=>(¬AK (nK ((1<=d/\d<=99999)/\(1<=r/\r<=99999)/\(0<=al/\al<=100000)/\(0<=up/\up<=100000)/\cJ l1 l2=true) l1 l2 rs cs) (tY (l1.length:Int) (l2.length:Int) rs (Sv.b6 (Sv.mk r al up l1 l2 rs cs)))=0/\v = .tuple #[.agg ⟨[.int .i64 0,.slice none 0 0]⟩,.slice none 0 0,.int .i64 0,.int .i64 (AK (nK ((1<=d/\d<=99999)/\(1<=r/\r<=99999)/\(0<=al/\al<=100000)/\(0<=up/\up<=100000)/\cJ l1 l2=true) l1 l2 rs cs) (tY (l1.length:Int) (l2.length:Int) rs (Sv.b6 (Sv.mk r al up l1 l2 rs cs))))]/\A=[])∨(nK ((1<=d/\d<=99999)/\(1<=r/\r<=99999)/\(0<=al/\al<=100000)/\(0<=up/\up<=100000)/\cJ l1 l2=true) l1 l2 rs cs=0/\tY (l1.length:Int) (l2.length:Int) rs (Sv.b6 (Sv.mk r al up l1 l2 rs cs))/\¬(((wk=1/\ws=0/\(0<=ww/\ww<=(l2.length:Int)-1)/\0<ww)∨(wk=2/\ws=0/\(0<=ww/\ww<=(l2.length:Int)-1))∨(wk=3/\(0<=ws/\ws<=(l1.length:Int)-1)/\ww=0)∨(wk=4/\(0<=ws/\ws<=(l1.length:Int)-1)/\(0<=ww/\ww<=(l2.length:Int)-1))))/\v = .tuple #[.agg ⟨[.int .i64 0,.slice none 0 0]⟩,.slice none 0 0,.int .i64 0,.int .i64 33]/\A=[])∨(nK ((1<=d/\d<=99999)/\(1<=r/\r<=99999)/\(0<=al/\al<=100000)/\(0<=up/\up<=100000)/\cJ l1 l2=true) l1 l2 rs cs=0/\tY (l1.length:Int) (l2.length:Int) rs (Sv.b6 (Sv.mk r al up l1 l2 rs cs))/\(((wk=1/\ws=0/\(0<=ww/\ww<=(l2.length:Int)-1)/\0<ww)∨(wk=2/\ws=0/\(0<=ww/\ww<=(l2.length:Int)-1))∨(wk=3/\(0<=ws/\ws<=(l1.length:Int)-1)/\ww=0)∨(wk=4/\(0<=ws/\ws<=(l1.length:Int)-1)/\(0<=ww/\ww<=(l2.length:Int)-1))))/\∃bS bw cpw opw,v = .tuple #[.agg ⟨[.int .i64 ((l1.length:Int)*(l2.length:Int)+((dys rs).length:Int)),.slice (some ⟨bS,0,none⟩) (Sv.b6 (Sv.mk r al up l1 l2 rs cs)).length OPEN]⟩,.slice (some ⟨bw,0,none⟩) (l2.length*l1.length+1+(dys rs).length) cpw,.int .i64 (gV wk),.int .i64 0]/\A=[.row bw 3 opw (ints (xW high (dL wk ws ww l1 l2) (dys rs).length)),.row bS 107 true (aT (Sv.b6 (Sv.mk r al up l1 l2 rs cs)))])):=by
 refine enter O7 rfl hs ?_;unfold NY;have hlen1:=hl1.len;have hlen2:=hl2.len;have hlen3:=hr.len;have hlen4:=hc.len;refine rS (aZ J J J (fun b1=>(aZ J J J (fun b2=>(aY J J (fun b3=>(kM J (kM J (kM J (Q0 (rS (dD J dE .h2 J (kO (aI J J (fun s1 h1=>Lw _ _ _ _ _ _ _ _ _ _ _ _ _ _ _ _ _ s1 h1.wf oM (hl1.ext hs h1.2.1) (hl2.ext hs h1.2.1) (hr.ext hs h1.2.1) (hc.ext hs h1.2.1)) (kM J (Q0 (rQ (rS (kM J (kO (V3 J J (fun h4=>?_) (fun h4=>?_))))))))))))))))))))))
 ·have hcn:=h4
  refine Q0 (Y0 J (rS (eG J J (kM J (kZ (Q6 J J .here rfl rfl rfl rfl (kM J (kM J (kM J (Q0 (V2 (W3 ?_))))))))))));exact Hz J dE J J J (.cons _ (.cons _ (.cons _ .slnil))) .here rfl (.inl ⟨hcn,rfl,rfl⟩)
 ·have hck:AK (nK ((1<=d/\d<=99999)/\(1<=r/\r<=99999)/\(0<=al/\al<=100000)/\(0<=up/\up<=100000)/\cJ l1 l2=true) l1 l2 rs cs) (tY (l1.length:Int) (l2.length:Int) rs (Sv.b6 (Sv.mk r al up l1 l2 rs cs)))=0:=oM
  have hpt:nK ((1<=d/\d<=99999)/\(1<=r/\r<=99999)/\(0<=al/\al<=100000)/\(0<=up/\up<=100000)/\cJ l1 l2=true) l1 l2 rs cs=0:=by
   refine Decidable.byContradiction (fun hp=>?_);rw[qU hp] at hck;exact hp hck
  have hfit:tY (l1.length:Int) (l2.length:Int) rs (Sv.b6 (Sv.mk r al up l1 l2 rs cs)):=by
   refine Decidable.byContradiction (fun hf=>?_);rw[qH hpt hf] at hck;exact absurd hck dE
  obtain⟨⟨hsd,hsr,hsa,hsu,hpl⟩,h60,h20,hrdb,hcpb⟩:=oN hpt;have hp1:=fZ hpl;have hp2:=gO hpl;have hm1:=hp1.hm;have hm2:=hp2.hm;have h21:=hp1.h2;have h22:=hp2.h2;have hN9:l2.length*l1.length<=81:=Nat.le_trans (Nat.mul_le_mul (show l2.length<=9 from oM) (show l1.length<=9 from oM)) dE;have hNi:((l2.length*l1.length:Nat):Int)=(l1.length:Int)*(l2.length:Int):=by rw[Int.natCast_mul,Int.mul_comm]
  have hdl:=rY hr;have hf1:=hfit.1;have hf2:=hfit.2;have hlv:=Hx (a4:=a4) (up:=up) (l1:=l1) (l2:=l2) hsr hsa hsu hpl hcpb hrdb hr hc rfl hf1;have hLg:Bo (l2.length*l1.length+1+(dys rs).length) (Sv.b6 (Sv.mk r al up l1 l2 rs cs)):=Hw oM hlv;have hTL:=CY (up:=up) (l1:=l1) hrdb hr oM hLg;have hsys:fR ((l1.length:Int)*(l2.length:Int)+((dys rs).length:Int)) (Sv.b6 (Sv.mk r al up l1 l2 rs cs))=0:=zO oM hf2 hlv;have hmE:((l1.length:Int)*(l2.length:Int)+((dys rs).length:Int))=((l2.length*l1.length+(dys rs).length:Nat):Int):=oM
  have hL4:∀q∈(Sv.b6 (Sv.mk r al up l1 l2 rs cs)),q.length=4:=Sv.h6 _ _;refine Q0 (U0 J (Q1 (W0 (rQ (rS (aH J (dD J dE .h2 J (dD J dE .h1 J (kO (bB J J (fun s1 h1=>LB _ _ _ _ _ _ _ _ _ _ _ _ _ _ s1 h1.wf oM (hl1.ext hs h1.2.1) (hl2.ext hs h1.2.1)) (fun h5=>?_) (fun h5=>?_)))))))))))
  ·have hw:=h5
   obtain⟨ws,rfl⟩:∃q:Nat,ws=(q:Int):=⟨ws.toNat,oM⟩;obtain⟨ww,rfl⟩:∃q:Nat,ww=(q:Int):=⟨ww.toNat,oM⟩;have hrb:=zK (wk:=wk) hp1 hp2 (h15 hpl) (fun h=>oM) (show ws<l1.length from oM) (show ww<l2.length from oM) oM;have hrb2:dA (dL wk ws ww l1 l2) (dL wk ws ww l1 l2).length<=3600000000000:=(by rw[dN];exact hrb);have hrd:=vJ (wk:=wk);have hwl:=dN (wk:=wk) (ws:=ws) (ww:=ww) (l1:=l1) (l2:=l2);have hsa9:=vP hsys;refine eP J (Q0 (U0 J (Q1 (W0 (rS (dD J dE .h2 J (kO (Z4 J J (fun s1 h1=>wT _ _ _ _ _ _ _ _ _ _ _ _ _ _ _ _ _ s1 h1.wf oM (hl1.ext hs h1.2.1) (hl2.ext hs h1.2.1) (hr.ext hs h1.2.1) (hc.ext hs h1.2.1) hpt) (fun v1 A1 q1=>?_)))))))));obtain⟨bS6,rfl,rfl⟩:=q1;refine aY J J (fun b7=>(kZ (Q6 J J .here rfl rfl rfl rfl (Q0 (rS (aH J (dD J dE .h4 J (dD J dE .h3 J (kO (Z4 J J (fun s1 h1=>Fd _ _ _ _ _ _ _ _ _ _ _ _ _ _ s1 h1.wf oM (hl1.ext hs h1.2.1) (hl2.ext hs h1.2.1) hpl hp1 hp2 (hcp.ext hs h1.2.1) hw) (fun v1 A1 q1=>?_)))))))))));obtain⟨b8,rfl,rfl⟩:=q1;refine kM J (eK J J (eK J J (kM J (kM J (Q0 (rQ (W1 ?_)))))));rw[P8];refine U4 (fun j e A=>∃(k b cp:Nat) (op:Bool),e=[(2,.bool high),(6,.pointer (some ⟨b3,0,none⟩)),(11,.pointer (some ⟨b7,0,none⟩)),(12,.slice (some ⟨b,0,none⟩) ((l2.length*l1.length+1)+k) cp),(13,.int .i64 (gV wk))]/\A=(.row b 3 op (ints (dL wk ws ww l1 l2++List.replicate k 0))::(.row b7 45 false ([.int .i64 ((l1.length:Int)*(l2.length:Int)+((dys rs).length:Int)),.slice (some ⟨bS6,0,none⟩) (Sv.b6 (Sv.mk r al up l1 l2 rs cs)).length OPEN])::(.row bS6 107 true (aT (Sv.b6 (Sv.mk r al up l1 l2 rs cs)))::(.row b3 45 false ([.int .i64 0,.slice none 0 0])::[]))))/\j=(dys rs).length-k/\k<=(dys rs).length/\xR op ((l2.length*l1.length+1)+k) cp) 100 281474976710656 281474976710656 ?_ (j:=_) (env2:=_) (A2:=_) ?_ ?_ ?_ ?_ ⟨0,b8,(l2.length*l1.length+1),false,rfl,rfl,rfl,Nat.zero_le _,.inr ⟨rfl,rfl,by show _<18446744073709551616;omega⟩⟩
   rotate_left
   ·omega
   ·omega
   ·exact lL
   ·exact(.q (.q (.q (.q (.cons _ (.cons _ .slnil))))))
   rintro n hn j _ _ ⟨k,b,cp,op,rfl,rfl,rfl,hk,ht⟩;refine rQ (rS (kM J (kO (cK J (aH J (aL J .h1 J (aX J J oM (dB J J (fun h9=>?_) (fun h9=>?_)))))))))
   ·refine Q0 (Y0 J (Q1 (W0 (W1 (rI (kM J (kO (bF J J J (fun b10=>(kO (cO J J (fK.own .here rfl sM) .h1 (by rw[bU,List.length_append,dN,List.length_replicate,Nat.mul_one]) ht dE oM oM (fun b11=>(kM J (Q0 (Z1 (W0 ?_))))))))))))))))
    exact⟨rfl,_,_,_,(show(dys rs).length-(k+1)<(dys rs).length-k from oM),lL,(.q (.cons _ (.q (.q (.q .slnil))))),⟨k+1,b11,OPEN,true,rfl,(congrArg (fun q=>Ob.row _ _ _ q::_) P7),rfl,oM,.inl ⟨rfl,rfl⟩⟩⟩
   ·obtain rfl:k=(dys rs).length:=oM
    refine Q0 (U0 J (Y4 (Z2 (Z2 (Q3 (W0 (rQ (rS (kM J ?_)))))))));have zL:(dL wk ws ww l1 l2++List.replicate (dys rs).length 0).length=(l2.length*l1.length+1+(dys rs).length):=by rw[List.length_append,dN,List.length_replicate]
    cases high
    ·refine eP J (Q0 (Y0 J (rS (kM J (Q0 (W1 ?_))))))
     refine U4 (fun j e A=>∃(u:Nat) (w9:List Int),e=[(6,.pointer (some ⟨b3,0,none⟩)),(11,.pointer (some ⟨b7,0,none⟩)),(12,.slice (some ⟨b,0,none⟩) (l2.length*l1.length+1+(dys rs).length) cp),(13,.int .i64 (gV wk)),(14,.int .i64 (u:Int))]/\A=(.row b 3 op (ints w9)::(.row b7 45 false ([.int .i64 ((l1.length:Int)*(l2.length:Int)+((dys rs).length:Int)),.slice (some ⟨bS6,0,none⟩) (Sv.b6 (Sv.mk r al up l1 l2 rs cs)).length OPEN])::(.row bS6 107 true (aT (Sv.b6 (Sv.mk r al up l1 l2 rs cs)))::(.row b3 45 false ([.int .i64 0,.slice none 0 0])::[]))))/\j=(l2.length*l1.length+1+(dys rs).length)-u/\u<=(l2.length*l1.length+1+(dys rs).length)/\TV (dL wk ws ww l1 l2++List.replicate (dys rs).length 0) w9 u) 100 281474976710656 281474976710656 ?_ (j:=_) (env2:=_) (A2:=_) ?_ ?_ ?_ ?_ ⟨0,(dL wk ws ww l1 l2++List.replicate (dys rs).length 0),rfl,rfl,rfl,Nat.zero_le _,⟨⟨rfl,fun i hi=>absurd hi (Nat.not_lt_zero i)⟩,fun i _=>rfl⟩⟩
     rotate_left
     ·omega
     ·omega
     ·exact lL
     ·exact(.q (.q (.q (.q .slnil))))
     rintro n hn j _ _ ⟨u,w9,rfl,rfl,rfl,hu,hng⟩;have hl9:=hng.1.1;have zL2:=zL;have hbk:-3600000000000<=w9.getD u 0/\w9.getD u 0<=3600000000000:=by rw[hng.2 u (Nat.le_refl _),vS];exact qO hrb2
     refine rQ (rS (kM J (kM J (kO (cK J (dB J J (fun h12=>?_) (fun h12=>?_)))))))
     ·refine Q0 (Y0 J (Q1 (W0 (rQ (W1 (rI (kM J (kM J (kM J (kM J (cN (j:=u) J J oM oM (kO (dM J .here (by first|omega|(simp;done)|(simp;omega)) (kO (xQ J oM (cN (j:=u) J J oM oM (kZ (W7 J J .here (by first|omega|(simp;done)|(simp[cI];omega)|(simp;omega)) (Q0 (Z1 (W0 (rI (kM J (aX J J oM (kM J (Q0 ?_))))))))))))))))))))))))))
      refine W0 ?_;exact⟨rfl,_,_,_,(show(l2.length*l1.length+1+(dys rs).length)-(u+1)<(l2.length*l1.length+1+(dys rs).length)-u from oM),lL,(.q (.q (.q (.q .slnil)))),⟨u+1,_,rfl,rfl,rfl,oM,(hng.step (by rw[zL];omega))⟩⟩
     ·obtain rfl:u=(l2.length*l1.length+1+(dys rs).length):=oM
      have hw8:=Ff.eq (l:=(dL wk ws ww l1 l2++List.replicate (dys rs).length 0)) (w:=w9) (by rw[zL];exact hng.1);subst hw8;refine Q0 (U0 J (Y4 (Z2 (Z2 (Q3 (W0 (rS (dD J dE .h1 J (kM J (kM J (kZ (Q6 J J .h3 J J J J (kM J (kM J (kM J (Q0 (V2 ?_)))))))))))))))));exact Hz J dE J J J (.q (.cons _ (.q (.cons _ .slnil)))) .h3 J (.inr (.inr ⟨hpt,hfit,hw,_,_,_,_,rfl,rfl⟩))
    ·rw[<-TI]
     refine eP J (Q0 (U0 J (Q1 (W0 (rS (dD J dE .h1 J (kM J (kM J (kZ (Q6 J J .h3 J J J J (kM J (kM J (kM J (Q0 (V2 ?_)))))))))))))));exact Hz J dE J J J (.q (.cons _ (.q (.cons _ .slnil)))) .h3 J (.inr (.inr ⟨hpt,hfit,hw,_,_,_,_,rfl,rfl⟩))
  ·have hw:=h5
   refine eP J (Q0 (Y0 J (rS (eG J J (kZ (Q6 J J .here rfl rfl rfl rfl (kM J (kM J (kM J (Q0 (V2 (W3 ?_))))))))))));exact Hz J dE J J J (.cons _ (.cons _ (.cons _ .slnil))) .here rfl (.inr (.inl ⟨hpt,hfit,hw,rfl,rfl⟩))
set_option maxHeartbeats 4000000 in
theorem A8(n:Nat)(m:Int)(al:Option Addr)(cl:Nat)(ls:List (List Int))(aw:Option Addr)(cw:Nat)(nw:Nat)(w:List Int)(ap:Option Addr)(cp:Nat)(us:List (List Int))(bd:Int)(N:Nat)(s:St)(hs:Wf s)(hn:1688849860263936<=n)(hL:RowsE s 4 al ls)(hnw:nw=w.length)(hW:aN s aw w)(hU:RowsE s 2 ap us)(hsys:fR m ls=0)(hN:(N:Int)=m+1)(hN66:N<=65)(hN0:0<N)(hLg:Bo N ls)(h400:ls.length<=400)(hwl:w.length=N)(hwo:dA w w.length<=3600000000000):bX Tryz.prog (bZ cB) X (n+1500) 64 [.agg ⟨[.int .i64 m,.slice al ls.length cl]⟩,.slice aw nw cw,.agg ⟨[.int .i64 bd,.slice ap us.length cp]⟩] s (fun v A=>((us.length<=400/\D9 ls us w N bd)/\v = .int .i64 0/\A=[])∨(¬(us.length<=400/\D9 ls us w N bd)/\v = .int .i64 24/\A=[])):=by
 subst hnw;exact A7 n m al cl ls aw cw w ap cp us bd N s hs hn hL hW hU hsys hN hN66 hN0 hLg h400 hwl hwo
set_option maxHeartbeats 4000000 in
theorem Bq(n:Nat)(d r al up:Int)(a1 a2:Option Addr)(c1 c2:Nat)(l1 l2:List Int)(a3 a4:Option Addr)(c3 c4:Nat)(rs cs:List (List Int))(wk ws ww:Int)(high:Bool)(num:Int)(ap:Option Addr)(cp:Nat)(us:List (List Int))(pbd:Int)(s:St)(hs:Wf s)(hn:5629499534213120<=n)(hl1:aN s a1 l1)(hl2:aN s a2 l2)(hr:RowsE s 7 a3 rs)(hc:RowsE s 6 a4 cs)(hcp:lB s a2 l2.length c2)(hU:RowsE s 2 ap us):bX Tryz.prog (bZ cB) X (n+6000) 24 [.agg ⟨[.int .i64 d,.int .i64 r,.slice a1 l1.length c1,.slice a2 l2.length c2,.int .i64 al,.int .i64 up,.slice a3 rs.length c3,.slice a4 cs.length c4]⟩,.agg ⟨[.int .i64 wk,.int .i64 ws,.int .i64 ww]⟩,.bool high,.int .i64 num,.agg ⟨[.int .i64 pbd,.slice ap us.length cp]⟩] s (fun v A=>v = .int .i64 (yH (AK (nK ((1<=d/\d<=99999)/\(1<=r/\r<=99999)/\(0<=al/\al<=100000)/\(0<=up/\up<=100000)/\cJ l1 l2=true) l1 l2 rs cs) (tY (l1.length:Int) (l2.length:Int) rs (Sv.b6 (Sv.mk r al up l1 l2 rs cs)))) (((wk=1/\ws=0/\(0<=ww/\ww<=(l2.length:Int)-1)/\0<ww)∨(wk=2/\ws=0/\(0<=ww/\ww<=(l2.length:Int)-1))∨(wk=3/\(0<=ws/\ws<=(l1.length:Int)-1)/\ww=0)∨(wk=4/\(0<=ws/\ws<=(l1.length:Int)-1)/\(0<=ww/\ww<=(l2.length:Int)-1)))) (us.length<=400/\D9 (Sv.b6 (Sv.mk r al up l1 l2 rs cs)) us (xW high (dL wk ws ww l1 l2) (dys rs).length) (l2.length*l1.length+1+(dys rs).length) pbd) (UU high pbd (gV wk) num))/\A=[]):=by
 refine enter OM rfl hs ?_;unfold Ng;have hlen1:=hl1.len;have hlen2:=hl2.len;have hlen3:=hr.len;have hlen4:=hc.len;have hlenU:=hU.len;refine rS (aZ J J J (fun b1=>(aZ J J J (fun b2=>(aZ J J J (fun b3=>(kM J (Q0 (rS (dD J dE .h2 J (dD J dE .h1 J (kM J (kO (Z4 J J (fun s1 h1=>Mo _ _ _ _ _ _ _ _ _ _ _ _ _ _ _ _ _ _ _ _ high s1 h1.wf oM (hl1.ext hs h1.2.1) (hl2.ext hs h1.2.1) (hr.ext hs h1.2.1) (hc.ext hs h1.2.1) (hcp.ext hs h1.2.1)) (fun v1 A1 q1=>?_)))))))))))))));rcases q1 with ⟨hcn,rfl,rfl⟩|⟨hpt,hfit,hw,rfl,rfl⟩|⟨hpt,hfit,hw,bS,bw,cpw,opw,rfl,rfl⟩
 ·refine kM J (eK J J (eK J J (eK J J (eK J J (aY J J (fun b4=>(kZ (Q6 J J .here rfl rfl rfl rfl (kM J (kM J (kM J (Q0 (rQ (rS (kM J (kO (V3 J J (fun h5=>?_) (fun h5=>?_))))))))))))))))))
  ·refine Q0 (Y0 J (rS (kM J (kM J (Q0 (V2 (W3 ?_)))))))
   exact aO J ⟨congrArg (Value.int .i64) (by rw[Mm hcn]),rfl⟩
  ·exact absurd h5 hcn
 ·refine kM J (eK J J (eK J J (eK J J (eK J J (aY J J (fun b6=>(kZ (Q6 J J .here rfl rfl rfl rfl (kM J (kM J (kM J (Q0 (rQ (rS (kM J (kO (V3 J J (fun _=>(Q0 (Y0 J (rS (kM J (kM J (Q0 (V2 (W3 ?_))))))))) (fun h=>absurd h dE))))))))))))))))))
  exact aO J ⟨congrArg (Value.int .i64) (Mn (fJ hpt hfit) hw).symm,rfl⟩
 ·simp only[List.cons_append,List.nil_append]
  obtain⟨ws,rfl⟩:∃q:Nat,ws=(q:Int):=⟨ws.toNat,oM⟩;obtain⟨ww,rfl⟩:∃q:Nat,ww=(q:Int):=⟨ww.toNat,oM⟩;obtain⟨⟨hsd,hsr,hsa,hsu,hpl⟩,h60,h20,hrdb,hcpb⟩:=oN hpt;have hp1:=fZ hpl;have hp2:=gO hpl;have hm1:=hp1.hm;have hm2:=hp2.hm;have h21:=hp1.h2;have h22:=hp2.h2;have hN9:l2.length*l1.length<=81:=Nat.le_trans (Nat.mul_le_mul (show l2.length<=9 from oM) (show l1.length<=9 from oM)) dE;have hNi:((l2.length*l1.length:Nat):Int)=(l1.length:Int)*(l2.length:Int):=by rw[Int.natCast_mul,Int.mul_comm]
  have hdl:=rY hr;have hf1:=hfit.1;have hf2:=hfit.2;have hlv:=Hx (a4:=a4) (up:=up) (l1:=l1) (l2:=l2) hsr hsa hsu hpl hcpb hrdb hr hc rfl hf1;have hLg:Bo (l2.length*l1.length+1+(dys rs).length) (Sv.b6 (Sv.mk r al up l1 l2 rs cs)):=Hw oM hlv;have hTL:=CY (up:=up) (l1:=l1) hrdb hr oM hLg;have hsys:fR ((l1.length:Int)*(l2.length:Int)+((dys rs).length:Int)) (Sv.b6 (Sv.mk r al up l1 l2 rs cs))=0:=zO oM hf2 hlv;have hmE:((l1.length:Int)*(l2.length:Int)+((dys rs).length:Int))=((l2.length*l1.length+(dys rs).length:Nat):Int):=oM
  have hL4:∀q∈(Sv.b6 (Sv.mk r al up l1 l2 rs cs)),q.length=4:=Sv.h6 _ _;have hrb:=zK (wk:=wk) hp1 hp2 (h15 hpl) (fun h=>oM) (show ws<l1.length from oM) (show ww<l2.length from oM) oM;have hrb2:dA (dL wk ws ww l1 l2) (dL wk ws ww l1 l2).length<=3600000000000:=(by rw[dN];exact hrb);have hrd:=vJ (wk:=wk);have hsa9:=vP hsys;have hwo9:dA (xW high (dL wk ws ww l1 l2) (dys rs).length) (xW high (dL wk ws ww l1 l2) (dys rs).length).length<=3600000000000:=by rw[vQ];exact hrb2
  refine kM J (eK J J (eK J J (eK J J (eK J J (aY J J (fun b8=>(kZ (Q6 J J .here rfl rfl rfl rfl (kM J (kM J (kM J (Q0 (rQ (rS (kM J (kO (V3 J J (fun h=>absurd h dE) (fun _=>(Q0 (U0 J (Q1 (W0 (rQ (rS (dD J dE .here rfl (kM J (dD J dE .h3 J ?_)))))))))))))))))))))))))));refine kO (Z4 J J (fun s1 h1=>A8 _ ((l1.length:Int)*(l2.length:Int)+((dys rs).length:Int)) _ _ (Sv.b6 (Sv.mk r al up l1 l2 rs cs)) _ _ _ (xW high (dL wk ws ww l1 l2) (dys rs).length) _ _ us pbd (l2.length*l1.length+1+(dys rs).length) s1 h1.wf oM (RowsE.ownF (h1.own .h2) (AL hsr hsa hsu hpl oM oM hrdb hcpb (hr.ext hs h1.2.1) (hc.ext hs h1.2.1) oM) oM) (by rw[gC,dN]) (aN.own (h1.own .h1) (vR hwo9 dE) (by rw[gC,dN];omega)) (hU.ext hs h1.2.1) hsys oM oM oM hLg oM (by rw[gC,dN]) hwo9) (fun v1 A1 q1=>?_));rcases q1 with ⟨had,rfl,rfl⟩|⟨had,rfl,rfl⟩
  ·have hbdb:=Ed hLg had.2
   refine kO (V3 J J (fun h=>absurd h dE) (fun _=>(Q0 (U0 J (Q1 (W0 (rQ (rS (kM J ?_)))))))));cases high
   ·refine kM J (V0 (V0 (V0 (V0 (V0 (V0 (bK J J J (kM J (kG (U2 J (kG (U6 J (kG (U2 J (kG (Q2 J (kG (Y1 J .h3 J (kG (xQ J oM (kG (U2 J (kG (aI J J (fun s1 h1=>Hu _ _ _ s1 h1.wf oM oM) (kG (U2 J (kG (xP J J (fun h11=>?_) (fun h11=>?_)))))))))))))))))))))))))))))
    ·refine kG (W2 J J J (bK J J J (Q0 (Y0 J (rS (kM J (Q0 (V2 (W3 ?_)))))))))
     exact aO J ⟨congrArg (Value.int .i64) (B5 (fJ hpt hfit) hw had (show num<=B1 (-pbd) (gV wk) from oM)).symm,rfl⟩
    ·refine kG (W2 J J J (bK J J J (Q0 (U0 J (Q1 (W0 (rS (kM J (Q0 (V2 ?_))))))))))
     exact aO J ⟨congrArg (Value.int .i64) (B4 (fJ hpt hfit) hw had (show ¬(num<=B1 (-pbd) (gV wk)) from oM)).symm,rfl⟩
   ·refine kM J (kG (Q2 J (kG (Y1 J .h3 J (kG (U2 J (kG (aI J J (fun s1 h1=>Hu _ _ _ s1 h1.wf oM oM) (kG (U2 J (kG (eV J J (fun h12=>?_) (fun h12=>?_)))))))))))))
    ·refine cA J J J (kM J (V0 (V0 (V0 (V0 (V0 (V0 (V0 (V0 (V0 (V0 (V0 (cA J J J (Q0 (Y0 J (rS (kM J (Q0 (V2 (W3 ?_))))))))))))))))))))
     exact aO J ⟨congrArg (Value.int .i64) (B5 (fJ hpt hfit) hw had (show B1 pbd (gV wk)<=num from oM)).symm,rfl⟩
    ·refine cA J J J (kM J (kG (U2 J (kG (U6 J (kG (U2 J (V0 (V0 (V0 (V0 (V0 (V0 (V0 (kG (U1 J J J (bK J J J (Q0 (U0 J (Q1 (W0 (rS (kM J (Q0 (V2 ?_)))))))))))))))))))))))))
     exact aO J ⟨congrArg (Value.int .i64) (B4 (fJ hpt hfit) hw had (show ¬(B1 pbd (gV wk)<=num) from oM)).symm,rfl⟩
  ·refine kO (V3 J J (fun _=>(Q0 (Y0 J (rS (kM J (Q0 (V2 (W3 ?_)))))))) (fun h=>absurd h dE))
   exact aO J ⟨congrArg (Value.int .i64) (Ee (fJ hpt hfit) hw had).symm,rfl⟩
end
section
set_option maxHeartbeats 8000000 in
set_option maxRecDepth 100000 in
theorem C0(n:Nat)(aS aQ aC aP:Option Addr)(cS cQ cC cP:Nat)(lS:List Int)(qs ts:List (List Int))(ps:List Int)(g0 g1 g2:Int)(wk ws ww:Int)(high:Bool)(num:Int)(ap:Option Addr)(cp:Nat)(us:List (List Int))(pbd:Int)(s:St)(hs:Wf s)(hn:16888498602639360<=n)(hS:aN s aS lS)(hQ:RowsE s 5 aQ qs)(hT:RowsE s 4 aC ts)(hP:aN s aP ps)(hg0:I64 g0)(hg1:I64 g1)(hg2:I64 g2)(hUz:RowsE s 2 ap us):bX Tryz.prog (bZ cB) (tR 6) (n+14000) 4 [.agg ⟨[.slice aS lS.length cS,.slice aQ qs.length cQ,.slice aC ts.length cC,.slice aP ps.length cP,.int .i64 g0,.int .i64 g1,.int .i64 g2]⟩,.agg ⟨[.int .i64 wk,.int .i64 ws,.int .i64 ww,.bool high,.int .i64 num,.int .i64 pbd,.slice ap us.length cp]⟩] s (fun v A=>v = .bool true/\A=[]):=by
 refine enter Rz rfl hs ?_;unfold TN;have hlen1:=hS.len;have hlen2:=hQ.len;have hlen3:=hT.len;have hlen4:=hP.len;have hlenU:=hUz.len;refine rS (aZ J J J (fun b1=>(aZ J J J (fun b2=>(kM J (Q0 (rS (kO (aI J J (fun s1 h1=>Pu _ s1 h1.wf) (kM J (Q0 (rS (dD J dE .h1 J (kO (Z4 J J (fun s1 h1=>LW _ _ _ _ _ _ _ _ _ lS qs ts ps g0 g1 g2 s1 h1.wf oM (hS.ext hs h1.2.1) (hQ.ext hs h1.2.1) (hT.ext hs h1.2.1) (hP.ext hs h1.2.1) hg0 hg1 hg2) (fun v1 A1 q1=>?_))))))))))))))));obtain⟨bm1,bm2,d,r,al,up,l1,l2,aF,cF,RU,rs,aD,cD,CU,cs,rfl,hA0,hsf,hU,hV,hWv,hWc,hr15,hc5⟩:=q1;rw[hA0,List.append_assoc,List.append_assoc,List.cons_append,List.cons_append,List.nil_append];have hf1:=hsf.2.2.2.2.1;have hf2:=hsf.2.2.2.2.2.1;have hq1:=hsf.2.2.2.2.2.2.2.1;have hq2:=hsf.2.2.2.2.2.2.2.2.2;have hdl:=CO (rs:=rs);have hspm1:∀b,(some ⟨bm1,0,none⟩:Option Addr)=some b->b.spot=none:=fun b hb=>by cases hb;rfl
 have hspm2:∀b,(some ⟨bm2,0,none⟩:Option Addr)=some b->b.spot=none:=fun b hb=>by cases hb;rfl
 have hspR:=hU.spot;have hspC:=hV.spot;refine aY J J (fun b3=>(kZ (Q6 J J .here rfl rfl rfl rfl (Q0 (rS (kM J (kM J (kG (V4 J dE .here rfl (kG (Q2 J (kG (V4 J dE (.next (.app (.app .h2))) J (kG (Q2 J (kG (Y1 J (.next (.app (.app .h2))) J (kG (Q2 J (kG (Y1 J (.next (.app (.app .h2))) J (kG (Q2 J (kG (V4 J dE (.next (.app (.app .h2))) J (kG (V4 J dE .here rfl (kG (Q2 J (kG (V4 J dE (.next (.app (.app .h2))) J (kG (Q2 J (kG (Y1 J (.next (.app (.app .h2))) J (kG (Q2 J (kG (Y1 J (.next (.app (.app .h2))) J (kG (Q2 J (kG (V4 J dE (.next (.app (.app .h2))) J ?_)))))))))))))))))))))))))))))))))))))))))));refine kG (aI J J (fun s1 h1=>Bp _ d r al up _ _ _ _ l1 l2 _ _ _ _ rs cs wk ws ww high num _ _ us pbd s1 h1.wf oM (aN.own (h1.own (.next (.app (.app .h1)))) hf1 oM) (aN.own (h1.own (.next (.app (.app .here)))) hf2 oM) (hU.rows (.cons _ sA) h1 hWv oM) (hV.rows (.cons _ (sR sA)) h1 hWc oM) (lB.own (h1.own (.next (.app (.app .here)))) (by rw[bU];exact Nat.le_refl _)) (hUz.ext hs h1.2.1)) (kZ (eJ J J dE (.next (.app (.app .h2))) J (by simp[eqL,eqV,eqA,kindEq,aB,V5 hspm1,V5 hspm2,V5 hspR,V5 hspC,V5 hUz.spot]) (kZ (aK J J (.next (.app (.app .h2))) J (by simp[eqV,eqA,eqL,kindEq,aB,V5 hspm1,V5 hspm2,V5 hspR,V5 hspC,V5 hUz.spot]) (kZ (aK J J (.next (.app (.app .h2))) J (by cases high <;> rfl) (kZ (eJ J J dE (.next (.app (.app .h2))) J (by simp[eqL,eqV,eqA,kindEq,aB,V5 hspm1,V5 hspm2,V5 hspR,V5 hspC,V5 hUz.spot]) (kZ (eJ J J dE .here rfl (by simp[eqL,eqV,eqA,kindEq,aB,V5 hspm1,V5 hspm2,V5 hspR,V5 hspC,V5 hUz.spot]) (kG (aI J J (fun s1 h1=>Bq _ d r al up _ _ _ _ l1 l2 _ _ _ _ rs cs wk ws ww high num _ _ us pbd s1 h1.wf oM (aN.own (h1.own (.next (.app (.app .h1)))) hf1 oM) (aN.own (h1.own (.next (.app (.app .here)))) hf2 oM) (hU.rows (.cons _ sA) h1 hWv oM) (hV.rows (.cons _ (sR sA)) h1 hWc oM) (lB.own (h1.own (.next (.app (.app .here)))) (by rw[bU];exact Nat.le_refl _)) (hUz.ext hs h1.2.1)) (kG (bV J J (fun h4=>?_) (fun h4=>?_))))))))))))))))
 ·refine cA J J J (kM J (Q0 (V2 ?_)))
  exact aO J ⟨rfl,rfl⟩
 ·exact absurd rfl h4
end
end Ev
end Go.Proofs.YtjkdkpckjgaplaaGreat
namespace Go.Proofs.YtjkdkpckjgaplaaGreat.Ev
open Go Go.RowKit Go.ChangeShapes Go.WideShapes Go.ChangeAt Go.Joins
set_option linter.unusedVariables false
noncomputable section
theorem HA{s:St}{a:Option Addr}{rs:List (List Int)}(h:RowsE s 1 a rs):aN s a (rs.map fun r=>r.getD 0 0):=by
 have hr:∀r∈rs,r=[r.getD 0 0]:=fun r hr=>by
  have:=h.width r hr
  match r,this with
  |[z],_=>rfl
 refine⟨h.spot,fun hn=>h.addr (by rintro rfl;exact hn rfl),fun b o ha=>?_,fun x hx=>?_,by rw[List.length_map];exact h.len⟩
 ·have key:∀(l:List (List Int)) (k:Nat),(∀i r,l[i]? = some r->pK s b (o+(k+i)*1) (r.map (.int .i64)))->(∀r∈l,r=[r.getD 0 0])->pK s b (o+k) (ints (l.map fun r=>r.getD 0 0)):=by
   intro l
   induction l with
   |nil=>intro k _ _;exact trivial
   |cons r l ih=>
    intro k h1 h2;have q:=h1 0 r rfl;rw[h2 r sM] at q;refine⟨?_,?_⟩
    ·have:=q.1;simpa using this
    ·have:=ih (k+1) (fun i r' hr'=>by have:=h1 (i+1) r' (by simpa using hr');rwa [show k+(i+1)=k+1+i by omega] at this) (fun r' hr'=>h2 r' (by simp[hr']))
     rwa [show o+(k+1)=o+k+1 by omega] at this
  have:=key rs 0 (fun i r hr'=>by rw[Nat.zero_add];exact h.cells b o ha i r hr') hr;simpa using this
 ·obtain⟨r,h1,rfl⟩:=List.mem_map.1 hx
  have h2:=h.fit r h1;rw[hr r h1] at h2 ⊢;exact h2 _ sM
end
end Go.Proofs.YtjkdkpckjgaplaaGreat.Ev
namespace Go.Proofs.YtjkdkpckjgaplaaGreat.Ev
open Go Go.RowKit Go.ChangeShapes Go.WideShapes Go.ChangeAt Go.Joins
set_option linter.unusedVariables false
noncomputable section
variable{H:Type}{enc:TypeId×Value->H}
set_option maxRecDepth 100000 in
theorem Mq{W:World}:nJ H Tryz.prog enc W 127 5:=by
 intro base fuel sp held cs x h;obtain⟨xs,m,_,_,hl,hxl,hxi⟩:=DataW.trod_array Tryz.underlying127 h;have e3:Tryz.prog.cellsOf 127=5:=kR
 have e4:Tryz.prog.cellsOf 3=1:=kR
 rw[e3] at hl
 match cs,hl with
 |[c0,c1,c2,c3,c4],_=>
  have g0:=hxi 0 oM;rw[e4] at g0;have g1:=hxi 1 oM;rw[e4] at g1;have g2:=hxi 2 oM;rw[e4] at g2;have g3:=hxi 3 oM;rw[e4] at g3;have g4:=hxi 4 oM;rw[e4] at g4
  match xs,hxl with
  |[y0,y1,y2,y3,y4],_=>
   obtain⟨z0,q0,_,w0⟩:=DataW.trod_int Tryz.underlying3 (show DataW.trod enc Tryz.prog W base sp held m 3 [c0]=some y0 from g0);obtain⟨z1,q1,_,w1⟩:=DataW.trod_int Tryz.underlying3 (show DataW.trod enc Tryz.prog W base sp held m 3 [c1]=some y1 from g1);obtain⟨z2,q2,_,w2⟩:=DataW.trod_int Tryz.underlying3 (show DataW.trod enc Tryz.prog W base sp held m 3 [c2]=some y2 from g2);obtain⟨z3,q3,_,w3⟩:=DataW.trod_int Tryz.underlying3 (show DataW.trod enc Tryz.prog W base sp held m 3 [c3]=some y3 from g3);obtain⟨z4,q4,_,w4⟩:=DataW.trod_int Tryz.underlying3 (show DataW.trod enc Tryz.prog W base sp held m 3 [c4]=some y4 from g4);simp at q0 q1 q2 q3 q4;subst q0;subst q1;subst q2;subst q3;subst q4;exact⟨[z0,z1,z2,z3,z4],rfl,rfl,fun z hz=>by simp at hz;rcases hz with rfl|rfl|rfl|rfl|rfl <;> first|exact oL w0|exact oL w1|exact oL w2|exact oL w3|exact oL w4⟩
set_option maxRecDepth 100000 in
theorem Mr{W:World}:nJ H Tryz.prog enc W 128 4:=by
 intro base fuel sp held cs x h;obtain⟨xs,m,_,_,hl,hxl,hxi⟩:=DataW.trod_array Tryz.underlying128 h;have e3:Tryz.prog.cellsOf 128=4:=kR
 have e4:Tryz.prog.cellsOf 3=1:=kR
 rw[e3] at hl
 match cs,hl with
 |[c0,c1,c2,c3],_=>
  have g0:=hxi 0 oM;rw[e4] at g0;have g1:=hxi 1 oM;rw[e4] at g1;have g2:=hxi 2 oM;rw[e4] at g2;have g3:=hxi 3 oM;rw[e4] at g3
  match xs,hxl with
  |[y0,y1,y2,y3],_=>
   obtain⟨z0,q0,_,w0⟩:=DataW.trod_int Tryz.underlying3 (show DataW.trod enc Tryz.prog W base sp held m 3 [c0]=some y0 from g0);obtain⟨z1,q1,_,w1⟩:=DataW.trod_int Tryz.underlying3 (show DataW.trod enc Tryz.prog W base sp held m 3 [c1]=some y1 from g1);obtain⟨z2,q2,_,w2⟩:=DataW.trod_int Tryz.underlying3 (show DataW.trod enc Tryz.prog W base sp held m 3 [c2]=some y2 from g2);obtain⟨z3,q3,_,w3⟩:=DataW.trod_int Tryz.underlying3 (show DataW.trod enc Tryz.prog W base sp held m 3 [c3]=some y3 from g3);simp at q0 q1 q2 q3;subst q0;subst q1;subst q2;subst q3;exact⟨[z0,z1,z2,z3],rfl,rfl,fun z hz=>by simp at hz;rcases hz with rfl|rfl|rfl|rfl <;> first|exact oL w0|exact oL w1|exact oL w2|exact oL w3⟩
set_option maxRecDepth 100000 in
set_option maxHeartbeats 2000000 in
theorem Ig{W:World}{r:Reach}{b0:Nat}{v:Value}{d:DataW H}{p:List MemPlace}(hv:Value.okWide Tryz.prog W r b0 27 v)(h:DataW.Trod enc Tryz.prog W 0 (fun _=>true) true 27 v d p)(hz:∀x∈DataW.weights Tryz.prog 27 d,x<=reachBytes) :
 ∃a0 n0 c0 r0 a1 n1 c1 r1 a2 n2 c2 r2 a3 n3 c3 r3 z4 z5 z6,v = .agg #[.slice a0 n0 c0,.slice a1 n1 c1,.slice a2 n2 c2,.slice a3 n3 c3,.int .i64 z4,.int .i64 z5,.int .i64 z6]/\r0.length=n0/\NiceS W a0 n0 c0/\RowsE (Bk W) 1 a0 r0/\r1.length=n1/\NiceS W a1 n1 c1/\RowsE (Bk W) 5 a1 r1/\r2.length=n2/\NiceS W a2 n2 c2/\RowsE (Bk W) 4 a2 r2/\r3.length=n3/\NiceS W a3 n3 c3/\RowsE (Bk W) 1 a3 r3/\I64 z4/\I64 z5/\I64 z6:=by
 obtain⟨fuel,hf⟩:=h;simp only[Value.okWide,Tryz.underlying27] at hv;obtain⟨cs,rfl,hsz,ts,hts,_,hc⟩:=hv;have e2:Tryz.prog.cellTypes Tryz.prog.depth 27=some [22,23,24,22,3,3,3]:=kR
 rw[e2] at hts;cases hts;have e3:Tryz.prog.cellsOf 27=7:=kR
 rw[e3] at hsz;obtain⟨l⟩:=cs
 match l,hsz with
 |[x0,x1,x2,x3,x4,x5,x6],_=>
  have u0:∃t,[22,23,24,22,3,3,3][0]? = some t/\Cell.okWide Tryz.prog W r b0 t x0:=by
   obtain⟨t,h1,h2⟩:=hc 0 x0 rfl;exact⟨t,h1,h2⟩
  obtain⟨t0,e0,w0⟩:=u0;have:t0=22:=by simpa using e0.symm
  subst this;have u1:∃t,[22,23,24,22,3,3,3][1]? = some t/\Cell.okWide Tryz.prog W r b0 t x1:=by
   obtain⟨t,h1,h2⟩:=hc 1 x1 rfl;exact⟨t,h1,h2⟩
  obtain⟨t1,e1,w1⟩:=u1;have:t1=23:=by simpa using e1.symm
  subst this;have u2:∃t,[22,23,24,22,3,3,3][2]? = some t/\Cell.okWide Tryz.prog W r b0 t x2:=by
   obtain⟨t,h1,h2⟩:=hc 2 x2 rfl;exact⟨t,h1,h2⟩
  obtain⟨t2,e2,w2⟩:=u2;have:t2=24:=by simpa using e2.symm
  subst this;have u3:∃t,[22,23,24,22,3,3,3][3]? = some t/\Cell.okWide Tryz.prog W r b0 t x3:=by
   obtain⟨t,h1,h2⟩:=hc 3 x3 rfl;exact⟨t,h1,h2⟩
  obtain⟨t3,e3,w3⟩:=u3;have:t3=22:=by simpa using e3.symm
  subst this;have u4:∃t,[22,23,24,22,3,3,3][4]? = some t/\Cell.okWide Tryz.prog W r b0 t x4:=by
   obtain⟨t,h1,h2⟩:=hc 4 x4 rfl;exact⟨t,h1,h2⟩
  obtain⟨t4,e4,w4⟩:=u4;have:t4=3:=by simpa using e4.symm
  subst this;have u5:∃t,[22,23,24,22,3,3,3][5]? = some t/\Cell.okWide Tryz.prog W r b0 t x5:=by
   obtain⟨t,h1,h2⟩:=hc 5 x5 rfl;exact⟨t,h1,h2⟩
  obtain⟨t5,e5,w5⟩:=u5;have:t5=3:=by simpa using e5.symm
  subst this;have u6:∃t,[22,23,24,22,3,3,3][6]? = some t/\Cell.okWide Tryz.prog W r b0 t x6:=by
   obtain⟨t,h1,h2⟩:=hc 6 x6 rfl;exact⟨t,h1,h2⟩
  obtain⟨t6,e6,w6⟩:=u6;have:t6=3:=by simpa using e6.symm
  subst this;obtain⟨xs,m,_,hx,_,hlen,hfs⟩:=DataW.trod_struct Tryz.underlying27 hf;have hd:d = .agg (xs.map (·.1)):=by simpa using congrArg Prod.fst hx
  have g_0:∃y,xs[0]? = some y/\DataW.trod enc Tryz.prog W 0 (fun _=>true) true m 22 [x0]=some y:=by
   have hy:∃y,xs[0]? = some y:=⟨xs[0]'(by rw[hlen];decide),List.getElem?_eq_getElem _⟩;obtain⟨y,hy⟩:=hy;have h4:=hfs 0 _ rfl;rw[hy] at h4;have e4:Tryz.prog.cellsOf 22=1:=kR
   exact⟨y,hy,by simpa [e4,Value.cells] using h4⟩
  obtain⟨⟨d_0,p_0⟩,gy_0,g_0⟩:=g_0;obtain⟨a0,n0,c0,rfl,hN0⟩:=nI Tryz.underlying22 w0;have hz_0:∀x∈DataW.weights Tryz.prog 22 d_0,x<=reachBytes:=fun x hx'=>hz x (by
   rw[hd];simp only[DataW.weights,Tryz.underlying27];exact DataW.weights_mem_each (j:=0) (t:=22) J (by rw[List.getElem?_map,gy_0];rfl) x hx')
  obtain⟨r0,f0,k0,_⟩:=DF (w:=1) (bytes:=8) Tryz.underlying22 kR dE kR dE (dS Tryz.underlying3) hN0 g_0 hz_0;have g_1:∃y,xs[1]? = some y/\DataW.trod enc Tryz.prog W 0 (fun _=>true) true m 23 [x1]=some y:=by
   have hy:∃y,xs[1]? = some y:=⟨xs[1]'(by rw[hlen];decide),List.getElem?_eq_getElem _⟩;obtain⟨y,hy⟩:=hy;have h4:=hfs 1 _ rfl;rw[hy] at h4;have e4:Tryz.prog.cellsOf 23=1:=kR
   exact⟨y,hy,by simpa [e4,Value.cells] using h4⟩
  obtain⟨⟨d_1,p_1⟩,gy_1,g_1⟩:=g_1;obtain⟨a1,n1,c1,rfl,hN1⟩:=nI Tryz.underlying23 w1;have hz_1:∀x∈DataW.weights Tryz.prog 23 d_1,x<=reachBytes:=fun x hx'=>hz x (by
   rw[hd];simp only[DataW.weights,Tryz.underlying27];exact DataW.weights_mem_each (j:=1) (t:=23) J (by rw[List.getElem?_map,gy_1];rfl) x hx')
  obtain⟨r1,f1,k1,_⟩:=DF (w:=5) (bytes:=40) Tryz.underlying23 kR dE kR dE Mq hN1 g_1 hz_1;have g_2:∃y,xs[2]? = some y/\DataW.trod enc Tryz.prog W 0 (fun _=>true) true m 24 [x2]=some y:=by
   have hy:∃y,xs[2]? = some y:=⟨xs[2]'(by rw[hlen];decide),List.getElem?_eq_getElem _⟩;obtain⟨y,hy⟩:=hy;have h4:=hfs 2 _ rfl;rw[hy] at h4;have e4:Tryz.prog.cellsOf 24=1:=kR
   exact⟨y,hy,by simpa [e4,Value.cells] using h4⟩
  obtain⟨⟨d_2,p_2⟩,gy_2,g_2⟩:=g_2;obtain⟨a2,n2,c2,rfl,hN2⟩:=nI Tryz.underlying24 w2;have hz_2:∀x∈DataW.weights Tryz.prog 24 d_2,x<=reachBytes:=fun x hx'=>hz x (by
   rw[hd];simp only[DataW.weights,Tryz.underlying27];exact DataW.weights_mem_each (j:=2) (t:=24) J (by rw[List.getElem?_map,gy_2];rfl) x hx')
  obtain⟨r2,f2,k2,_⟩:=DF (w:=4) (bytes:=32) Tryz.underlying24 kR dE kR dE Mr hN2 g_2 hz_2;have g_3:∃y,xs[3]? = some y/\DataW.trod enc Tryz.prog W 0 (fun _=>true) true m 22 [x3]=some y:=by
   have hy:∃y,xs[3]? = some y:=⟨xs[3]'(by rw[hlen];decide),List.getElem?_eq_getElem _⟩;obtain⟨y,hy⟩:=hy;have h4:=hfs 3 _ rfl;rw[hy] at h4;have e4:Tryz.prog.cellsOf 22=1:=kR
   exact⟨y,hy,by simpa [e4,Value.cells] using h4⟩
  obtain⟨⟨d_3,p_3⟩,gy_3,g_3⟩:=g_3;obtain⟨a3,n3,c3,rfl,hN3⟩:=nI Tryz.underlying22 w3;have hz_3:∀x∈DataW.weights Tryz.prog 22 d_3,x<=reachBytes:=fun x hx'=>hz x (by
   rw[hd];simp only[DataW.weights,Tryz.underlying27];exact DataW.weights_mem_each (j:=3) (t:=22) J (by rw[List.getElem?_map,gy_3];rfl) x hx')
  obtain⟨r3,f3,k3,_⟩:=DF (w:=1) (bytes:=8) Tryz.underlying22 kR dE kR dE (dS Tryz.underlying3) hN3 g_3 hz_3;have g_4:∃y,xs[4]? = some y/\DataW.trod enc Tryz.prog W 0 (fun _=>true) true m 25 [x4,x5,x6]=some y:=by
   have hy:∃y,xs[4]? = some y:=⟨xs[4]'(by rw[hlen];decide),List.getElem?_eq_getElem _⟩;obtain⟨y,hy⟩:=hy;have h4:=hfs 4 _ rfl;rw[hy] at h4;have e4:Tryz.prog.cellsOf 25=3:=kR
   exact⟨y,hy,by simpa [e4,Value.cells] using h4⟩
  obtain⟨⟨d_4,p_4⟩,gy_4,g_4⟩:=g_4;have hz_4:∀x∈DataW.weights Tryz.prog 25 d_4,x<=reachBytes:=fun x hx'=>hz x (by
   rw[hd];simp only[DataW.weights,Tryz.underlying27];exact DataW.weights_mem_each (j:=4) (t:=25) J (by rw[List.getElem?_map,gy_4];rfl) x hx')
  obtain⟨xs_4,m_4,_,hx_4,_,hlen_4,hfs_4⟩:=DataW.trod_array Tryz.underlying25 g_4;have hd_4:d_4 = .agg (xs_4.map (·.1)):=by simpa using congrArg Prod.fst hx_4
  have g_4_0:∃y,xs_4[0]? = some y/\DataW.trod enc Tryz.prog W 0 (fun _=>true) true m_4 3 [x4]=some y:=by
   have hy:∃y,xs_4[0]? = some y:=⟨xs_4[0]'(by rw[hlen_4];decide),List.getElem?_eq_getElem _⟩;obtain⟨y,hy⟩:=hy;have h4:=hfs_4 0 oM;rw[hy] at h4;have e4:Tryz.prog.cellsOf 3=1:=kR
   exact⟨y,hy,by simpa [e4,Value.cells] using h4⟩
  obtain⟨⟨d_4_0,p_4_0⟩,gy_4_0,g_4_0⟩:=g_4_0;obtain⟨l_4_0,q_4_0,ql_4_0,wf_4_0⟩:=dS (P:=Tryz.prog) Tryz.underlying3 g_4_0;obtain⟨z4,rfl⟩:∃z,l_4_0=[z]:=by
   match l_4_0,ql_4_0 with
   |[z],_=>exact⟨z,rfl⟩
  simp at q_4_0;subst q_4_0;have hi4:I64 z4:=wf_4_0 _ sM;have g_4_1:∃y,xs_4[1]? = some y/\DataW.trod enc Tryz.prog W 0 (fun _=>true) true m_4 3 [x5]=some y:=by
   have hy:∃y,xs_4[1]? = some y:=⟨xs_4[1]'(by rw[hlen_4];decide),List.getElem?_eq_getElem _⟩;obtain⟨y,hy⟩:=hy;have h4:=hfs_4 1 oM;rw[hy] at h4;have e4:Tryz.prog.cellsOf 3=1:=kR
   exact⟨y,hy,by simpa [e4,Value.cells] using h4⟩
  obtain⟨⟨d_4_1,p_4_1⟩,gy_4_1,g_4_1⟩:=g_4_1;obtain⟨l_4_1,q_4_1,ql_4_1,wf_4_1⟩:=dS (P:=Tryz.prog) Tryz.underlying3 g_4_1;obtain⟨z5,rfl⟩:∃z,l_4_1=[z]:=by
   match l_4_1,ql_4_1 with
   |[z],_=>exact⟨z,rfl⟩
  simp at q_4_1;subst q_4_1;have hi5:I64 z5:=wf_4_1 _ sM;have g_4_2:∃y,xs_4[2]? = some y/\DataW.trod enc Tryz.prog W 0 (fun _=>true) true m_4 3 [x6]=some y:=by
   have hy:∃y,xs_4[2]? = some y:=⟨xs_4[2]'(by rw[hlen_4];decide),List.getElem?_eq_getElem _⟩;obtain⟨y,hy⟩:=hy;have h4:=hfs_4 2 oM;rw[hy] at h4;have e4:Tryz.prog.cellsOf 3=1:=kR
   exact⟨y,hy,by simpa [e4,Value.cells] using h4⟩
  obtain⟨⟨d_4_2,p_4_2⟩,gy_4_2,g_4_2⟩:=g_4_2;obtain⟨l_4_2,q_4_2,ql_4_2,wf_4_2⟩:=dS (P:=Tryz.prog) Tryz.underlying3 g_4_2;obtain⟨z6,rfl⟩:∃z,l_4_2=[z]:=by
   match l_4_2,ql_4_2 with
   |[z],_=>exact⟨z,rfl⟩
  simp at q_4_2;subst q_4_2;have hi6:I64 z6:=wf_4_2 _ sM;exact⟨a0,n0,c0,r0,a1,n1,c1,r1,a2,n2,c2,r2,a3,n3,c3,r3,z4,z5,z6,rfl,f0,hN0,k0,f1,hN1,k1,f2,hN2,k2,f3,hN3,k3,hi4,hi5,hi6⟩
end
end Go.Proofs.YtjkdkpckjgaplaaGreat.Ev
namespace Go.Proofs.YtjkdkpckjgaplaaGreat.Ev
open Go Go.RowKit Go.ChangeShapes Go.WideShapes Go.ChangeAt Go.Joins
set_option linter.unusedVariables false
noncomputable section
theorem Ms{H:Type}{enc:TypeId×Value->H}{W:World}:nJ H Tryz.prog enc W 165 2:=
 yE (ws:=[1,1]) Tryz.underlying165 kR (fun i f hf=>by
  match i,hf with
  |0,hf=>cases hf;exact⟨1,rfl,kR,rfl,dS Tryz.underlying3⟩
  |1,hf=>cases hf;exact⟨1,rfl,kR,rfl,dS Tryz.underlying3⟩
  |n+2,hf=>simp at hf) rfl
set_option maxRecDepth 100000 in
set_option maxHeartbeats 2000000 in
theorem Fh{H:Type}{enc:TypeId×Value->H}{W:World}{r:Reach}{b0:Nat}{v:Value}{d:DataW H}{p:List MemPlace}(hv:Value.okWide Tryz.prog W r b0 64 v)(h:DataW.Trod enc Tryz.prog W 0 (fun _=>true) true 64 v d p)(hz:∀x∈DataW.weights Tryz.prog 64 d,x<=reachBytes) :
 ∃z0 z1 z2 z3 z4 z5 a6 n6 c6 r6,v = .agg #[.int .i64 z0,.int .i64 z1,.int .i64 z2,.bool z3,.int .i64 z4,.int .i64 z5,.slice a6 n6 c6]/\r6.length=n6/\NiceS W a6 n6 c6/\RowsE (Bk W) 2 a6 r6:=by
 obtain⟨fuel,hf⟩:=h;simp only[Value.okWide,Tryz.underlying64] at hv;obtain⟨cs,rfl,hsz,ts,hts,_,hc⟩:=hv;have e2:Tryz.prog.cellTypes Tryz.prog.depth 64=some [3,3,3,4,3,3,60]:=kR
 rw[e2] at hts;cases hts;have e3:Tryz.prog.cellsOf 64=7:=kR
 rw[e3] at hsz;obtain⟨l⟩:=cs
 match l,hsz with
 |[x0,x1,x2,x3,x4,x5,x6],_=>
  have u0:∃t,[3,3,3,4,3,3,60][0]? = some t/\Cell.okWide Tryz.prog W r b0 t x0:=by
   obtain⟨t,h1,h2⟩:=hc 0 x0 rfl;exact⟨t,h1,h2⟩
  obtain⟨t0,e0,w0⟩:=u0;have:t0=3:=by simpa using e0.symm
  subst this;have u1:∃t,[3,3,3,4,3,3,60][1]? = some t/\Cell.okWide Tryz.prog W r b0 t x1:=by
   obtain⟨t,h1,h2⟩:=hc 1 x1 rfl;exact⟨t,h1,h2⟩
  obtain⟨t1,e1,w1⟩:=u1;have:t1=3:=by simpa using e1.symm
  subst this;have u2:∃t,[3,3,3,4,3,3,60][2]? = some t/\Cell.okWide Tryz.prog W r b0 t x2:=by
   obtain⟨t,h1,h2⟩:=hc 2 x2 rfl;exact⟨t,h1,h2⟩
  obtain⟨t2,e2,w2⟩:=u2;have:t2=3:=by simpa using e2.symm
  subst this;have u3:∃t,[3,3,3,4,3,3,60][3]? = some t/\Cell.okWide Tryz.prog W r b0 t x3:=by
   obtain⟨t,h1,h2⟩:=hc 3 x3 rfl;exact⟨t,h1,h2⟩
  obtain⟨t3,e3,w3⟩:=u3;have:t3=4:=by simpa using e3.symm
  subst this;have u4:∃t,[3,3,3,4,3,3,60][4]? = some t/\Cell.okWide Tryz.prog W r b0 t x4:=by
   obtain⟨t,h1,h2⟩:=hc 4 x4 rfl;exact⟨t,h1,h2⟩
  obtain⟨t4,e4,w4⟩:=u4;have:t4=3:=by simpa using e4.symm
  subst this;have u5:∃t,[3,3,3,4,3,3,60][5]? = some t/\Cell.okWide Tryz.prog W r b0 t x5:=by
   obtain⟨t,h1,h2⟩:=hc 5 x5 rfl;exact⟨t,h1,h2⟩
  obtain⟨t5,e5,w5⟩:=u5;have:t5=3:=by simpa using e5.symm
  subst this;have u6:∃t,[3,3,3,4,3,3,60][6]? = some t/\Cell.okWide Tryz.prog W r b0 t x6:=by
   obtain⟨t,h1,h2⟩:=hc 6 x6 rfl;exact⟨t,h1,h2⟩
  obtain⟨t6,e6,w6⟩:=u6;have:t6=60:=by simpa using e6.symm
  subst this;obtain⟨xs,m,_,hx,_,hlen,hfs⟩:=DataW.trod_struct Tryz.underlying64 hf;have hd:d = .agg (xs.map (·.1)):=by simpa using congrArg Prod.fst hx
  have g_0:∃y,xs[0]? = some y/\DataW.trod enc Tryz.prog W 0 (fun _=>true) true m 59 [x0,x1,x2]=some y:=by
   have hy:∃y,xs[0]? = some y:=⟨xs[0]'(by rw[hlen];decide),List.getElem?_eq_getElem _⟩;obtain⟨y,hy⟩:=hy;have h4:=hfs 0 _ rfl;rw[hy] at h4;have e4:Tryz.prog.cellsOf 59=3:=kR
   exact⟨y,hy,by simpa [e4,Value.cells] using h4⟩
  obtain⟨⟨d_0,p_0⟩,gy_0,g_0⟩:=g_0;have hz_0:∀x∈DataW.weights Tryz.prog 59 d_0,x<=reachBytes:=fun x hx'=>hz x (by
   rw[hd];simp only[DataW.weights,Tryz.underlying64];exact DataW.weights_mem_each (j:=0) (t:=59) J (by rw[List.getElem?_map,gy_0];rfl) x hx')
  obtain⟨xs_0,m_0,_,hx_0,_,hlen_0,hfs_0⟩:=DataW.trod_struct Tryz.underlying59 g_0;have hd_0:d_0 = .agg (xs_0.map (·.1)):=by simpa using congrArg Prod.fst hx_0
  have g_0_0:∃y,xs_0[0]? = some y/\DataW.trod enc Tryz.prog W 0 (fun _=>true) true m_0 3 [x0]=some y:=by
   have hy:∃y,xs_0[0]? = some y:=⟨xs_0[0]'(by rw[hlen_0];decide),List.getElem?_eq_getElem _⟩;obtain⟨y,hy⟩:=hy;have h4:=hfs_0 0 _ rfl;rw[hy] at h4;have e4:Tryz.prog.cellsOf 3=1:=kR
   exact⟨y,hy,by simpa [e4,Value.cells] using h4⟩
  obtain⟨⟨d_0_0,p_0_0⟩,gy_0_0,g_0_0⟩:=g_0_0;obtain⟨l_0_0,q_0_0,ql_0_0,wf_0_0⟩:=dS (P:=Tryz.prog) Tryz.underlying3 g_0_0;obtain⟨z0,rfl⟩:∃z,l_0_0=[z]:=by
   match l_0_0,ql_0_0 with
   |[z],_=>exact⟨z,rfl⟩
  simp at q_0_0;subst q_0_0;have g_0_1:∃y,xs_0[1]? = some y/\DataW.trod enc Tryz.prog W 0 (fun _=>true) true m_0 3 [x1]=some y:=by
   have hy:∃y,xs_0[1]? = some y:=⟨xs_0[1]'(by rw[hlen_0];decide),List.getElem?_eq_getElem _⟩;obtain⟨y,hy⟩:=hy;have h4:=hfs_0 1 _ rfl;rw[hy] at h4;have e4:Tryz.prog.cellsOf 3=1:=kR
   exact⟨y,hy,by simpa [e4,Value.cells] using h4⟩
  obtain⟨⟨d_0_1,p_0_1⟩,gy_0_1,g_0_1⟩:=g_0_1;obtain⟨l_0_1,q_0_1,ql_0_1,wf_0_1⟩:=dS (P:=Tryz.prog) Tryz.underlying3 g_0_1;obtain⟨z1,rfl⟩:∃z,l_0_1=[z]:=by
   match l_0_1,ql_0_1 with
   |[z],_=>exact⟨z,rfl⟩
  simp at q_0_1;subst q_0_1;have g_0_2:∃y,xs_0[2]? = some y/\DataW.trod enc Tryz.prog W 0 (fun _=>true) true m_0 3 [x2]=some y:=by
   have hy:∃y,xs_0[2]? = some y:=⟨xs_0[2]'(by rw[hlen_0];decide),List.getElem?_eq_getElem _⟩;obtain⟨y,hy⟩:=hy;have h4:=hfs_0 2 _ rfl;rw[hy] at h4;have e4:Tryz.prog.cellsOf 3=1:=kR
   exact⟨y,hy,by simpa [e4,Value.cells] using h4⟩
  obtain⟨⟨d_0_2,p_0_2⟩,gy_0_2,g_0_2⟩:=g_0_2;obtain⟨l_0_2,q_0_2,ql_0_2,wf_0_2⟩:=dS (P:=Tryz.prog) Tryz.underlying3 g_0_2;obtain⟨z2,rfl⟩:∃z,l_0_2=[z]:=by
   match l_0_2,ql_0_2 with
   |[z],_=>exact⟨z,rfl⟩
  simp at q_0_2;subst q_0_2;have g_1:∃y,xs[1]? = some y/\DataW.trod enc Tryz.prog W 0 (fun _=>true) true m 4 [x3]=some y:=by
   have hy:∃y,xs[1]? = some y:=⟨xs[1]'(by rw[hlen];decide),List.getElem?_eq_getElem _⟩;obtain⟨y,hy⟩:=hy;have h4:=hfs 1 _ rfl;rw[hy] at h4;have e4:Tryz.prog.cellsOf 4=1:=kR
   exact⟨y,hy,by simpa [e4,Value.cells] using h4⟩
  obtain⟨⟨d_1,p_1⟩,gy_1,g_1⟩:=g_1;obtain⟨z3,q_1,_⟩:=DataW.trod_bool Tryz.underlying4 g_1;simp at q_1;subst q_1;have g_2:∃y,xs[2]? = some y/\DataW.trod enc Tryz.prog W 0 (fun _=>true) true m 3 [x4]=some y:=by
   have hy:∃y,xs[2]? = some y:=⟨xs[2]'(by rw[hlen];decide),List.getElem?_eq_getElem _⟩;obtain⟨y,hy⟩:=hy;have h4:=hfs 2 _ rfl;rw[hy] at h4;have e4:Tryz.prog.cellsOf 3=1:=kR
   exact⟨y,hy,by simpa [e4,Value.cells] using h4⟩
  obtain⟨⟨d_2,p_2⟩,gy_2,g_2⟩:=g_2;obtain⟨l_2,q_2,ql_2,wf_2⟩:=dS (P:=Tryz.prog) Tryz.underlying3 g_2;obtain⟨z4,rfl⟩:∃z,l_2=[z]:=by
   match l_2,ql_2 with
   |[z],_=>exact⟨z,rfl⟩
  simp at q_2;subst q_2;have g_3:∃y,xs[3]? = some y/\DataW.trod enc Tryz.prog W 0 (fun _=>true) true m 62 [x5,x6]=some y:=by
   have hy:∃y,xs[3]? = some y:=⟨xs[3]'(by rw[hlen];decide),List.getElem?_eq_getElem _⟩;obtain⟨y,hy⟩:=hy;have h4:=hfs 3 _ rfl;rw[hy] at h4;have e4:Tryz.prog.cellsOf 62=2:=kR
   exact⟨y,hy,by simpa [e4,Value.cells] using h4⟩
  obtain⟨⟨d_3,p_3⟩,gy_3,g_3⟩:=g_3;have hz_3:∀x∈DataW.weights Tryz.prog 62 d_3,x<=reachBytes:=fun x hx'=>hz x (by
   rw[hd];simp only[DataW.weights,Tryz.underlying64];exact DataW.weights_mem_each (j:=3) (t:=62) J (by rw[List.getElem?_map,gy_3];rfl) x hx')
  obtain⟨xs_3,m_3,_,hx_3,_,hlen_3,hfs_3⟩:=DataW.trod_struct Tryz.underlying62 g_3;have hd_3:d_3 = .agg (xs_3.map (·.1)):=by simpa using congrArg Prod.fst hx_3
  have g_3_0:∃y,xs_3[0]? = some y/\DataW.trod enc Tryz.prog W 0 (fun _=>true) true m_3 3 [x5]=some y:=by
   have hy:∃y,xs_3[0]? = some y:=⟨xs_3[0]'(by rw[hlen_3];decide),List.getElem?_eq_getElem _⟩;obtain⟨y,hy⟩:=hy;have h4:=hfs_3 0 _ rfl;rw[hy] at h4;have e4:Tryz.prog.cellsOf 3=1:=kR
   exact⟨y,hy,by simpa [e4,Value.cells] using h4⟩
  obtain⟨⟨d_3_0,p_3_0⟩,gy_3_0,g_3_0⟩:=g_3_0;obtain⟨l_3_0,q_3_0,ql_3_0,wf_3_0⟩:=dS (P:=Tryz.prog) Tryz.underlying3 g_3_0;obtain⟨z5,rfl⟩:∃z,l_3_0=[z]:=by
   match l_3_0,ql_3_0 with
   |[z],_=>exact⟨z,rfl⟩
  simp at q_3_0;subst q_3_0;have g_3_1:∃y,xs_3[1]? = some y/\DataW.trod enc Tryz.prog W 0 (fun _=>true) true m_3 60 [x6]=some y:=by
   have hy:∃y,xs_3[1]? = some y:=⟨xs_3[1]'(by rw[hlen_3];decide),List.getElem?_eq_getElem _⟩;obtain⟨y,hy⟩:=hy;have h4:=hfs_3 1 _ rfl;rw[hy] at h4;have e4:Tryz.prog.cellsOf 60=1:=kR
   exact⟨y,hy,by simpa [e4,Value.cells] using h4⟩
  obtain⟨⟨d_3_1,p_3_1⟩,gy_3_1,g_3_1⟩:=g_3_1;obtain⟨a6,n6,c6,rfl,hN6⟩:=nI Tryz.underlying60 w6;have hz_3_1:∀x∈DataW.weights Tryz.prog 60 d_3_1,x<=reachBytes:=fun x hx'=>hz_3 x (by
   rw[hd_3];simp only[DataW.weights,Tryz.underlying62];exact DataW.weights_mem_each (j:=1) (t:=60) J (by rw[List.getElem?_map,gy_3_1];rfl) x hx')
  obtain⟨r6,f6,k6,_⟩:=DF (w:=2) (bytes:=16) Tryz.underlying60 kR dE kR dE Ms hN6 g_3_1 hz_3_1;exact⟨z0,z1,z2,z3,z4,z5,a6,n6,c6,r6,rfl,f6,hN6,k6⟩
end
end Go.Proofs.YtjkdkpckjgaplaaGreat.Ev
namespace Go.Proofs.YtjkdkpckjgaplaaGreat
open Go Go.RowKit
namespace Ev
set_option maxRecDepth 1000000 in
set_option maxHeartbeats 0 in
theorem Mt:So Tryz.prog cB 60000 6=true:=kR
end Ev
theorem R8(w:World):Calls Tryz.prog 6 #[] w fun e w'=>e = .returned (.bool true)/\Below w.heap.size w w':=Ev.QX Ev.Aw Ev.Mt w
end Go.Proofs.YtjkdkpckjgaplaaGreat
