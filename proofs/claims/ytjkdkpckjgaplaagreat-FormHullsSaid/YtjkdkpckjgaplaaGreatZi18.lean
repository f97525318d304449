import Derived.Test.YtjkdkpckjgaplaaGreatZi17
import Derived.Test.YtjkdkpckjgaplaaGreatZi16
set_option linter.unusedVariables false
set_option linter.unusedSimpArgs false
namespace Go.Proofs.YtjkdkpckjgaplaaGreat
open Go Go.RowKit
namespace Ev
theorem Rs{a b:Int}(ha:-5000000000000000000<=a/\a<=5000000000000000000)(hb:0<b):-5000000000000000000<=a.tdiv b/\a.tdiv b<=5000000000000000000:=HR ha hb
def Ub(M:List (List Int))(n N:Nat)(y0 y1:Nat)(y2:Int):Prop:=y0<=N->y1<=N->hv M n N y1-hv M n N y0<=y2
instance{M:List (List Int)}{n N y0 y1:Nat}{y2:Int}:Decidable (Ub M n N y0 y1 y2):=by unfold Ub;infer_instance
theorem Dg{M:List (List Int)}{n N y0 y1:Nat}{y2:Int}(h:N<y0∨N<y1):Ub M n N y0 y1 y2:=fun h0 h1=>oM
section
variable{X:FuncId->List Value->St->(Value->St->Bool)->Bool}
theorem Ru(n:Nat)(x y:Int)(s:St)(hs:Wf s)(hx:-5000000000000000000<=x/\x<=5000000000000000000)(hy:0<y):bS Tryz.prog (bX bZ) X (n+60) 65 [.int .i64 x,.int .i64 y] s (fun v A=>v = .int .i64 (RX x y)/\A=[]):=by
 refine enter Ql rfl hs ?_;unfold OY;have hq:=Rs hx hy;refine rS (kM J (Q0 (rS (kM J (kM J (kO (pU J J oM oM (kM J (Q0 (rQ (rS (kM J (kM J (kO (vZ J J oM (cX J J (fun h1=>?_) (fun h1=>?_)))))))))))))))))
 ·refine Q0 (Y0 J (rI (kM J (kO (bN J J oM (kM J (Q0 (W0 (rS (kM J (kM J (Q0 (V2 (aU J ⟨congrArg (Value.int .i64) ?_,rfl⟩))))))))))))))
  unfold RX
  first|exact(if_pos oM).symm|exact(if_neg oM).symm
 ·refine Q0 (U0 J (Q1 (W0 (rS (kM J (kM J (Q0 (V2 (aU J ⟨congrArg (Value.int .i64) ?_,rfl⟩)))))))))
  unfold RX
  first|exact(if_pos oM).symm|exact(if_neg oM).symm
theorem TA(n:Nat)(d r al up:Int)(a1 a2:Option Addr)(c1 c2:Nat)(l1 l2:List Int)(a:Option Addr)(cap:Nat)(M:List (List Int))(y0 y1:Nat)(y2 y3:Int)(s:St)(hs:Wf s)(hn:844424930131968<=n)(hl1:aN s a1 l1)(hl2:aN s a2 l2)(hT:pI s a M)(hTl:M.length=l1.length)(hall:gA l2.length M=true)(hm2:1<=l2.length/\l2.length<=9)(hm1:l1.length<=9)(hy0:y0<=1000)(hy1:y1<=1000)(hy2:-20000<=y2/\y2<=20000):bS Tryz.prog (bX bZ) X (n+300) 82 [.agg ⟨[.int .i64 d,.int .i64 r,.slice a1 l1.length c1,.slice a2 l2.length c2,.int .i64 al,.int .i64 up]⟩,.agg ⟨[.slice a M.length cap]⟩,.agg ⟨[.int .i64 (y0:Int),.int .i64 (y1:Int),.int .i64 y2,.int .i64 y3]⟩] s (fun v A=>v = .bool (decide (Ub M l2.length (l2.length*l1.length) y0 y1 y2))/\A=[]):=by
 refine enter QB rfl hs ?_;unfold Px;have hlen1:=hl1.len;have hlen2:=hl2.len;have hlenT:=hT.len;have hN9:l2.length*l1.length<=81:=Nat.le_trans (Nat.mul_le_mul hm2.2 hm1) dE;have hNi:((l2.length*l1.length:Nat):Int)=(l1.length:Int)*(l2.length:Int):=by rw[Int.natCast_mul,Int.mul_comm]
 have hvb:=EE (u:=y0) (show 0<l2.length from oM) hTl hall;have hvc:=EE (u:=y1) (show 0<l2.length from oM) hTl hall;refine rS (aZ J J J (fun b1=>(aZ J J J (fun b2=>(aZ J J J (fun b3=>(kM J (Q0 (rS (cI J dE .h2 J (aI J J (fun s1 h1=>yB _ _ _ _ _ _ _ _ _ _ _ s1 h1.wf oM (hl1.ext hs h1.2.1) (hl2.ext hs h1.2.1) oM) (kM J (Q0 (rQ (rS (aK J (aO J .here rfl (kM J (kO (dL J J (fun h4=>?_) (fun h4=>?_)))))))))))))))))))))
 ·refine kM J (V0 (V0 (V0 (V0 (cB J J J (Q0 (Y0 J (rS (kM J (Q0 (V2 (W3 (aU J ⟨congrArg Value.bool ?_,rfl⟩)))))))))))))
  first
   |exact(decide_eq_true (Dg oM)).symm
   |exact(decide_eq_true (fun _ _=>oM)).symm
   |exact(decide_eq_false (fun q=>absurd (q oM oM) oM)).symm
 ·refine kM J (kG (Q2 J (kG (Y1 J .here rfl (kG (U2 J (kG (dL J J (fun h5=>?_) (fun h5=>?_)))))))))
  ·refine bP J J J (Q0 (Y0 J (rS (kM J (Q0 (V2 (W3 (aU J ⟨congrArg Value.bool ?_,rfl⟩))))))))
   first
    |exact(decide_eq_true (Dg oM)).symm
    |exact(decide_eq_true (fun _ _=>oM)).symm
    |exact(decide_eq_false (fun q=>absurd (q oM oM) oM)).symm
  ·refine bP J J J (Q0 (U0 J (Q1 (W0 (rS (cI J dE .h2 J (cI J dE .h1 J (aK J (aO J .here rfl (cI J dE .h2 J (cI J dE .h1 J (aK J (aO J .here rfl (aK J (aO J .here rfl (aI J J (fun s1 h1=>qC _ _ _ _ _ _ _ _ _ _ _ _ _ _ (y1) s1 h1.wf oM (hl1.ext hs h1.2.1) (hl2.ext hs h1.2.1) (hT.ext hs h1.2.1) hTl hall oM oM oM) (kZ (aL J J .here rfl (by simp[eqV,eqA,eqL,kindEq,aB,V5 hl1.spot,V5 hl2.spot,V5 hT.spot]) (kZ (aL J J .here rfl (by simp[eqV,eqA,eqL,kindEq,aB,V5 hl1.spot,V5 hl2.spot,V5 hT.spot]) (kZ (eZ J J dE .h1 J (by simp[eqL,eqV,eqA,kindEq,aB,V5 hl1.spot,V5 hl2.spot,V5 hT.spot]) (kZ (eZ J J dE .h2 J (by simp[eqL,eqV,eqA,kindEq,aB,V5 hl1.spot,V5 hl2.spot,V5 hT.spot]) (aI J J (fun s1 h1=>qC _ _ _ _ _ _ _ _ _ _ _ _ _ _ (y0) s1 h1.wf oM (hl1.ext hs h1.2.1) (hl2.ext hs h1.2.1) (hT.ext hs h1.2.1) hTl hall oM oM oM) (kZ (aL J J .here rfl (by simp[eqV,eqA,eqL,kindEq,aB,V5 hl1.spot,V5 hl2.spot,V5 hT.spot]) (kO (bN J J oM ?_)))))))))))))))))))))))))))))
   refine kO (fA J J (fun h6=>?_) (fun h6=>?_))
   ·refine kM J (Q0 (V2 (aU J ⟨congrArg Value.bool ?_,rfl⟩)))
    first
     |exact(decide_eq_true (Dg oM)).symm
     |exact(decide_eq_true (fun _ _=>oM)).symm
     |exact(decide_eq_false (fun q=>absurd (q oM oM) oM)).symm
   ·refine kM J (Q0 (V2 (aU J ⟨congrArg Value.bool ?_,rfl⟩)))
    first
     |exact(decide_eq_true (Dg oM)).symm
     |exact(decide_eq_true (fun _ _=>oM)).symm
     |exact(decide_eq_false (fun q=>absurd (q oM oM) oM)).symm
theorem MT(n:Nat)(d r al up:Int)(a1 a2:Option Addr)(c1 c2:Nat)(l1 l2:List Int)(wk ws ww:Int)(a:Option Addr)(cap:Nat)(M:List (List Int))(s:St)(hs:Wf s)(hn:2814749767106560<=n)(hl1:aN s a1 l1)(hl2:aN s a2 l2)(hT:pI s a M)(hcp:jM s a2 l2.length c2):bS Tryz.prog (bX bZ) X (n+3400) 30 [.agg ⟨[.int .i64 d,.int .i64 r,.slice a1 l1.length c1,.slice a2 l2.length c2,.int .i64 al,.int .i64 up]⟩,.agg ⟨[.slice a M.length cap]⟩,.agg ⟨[.int .i64 wk,.int .i64 ws,.int .i64 ww]⟩] s (fun v A=>(¬((1<=d/\d<=99999)/\(1<=r/\r<=99999)/\(0<=al/\al<=100000)/\(0<=up/\up<=100000)/\bW l1 l2=true)/\v = .tuple #[.int .i64 0,.int .i64 30]/\A=[])∨(((1<=d/\d<=99999)/\(1<=r/\r<=99999)/\(0<=al/\al<=100000)/\(0<=up/\up<=100000)/\bW l1 l2=true)/\¬(M.length=l1.length/\gA l2.length M=true)/\v = .tuple #[.int .i64 0,.int .i64 34]/\A=[])∨((((1<=d/\d<=99999)/\(1<=r/\r<=99999)/\(0<=al/\al<=100000)/\(0<=up/\up<=100000)/\bW l1 l2=true)/\M.length=l1.length/\gA l2.length M=true)/\¬((wk=1/\ws=0/\(0<=ww/\ww<=(l2.length:Int)-1)/\0<ww)∨(wk=2/\ws=0/\(0<=ww/\ww<=(l2.length:Int)-1))∨(wk=3/\(0<=ws/\ws<=(l1.length:Int)-1)/\ww=0)∨(wk=4/\(0<=ws/\ws<=(l1.length:Int)-1)/\(0<=ww/\ww<=(l2.length:Int)-1)))/\v = .tuple #[.int .i64 0,.int .i64 33]/\A=[])∨((((1<=d/\d<=99999)/\(1<=r/\r<=99999)/\(0<=al/\al<=100000)/\(0<=up/\up<=100000)/\bW l1 l2=true)/\M.length=l1.length/\gA l2.length M=true)/\((wk=1/\ws=0/\(0<=ww/\ww<=(l2.length:Int)-1)/\0<ww)∨(wk=2/\ws=0/\(0<=ww/\ww<=(l2.length:Int)-1))∨(wk=3/\(0<=ws/\ws<=(l1.length:Int)-1)/\ww=0)∨(wk=4/\(0<=ws/\ws<=(l1.length:Int)-1)/\(0<=ww/\ww<=(l2.length:Int)-1)))/\v = .tuple #[.int .i64 (Rm wk ws ww l1 l2 M),.int .i64 0]/\A=[])):=by
 refine enter P1 rfl hs ?_;unfold Ok;have hlen1:=hl1.len;have hlen2:=hl2.len;have hlenT:=hT.len;refine rS (aZ J J J (fun b1=>(aZ J J J (fun b2=>(aZ J J J (fun b3=>(kM J (kM J (Q0 (rQ (rS (cI J dE .h2 J (kO (fQ J J (fun s1 h1=>uI _ _ _ _ _ _ _ _ _ _ _ s1 h1.wf oM (hl1.ext hs h1.2.1) (hl2.ext hs h1.2.1)) (fun h4=>?_) (fun h4=>?_)))))))))))))))
 ·have hsp:=h4
  have hpl:=h4.2.2.2.2;have hp1:=fG hpl;have hp2:=fR hpl;have hm1:=hp1.hm;have hm2:=hp2.hm;have h22:=hp2.h2;have h21:=hp1.h2;have hN9:l2.length*l1.length<=81:=Nat.le_trans (Nat.mul_le_mul (show l2.length<=9 from oM) (show l1.length<=9 from oM)) dE;refine kO (V3 J J (fun h=>absurd h dE) (fun _=>(Q0 (U0 J (Q1 (W0 (rQ (rS (cI J dE .h2 J (cI J dE .h1 J (kO (gB J J (fun s1 h1=>Cq _ _ _ _ _ _ _ _ _ _ _ _ _ _ s1 h1.wf oM (hl1.ext hs h1.2.1) (hl2.ext hs h1.2.1) (hT.ext hs h1.2.1)) (fun h6=>?_) (fun h6=>?_)))))))))))))
  ·have hih:=h6
   rw[Bool.and_eq_true] at hih;have hTl:M.length=l1.length:=of_decide_eq_true hih.1;have hall:=hih.2;have hin:=MD (n:=l2.length) (m:=l1.length) oM hTl hall;refine eC J (Q0 (U0 J (Q1 (W0 (rQ (rS (cI J dE .h2 J (cI J dE .here rfl (kO (bE J J (fun s1 h1=>Mb _ _ _ _ _ _ _ _ _ _ _ _ _ _ s1 h1.wf oM (hl1.ext hs h1.2.1) (hl2.ext hs h1.2.1)) (fun h7=>?_) (fun h7=>?_)))))))))))
   ·have hw:=h7
    obtain⟨ws,rfl⟩:∃q:Nat,ws=(q:Int):=⟨ws.toNat,oM⟩;obtain⟨ww,rfl⟩:∃q:Nat,ww=(q:Int):=⟨ww.toNat,oM⟩;have hrb:=HS (wk:=wk) hp1 hp2 (h15 hpl) (fun h=>oM) (show ws<l1.length from oM) (show ww<l2.length from oM) oM;have hrb2:eE (eR wk ws ww l1 l2) (eR wk ws ww l1 l2).length<=3600000000000:=(by rw[lV];exact hrb);have hrd:=EB (wk:=wk);have hwl:=lV (wk:=wk) (ws:=ws) (ww:=ww) (l1:=l1) (l2:=l2);refine eC J (Q0 (U0 J (Q1 (W0 (rS (cI J dE .h2 J (cI J dE .here rfl (kO (Z4 J J (fun s1 h1=>FI _ _ _ _ _ _ _ _ _ _ _ _ _ _ s1 h1.wf oM (hl1.ext hs h1.2.1) (hl2.ext hs h1.2.1) hpl hp1 hp2 (hcp.ext hs h1.2.1) hw) (fun v1 A1 q1=>?_))))))))));obtain⟨b8,rfl,rfl⟩:=q1;refine kM J (eP J J (eP J J (kM J (kM J (Q0 (rS (kM J (Q0 (rQ (rS (kM J (Q0 (W1 (U4 (fun j e A=>∃(u:Nat),e=[(3,.pointer (some ⟨b1,0,none⟩)),(4,.pointer (some ⟨b2,0,none⟩)),(5,.pointer (some ⟨b3,0,none⟩)),(8,.slice (some ⟨b8,0,none⟩) (l2.length*l1.length+1) (l2.length*l1.length+1)),(9,.int .i64 (Bq wk)),(10,.int .i64 (wK (eR wk ws ww l1 l2) (hpt M l2.length (l2.length*l1.length)) u)),(11,.int .i64 (u:Int))]/\A=(.row b8 3 false (ints (eR wk ws ww l1 l2))::(.row b3 59 false ([.int .i64 wk,.int .i64 (ws:Int),.int .i64 (ww:Int)])::(.row b2 69 false ([.slice a M.length cap])::(.row b1 33 false ([.int .i64 d,.int .i64 r,.slice a1 l1.length c1,.slice a2 l2.length c2,.int .i64 al,.int .i64 up])::[]))))/\j=l2.length*l1.length+1-u/\1<=u/\u<=l2.length*l1.length+1) 400 1125899906842624 281474976710656 ?_ (j:=_) (env2:=_) (A2:=_) ?_ ?_ ?_ ?_ ⟨1,rfl,rfl,rfl,Nat.le_refl _,Nat.succ_le_succ (Nat.zero_le _)⟩))))))))))))))
    rotate_left
    ·omega
    ·omega
    ·exact(lc 3 J (lc 4 J (lc 5 J (lc 8 J (lc 9 J (lc 10 (by rw[show wK (eR wk ws ww l1 l2) (hpt M l2.length (l2.length*l1.length)) 1=0 from by show(0:Int)+_*0=0;rw[Int.mul_zero];rfl];rfl) (lc 11 J eU.nil)))))))
    ·exact(.q (.q (.q (.q .slnil))))
    rintro n hn j _ _ ⟨u,rfl,rfl,rfl,hu1,hu⟩;refine rQ (rS (kM J (kM J (kO (cO J (cX J J (fun h9=>?_) (fun h9=>?_)))))))
    ·refine Q0 (Y0 J (Q1 (W0 (rQ (W1 (rI (kM J (kM J (kM J (cL (j:=u) J J oM oM (kO (eD J .here (by first|omega|(simp;done)|(simp;omega)) (cI J dE .h3 J (cI J dE .h2 J (kM J (aI J J (fun s1 h1=>qC _ _ _ _ _ _ _ _ _ _ _ _ _ _ (u) s1 h1.wf oM (hl1.ext hs h1.2.1) (hl2.ext hs h1.2.1) (hT.ext hs h1.2.1) hTl hall oM oM oM) (kZ (aL J J .here (oC (by first|omega|(simp;omega))) (by simp[eqV,kindEq,aB]) ?_))))))))))))))))))
     have hd0:=uZ (w:=eR wk ws ww l1 l2) hin EC (k:=u) oM;have ht0:=vA (w:=eR wk ws ww l1 l2) (a:=u) (b:=(eR wk ws ww l1 l2).length) oM;have hd1:=uZ (w:=eR wk ws ww l1 l2) hin EC (k:=u+1) oM;have ht1:=vA (w:=eR wk ws ww l1 l2) (a:=u+1) (b:=(eR wk ws ww l1 l2).length) oM;have hd2:wK (eR wk ws ww l1 l2) (hpt M l2.length (l2.length*l1.length)) (u+1)=wK (eR wk ws ww l1 l2) (hpt M l2.length (l2.length*l1.length)) u+(eR wk ws ww l1 l2).getD u 0*hv M l2.length (l2.length*l1.length) u:=rfl;refine aY J J oM (aW J J oM (kM J (Q0 (Z1 (W0 (rI (kM J (aW J J oM (kM J (Q0 (W0 ?_)))))))))));exact⟨rfl,_,_,_,(show l2.length*l1.length+1-(u+1)<l2.length*l1.length+1-u from oM),lL,(.q (.q (.q (.q .slnil)))),⟨u+1,rfl,rfl,rfl,oM,oM⟩⟩
    ·refine Q0 (U0 J (Y4 (Z2 (Z2 (Q3 (W0 (rS (kM J (kM J ?_)))))))))
     have hd0:=uZ (w:=eR wk ws ww l1 l2) hin EC (k:=u) oM;have ht0:=vA (w:=eR wk ws ww l1 l2) (a:=u) (b:=(eR wk ws ww l1 l2).length) oM;refine aI J J (fun s1 h1=>Ru _ _ _ s1 h1.wf oM oM) (kM J (kM J (Q0 (V2 ?_))));obtain rfl:u=l2.length*l1.length+1:=oM
     exact pF J J (.inr (.inr (.inr ⟨⟨hsp,hTl,hall⟩,hw,rfl,rfl⟩)))
   ·refine eC J (Q0 (Y0 J (rS (kM J (kM J (Q0 (V2 (W3 ?_))))))))
    exact pF J J (.inr (.inr (.inl ⟨⟨hsp,hTl,hall⟩,aM,rfl,rfl⟩)))
  ·have hih:=h6
   refine eC J (Q0 (Y0 J (rS (kM J (kM J (Q0 (V2 (W3 ?_))))))));exact pF J J (.inr (.inl ⟨hsp,(fun q=>by (rw[decide_eq_true q.1,q.2] at hih;cases hih)),rfl,rfl⟩))
 ·refine kO (V3 J J (fun _=>(Q0 (Y0 J (rS (kM J (kM J (Q0 (V2 (W3 ?_))))))))) (fun h=>absurd h dE))
  exact pF J J (.inl ⟨aM,rfl,rfl⟩)
end
variable{x:List Int}{ls:List (List Int)}{k j:Nat}{y2 y3 m z:Int}
def Au(x:List Int):List (List Int)->Bool
 |[]=>true
 |[y0,y1,y2,_]::rs=>decide (x.getD y1.toNat 0-x.getD y0.toNat 0<=y2) && Au x rs
 |_::_=>false
theorem Dh{y0 y1 y2 y3:Int}(h:ls[k]? = some [y0,y1,y2,y3]):Au x (ls.drop k)=(decide (x.getD y1.toNat 0-x.getD y0.toNat 0<=y2) && Au x (ls.drop (k+1))):=by
 obtain⟨hk,e⟩:=List.getElem?_eq_some_iff.1 h;rw[List.drop_eq_getElem_cons hk,e];rfl
theorem yG(h:Au x ls=Au x (ls.drop k))(hk:ls.length<=k):Au x ls=true:=by
 rw[h,List.drop_eq_nil_of_le hk];rfl
theorem yH{k u0 u1:Nat}(hx:ls[k]? = some [(u0:Int),(u1:Int),y2,y3])(h:Au x ls=Au x (ls.drop k))(hb:¬x.getD u1 0-x.getD u0 0<=y2):Au x ls=false:=by
 rw[h,Dh hx,Int.toNat_natCast,Int.toNat_natCast,decide_eq_false hb];rfl
theorem Rv{k u0 u1:Nat}(hx:ls[k]? = some [(u0:Int),(u1:Int),y2,y3])(h:Au x ls=Au x (ls.drop k))(hb:x.getD u1 0-x.getD u0 0<=y2):Au x ls=Au x (ls.drop (k+1)):=by
 rw[h,Dh hx,Int.toNat_natCast,Int.toNat_natCast,decide_eq_true hb];rfl
def IN(m:Int)(ls:List (List Int))(x:List Int):Bool:=decide ((x.length:Int)=m+1/\x.getD 0 0=0) && jQ (-1000000000) 1000000000 x && Au x ls
theorem yI(h:¬((x.length:Int)=m+1/\x.getD 0 0=0)):IN m ls x=false:=by unfold IN;rw[decide_eq_false h];rfl
theorem yJ(h:jQ (-1000000000) 1000000000 x=false):IN m ls x=false:=by unfold IN;rw[h];simp
theorem yK(h:Au x ls=false):IN m ls x=false:=by unfold IN;rw[h];simp
theorem yL(h:(x.length:Int)=m+1/\x.getD 0 0=0)(h2:jQ (-1000000000) 1000000000 x=true)(h3:Au x ls=true):IN m ls x=true:=by unfold IN;rw[decide_eq_true h,h2,h3];rfl
theorem MU(h:gR m ls=0):0<=m/\m<=64/\(ls.length:Int)<=400/\nP m ls=true:=by
 unfold gR at h;split at h
 ·split at h
  ·cases h
  ·split at h
   ·exact⟨oM,oM,oM,aM⟩
   ·cases h
 ·cases h
theorem Di(h1:0<=m/\m<=64)(h2:(ls.length:Int)<=400)(h3:nP m ls=true):gR m ls=0:=by
 unfold gR;rw[if_pos h1,if_neg oM,if_pos h3]
theorem Rw{P:Program}{C:Nat->(CF->Bool)->Bool}{X:FuncId->List Value->St->(Value->St->Bool)->Bool}{s0:St}{n nt:Nat}{env:List (Nat×Value)}{A:List Ob}{R:Value->List Ob->Prop}{x y:Ev.X}{b cap n' c':Nat}{a':Option Addr}(hx:xv env x=some (.slice (some ⟨b,0,none⟩) 0 cap))(hy:xv env y=some (.slice a' n' c'))(hsp:∀b,a'=some b->b.spot=none)(hn':a'=none->n'=0)(h:R (.int .i64 0) A):fU P C X s0 n nt (.copy 1 x y) env A R:=.mk fun s hs T hT k hk=>by
 refine U5 hT (k:=fun x=>bQ T y (fun y=>uG s 1 x y k)) hx (U5 hT (k:=fun y=>uG s 1 _ y k) hy ?_);have e:uG s 1 (.slice (some ⟨b,0,none⟩) 0 cap) (.slice a' n' c') k=k (.int .i64 0) s:=by
  cases a' with
  |none=>
   show ifB (Nat.beq n' 0) (k (.int .i64 0) s) false=_;rw[hn' rfl];rfl
  |some q=>
   obtain⟨b',o',sp⟩:=q;have:sp=none:=hsp _ rfl;subst this;have hz:∀K:Nat->Bool,IT n' 0 K=K 0:=fun K=>by
    unfold IT;cases n' with
    |zero=>rfl
    |succ n'=>rfl
   unfold uG fO wU;dsimp only;rw[hz];rfl
 rw[e];exact hk _ _ ⟨_,hs,h⟩
set_option maxRecDepth 100000
theorem Vy:∀m:Nat,m<=65->evBin Tryz.prog .and 210 0 (.int .u64 (m:Int)) (.int .u64 4294967295)=some (.int .u64 (m:Int))
 |0,_=>kR
 |1,_=>kR
 |2,_=>kR
 |3,_=>kR
 |4,_=>kR
 |5,_=>kR
 |6,_=>kR
 |7,_=>kR
 |8,_=>kR
 |9,_=>kR
 |10,_=>kR
 |11,_=>kR
 |12,_=>kR
 |13,_=>kR
 |14,_=>kR
 |15,_=>kR
 |16,_=>kR
 |17,_=>kR
 |18,_=>kR
 |19,_=>kR
 |20,_=>kR
 |21,_=>kR
 |22,_=>kR
 |23,_=>kR
 |24,_=>kR
 |25,_=>kR
 |26,_=>kR
 |27,_=>kR
 |28,_=>kR
 |29,_=>kR
 |30,_=>kR
 |31,_=>kR
 |32,_=>kR
 |33,_=>kR
 |34,_=>kR
 |35,_=>kR
 |36,_=>kR
 |37,_=>kR
 |38,_=>kR
 |39,_=>kR
 |40,_=>kR
 |41,_=>kR
 |42,_=>kR
 |43,_=>kR
 |44,_=>kR
 |45,_=>kR
 |46,_=>kR
 |47,_=>kR
 |48,_=>kR
 |49,_=>kR
 |50,_=>kR
 |51,_=>kR
 |52,_=>kR
 |53,_=>kR
 |54,_=>kR
 |55,_=>kR
 |56,_=>kR
 |57,_=>kR
 |58,_=>kR
 |59,_=>kR
 |60,_=>kR
 |61,_=>kR
 |62,_=>kR
 |63,_=>kR
 |64,_=>kR
 |65,_=>kR
 |n+66,h=>absurd h oM
theorem RY:∀m:Nat,m<=65->evBin Tryz.prog .shr 210 0 (.int .u64 (m:Int)) (.int .u64 32)=some (.int .u64 0)
 |0,_=>kR
 |1,_=>kR
 |2,_=>kR
 |3,_=>kR
 |4,_=>kR
 |5,_=>kR
 |6,_=>kR
 |7,_=>kR
 |8,_=>kR
 |9,_=>kR
 |10,_=>kR
 |11,_=>kR
 |12,_=>kR
 |13,_=>kR
 |14,_=>kR
 |15,_=>kR
 |16,_=>kR
 |17,_=>kR
 |18,_=>kR
 |19,_=>kR
 |20,_=>kR
 |21,_=>kR
 |22,_=>kR
 |23,_=>kR
 |24,_=>kR
 |25,_=>kR
 |26,_=>kR
 |27,_=>kR
 |28,_=>kR
 |29,_=>kR
 |30,_=>kR
 |31,_=>kR
 |32,_=>kR
 |33,_=>kR
 |34,_=>kR
 |35,_=>kR
 |36,_=>kR
 |37,_=>kR
 |38,_=>kR
 |39,_=>kR
 |40,_=>kR
 |41,_=>kR
 |42,_=>kR
 |43,_=>kR
 |44,_=>kR
 |45,_=>kR
 |46,_=>kR
 |47,_=>kR
 |48,_=>kR
 |49,_=>kR
 |50,_=>kR
 |51,_=>kR
 |52,_=>kR
 |53,_=>kR
 |54,_=>kR
 |55,_=>kR
 |56,_=>kR
 |57,_=>kR
 |58,_=>kR
 |59,_=>kR
 |60,_=>kR
 |61,_=>kR
 |62,_=>kR
 |63,_=>kR
 |64,_=>kR
 |65,_=>kR
 |n+66,h=>absurd h oM
theorem MV:∀m:Nat,m<=65->evBin Tryz.prog .mul 210 0 (.int .u64 1) (.int .u64 (m:Int))=some (.int .u64 (m:Int))
 |0,_=>kR
 |1,_=>kR
 |2,_=>kR
 |3,_=>kR
 |4,_=>kR
 |5,_=>kR
 |6,_=>kR
 |7,_=>kR
 |8,_=>kR
 |9,_=>kR
 |10,_=>kR
 |11,_=>kR
 |12,_=>kR
 |13,_=>kR
 |14,_=>kR
 |15,_=>kR
 |16,_=>kR
 |17,_=>kR
 |18,_=>kR
 |19,_=>kR
 |20,_=>kR
 |21,_=>kR
 |22,_=>kR
 |23,_=>kR
 |24,_=>kR
 |25,_=>kR
 |26,_=>kR
 |27,_=>kR
 |28,_=>kR
 |29,_=>kR
 |30,_=>kR
 |31,_=>kR
 |32,_=>kR
 |33,_=>kR
 |34,_=>kR
 |35,_=>kR
 |36,_=>kR
 |37,_=>kR
 |38,_=>kR
 |39,_=>kR
 |40,_=>kR
 |41,_=>kR
 |42,_=>kR
 |43,_=>kR
 |44,_=>kR
 |45,_=>kR
 |46,_=>kR
 |47,_=>kR
 |48,_=>kR
 |49,_=>kR
 |50,_=>kR
 |51,_=>kR
 |52,_=>kR
 |53,_=>kR
 |54,_=>kR
 |55,_=>kR
 |56,_=>kR
 |57,_=>kR
 |58,_=>kR
 |59,_=>kR
 |60,_=>kR
 |61,_=>kR
 |62,_=>kR
 |63,_=>kR
 |64,_=>kR
 |65,_=>kR
 |n+66,h=>absurd h oM
theorem TB:∀m:Nat,m<=65->evBin Tryz.prog .mul 210 0 (.int .u64 0) (.int .u64 (m:Int))=some (.int .u64 0)
 |0,_=>kR
 |1,_=>kR
 |2,_=>kR
 |3,_=>kR
 |4,_=>kR
 |5,_=>kR
 |6,_=>kR
 |7,_=>kR
 |8,_=>kR
 |9,_=>kR
 |10,_=>kR
 |11,_=>kR
 |12,_=>kR
 |13,_=>kR
 |14,_=>kR
 |15,_=>kR
 |16,_=>kR
 |17,_=>kR
 |18,_=>kR
 |19,_=>kR
 |20,_=>kR
 |21,_=>kR
 |22,_=>kR
 |23,_=>kR
 |24,_=>kR
 |25,_=>kR
 |26,_=>kR
 |27,_=>kR
 |28,_=>kR
 |29,_=>kR
 |30,_=>kR
 |31,_=>kR
 |32,_=>kR
 |33,_=>kR
 |34,_=>kR
 |35,_=>kR
 |36,_=>kR
 |37,_=>kR
 |38,_=>kR
 |39,_=>kR
 |40,_=>kR
 |41,_=>kR
 |42,_=>kR
 |43,_=>kR
 |44,_=>kR
 |45,_=>kR
 |46,_=>kR
 |47,_=>kR
 |48,_=>kR
 |49,_=>kR
 |50,_=>kR
 |51,_=>kR
 |52,_=>kR
 |53,_=>kR
 |54,_=>kR
 |55,_=>kR
 |56,_=>kR
 |57,_=>kR
 |58,_=>kR
 |59,_=>kR
 |60,_=>kR
 |61,_=>kR
 |62,_=>kR
 |63,_=>kR
 |64,_=>kR
 |65,_=>kR
 |n+66,h=>absurd h oM
theorem TC:∀m:Nat,m<=65->ev1 Tryz.prog (convert 3 157) (.int .i64 (m:Int))=some (.int .u64 (m:Int))
 |0,_=>kR
 |1,_=>kR
 |2,_=>kR
 |3,_=>kR
 |4,_=>kR
 |5,_=>kR
 |6,_=>kR
 |7,_=>kR
 |8,_=>kR
 |9,_=>kR
 |10,_=>kR
 |11,_=>kR
 |12,_=>kR
 |13,_=>kR
 |14,_=>kR
 |15,_=>kR
 |16,_=>kR
 |17,_=>kR
 |18,_=>kR
 |19,_=>kR
 |20,_=>kR
 |21,_=>kR
 |22,_=>kR
 |23,_=>kR
 |24,_=>kR
 |25,_=>kR
 |26,_=>kR
 |27,_=>kR
 |28,_=>kR
 |29,_=>kR
 |30,_=>kR
 |31,_=>kR
 |32,_=>kR
 |33,_=>kR
 |34,_=>kR
 |35,_=>kR
 |36,_=>kR
 |37,_=>kR
 |38,_=>kR
 |39,_=>kR
 |40,_=>kR
 |41,_=>kR
 |42,_=>kR
 |43,_=>kR
 |44,_=>kR
 |45,_=>kR
 |46,_=>kR
 |47,_=>kR
 |48,_=>kR
 |49,_=>kR
 |50,_=>kR
 |51,_=>kR
 |52,_=>kR
 |53,_=>kR
 |54,_=>kR
 |55,_=>kR
 |56,_=>kR
 |57,_=>kR
 |58,_=>kR
 |59,_=>kR
 |60,_=>kR
 |61,_=>kR
 |62,_=>kR
 |63,_=>kR
 |64,_=>kR
 |65,_=>kR
 |n+66,h=>absurd h oM
theorem TD:∀m:Nat,m<=65->ev1 Tryz.prog (convert 157 3) (.int .u64 (m:Int))=some (.int .i64 (m:Int))
 |0,_=>kR
 |1,_=>kR
 |2,_=>kR
 |3,_=>kR
 |4,_=>kR
 |5,_=>kR
 |6,_=>kR
 |7,_=>kR
 |8,_=>kR
 |9,_=>kR
 |10,_=>kR
 |11,_=>kR
 |12,_=>kR
 |13,_=>kR
 |14,_=>kR
 |15,_=>kR
 |16,_=>kR
 |17,_=>kR
 |18,_=>kR
 |19,_=>kR
 |20,_=>kR
 |21,_=>kR
 |22,_=>kR
 |23,_=>kR
 |24,_=>kR
 |25,_=>kR
 |26,_=>kR
 |27,_=>kR
 |28,_=>kR
 |29,_=>kR
 |30,_=>kR
 |31,_=>kR
 |32,_=>kR
 |33,_=>kR
 |34,_=>kR
 |35,_=>kR
 |36,_=>kR
 |37,_=>kR
 |38,_=>kR
 |39,_=>kR
 |40,_=>kR
 |41,_=>kR
 |42,_=>kR
 |43,_=>kR
 |44,_=>kR
 |45,_=>kR
 |46,_=>kR
 |47,_=>kR
 |48,_=>kR
 |49,_=>kR
 |50,_=>kR
 |51,_=>kR
 |52,_=>kR
 |53,_=>kR
 |54,_=>kR
 |55,_=>kR
 |56,_=>kR
 |57,_=>kR
 |58,_=>kR
 |59,_=>kR
 |60,_=>kR
 |61,_=>kR
 |62,_=>kR
 |63,_=>kR
 |64,_=>kR
 |65,_=>kR
 |n+66,h=>absurd h oM
def rr(z:Int)(m k:Nat):List Int:=List.replicate k z++List.replicate (m-k) 0
theorem Dj{m k:Nat}(h:k<=m):(rr z m k).length=m:=by simp[rr];omega
theorem TE{m:Nat}:rr z m m=List.replicate m z:=by simp[rr]
theorem HW{m k j:Nat}(h:k+j<=m):over (ints (rr z m k)) k (ints (List.replicate j z))=ints (rr z m (k+j)):=by
 unfold over ints rr;rw[<-List.map_take,<-List.map_drop,<-List.map_append,<-List.map_append]
 congr 1
 rw[List.length_map,List.length_replicate,List.take_left' sM,List.drop_append,List.drop_eq_nil_of_le sM,List.nil_append,List.drop_replicate,List.length_replicate,<-List.replicate_append_replicate];rw[show m-k-(k+j-k)=m-(k+j) by omega]
theorem Rx{m:Nat}:List.replicate m 0=rr z m 0:=by simp[rr]
theorem MW{l:List Value}(h:j<=l.length):∀{i:Nat},i+j<=l.length->iA l i j=some ((l.drop i).take j):=by
 induction j with
 |zero=>intro i _;simp[iA]
 |succ j ih=>
  intro i hi;have h1:i<l.length:=oM
  unfold iA;rw[List.getElem?_eq_getElem h1,ih oM (i:=i+1) oM,List.drop_eq_getElem_cons h1];rfl
theorem TF{m k j:Nat}(hj:j<=k)(hk:k<=m):iA (ints (rr z m k)) 0 (ints (List.replicate j z)).length=some (ints (List.replicate j z)):=by
 rw[bO,List.length_replicate,MW (by rw[bO,Dj hk];omega) (by rw[bO,Dj hk];omega)];unfold ints rr;rw[List.drop_zero,<-List.map_take,List.take_append_of_le_length (by simpa using hj),List.take_replicate,Nat.min_eq_left hj]
section
variable{X:FuncId->List Value->St->(Value->St->Bool)->Bool}
theorem BM(n:Nat)(m y0 y1 y2 y3:Int)(s:St)(hs:Wf s):bS Tryz.prog (bX bZ) X (n+100) 169 [.int .i64 m,.agg ⟨[.int .i64 y0,.int .i64 y1,.int .i64 y2,.int .i64 y3]⟩] s (fun v A=>v = .int .i64 (if (0<=m/\m<=64)/\(0<=y0/\y0<=m)/\(0<=y1/\y1<=m)/\¬y0=y1/\(-20000<=y2/\y2<=20000)/\(1<=y3/\y3<=99999) then 0 else 20)/\A=[]):=by
 refine enter Lt rfl hs ?_;unfold GU;refine rS (aZ J J J (fun b1=>(kM J (Q0 (rS (kM J (kO (bE J J (fun s1 h1=>kP _ _ _ _ s1 h1.wf) (fun h2=>?_) (fun h2=>?_)))))))))
 ·refine kM J (kG (Q2 J (kG (Y1 J .here rfl (kG (U2 J (kG (bE J J (fun s1 h1=>kP _ _ _ _ s1 h1.wf) (fun h3=>?_) (fun h3=>?_)))))))))
  ·refine cB J J J (kM J (kG (Q2 J (kG (Y1 J .here rfl (kG (U2 J (kG (bE J J (fun s1 h1=>kP _ _ _ _ s1 h1.wf) (fun h4=>?_) (fun h4=>?_))))))))))
   ·refine cB J J J (kM J (kG (Q2 J (kG (Y1 J .here rfl (kG (Q2 J (kG (Y1 J .here rfl (kG (V3 J J (fun h5=>?_) (fun h5=>?_))))))))))))
    ·refine cB J J J (kM J (kG (Q2 J (kG (Y1 J .here rfl (kG (bE J J (fun s1 h1=>kP _ _ _ _ s1 h1.wf) (fun h6=>?_) (fun h6=>?_))))))))
     ·refine cB J J J (kM J (kG (Q2 J (kG (Y1 J .here rfl (kG (bE J J (fun s1 h1=>kP _ _ _ _ s1 h1.wf) (fun h7=>?_) (fun h7=>?_))))))))
      ·refine cB J J J (kM J (Q0 (rQ (rS (kM J (eC J (Q0 (U0 J (Q1 (W0 (rS (kM J (Q0 (V2 (aU J ⟨congrArg (Value.int .i64) ?_,rfl⟩)))))))))))))))
       first|exact(if_pos oM).symm|exact(if_neg oM).symm
      ·refine cB J J J (kM J (Q0 (rQ (rS (kM J (eC J (Q0 (Y0 J (rS (kM J (Q0 (V2 (W3 (aU J ⟨congrArg (Value.int .i64) ?_,rfl⟩))))))))))))))
       first|exact(if_pos oM).symm|exact(if_neg oM).symm
     ·refine cB J J J (kM J (V0 (V0 (V0 (bP J J J (kM J (Q0 (rQ (rS (kM J (eC J (Q0 (Y0 J (rS (kM J (Q0 (V2 (W3 (aU J ⟨congrArg (Value.int .i64) ?_,rfl⟩)))))))))))))))))))
      first|exact(if_pos oM).symm|exact(if_neg oM).symm
    ·refine cB J J J (kM J (V0 (V0 (V0 (bP J J J (kM J (V0 (V0 (V0 (bP J J J (kM J (Q0 (rQ (rS (kM J (eC J (Q0 (Y0 J (rS (kM J (Q0 (V2 (W3 ?_)))))))))))))))))))))))
     refine aU J ⟨congrArg (Value.int .i64) ?_,rfl⟩
     first|exact(if_pos oM).symm|exact(if_neg oM).symm
   ·refine cB J J J (kM J (V0 (V0 (V0 (V0 (V0 (bP J J J (kM J (V0 (V0 (V0 (bP J J J (kM J (V0 (V0 (V0 (bP J J J (kM J (Q0 (rQ (rS (kM J (eC J ?_)))))))))))))))))))))))
    refine Q0 (Y0 J (rS (kM J (Q0 (V2 (W3 (aU J ⟨congrArg (Value.int .i64) ?_,rfl⟩)))))))
    first|exact(if_pos oM).symm|exact(if_neg oM).symm
  ·refine cB J J J (kM J (V0 (V0 (V0 (V0 (bP J J J (kM J (V0 (V0 (V0 (V0 (V0 (bP J J J (kM J (V0 (V0 (V0 (bP J J J (kM J (V0 (V0 (V0 (bP J J J ?_)))))))))))))))))))))))
   refine kM J (Q0 (rQ (rS (kM J (eC J (Q0 (Y0 J (rS (kM J (Q0 (V2 (W3 (aU J ⟨congrArg (Value.int .i64) ?_,rfl⟩)))))))))))))
   first|exact(if_pos oM).symm|exact(if_neg oM).symm
 ·refine kM J (V0 (V0 (V0 (V0 (bP J J J (kM J (V0 (V0 (V0 (V0 (bP J J J (kM J (V0 (V0 (V0 (V0 (V0 (bP J J J (kM J (V0 (V0 (V0 (bP J J J ?_)))))))))))))))))))))))
  refine kM J (V0 (V0 (V0 (bP J J J (kM J (Q0 (rQ (rS (kM J (eC J (Q0 (Y0 J (rS (kM J (Q0 (V2 (W3 (aU J ⟨congrArg (Value.int .i64) ?_,rfl⟩))))))))))))))))))
  first|exact(if_pos oM).symm|exact(if_neg oM).symm
theorem MX(n:Nat)(m:Int)(al:Option Addr)(cl:Nat)(ls:List (List Int))(s:St)(hs:Wf s)(hn:281474976710656<=n)(hL:RowsE s 4 al ls):bS Tryz.prog (bX bZ) X (n+400) 125 [.agg ⟨[.int .i64 m,.slice al ls.length cl]⟩] s (fun v A=>v = .int .i64 (gR m ls)/\A=[]):=by
 refine enter K7 rfl hs ?_;unfold Gy;have hlen:=hL.len;refine rS (aZ J J J (fun b1=>(kM J (Q0 (rQ (rS (aK J (aO J .here rfl (kO (bE J J (fun s1 h1=>kP _ _ _ _ s1 h1.wf) (fun h2=>?_) (fun h2=>?_)))))))))))
 ·refine eC J (Q0 (U0 J (Q1 (W0 (rQ (rS (aK J (aO J .here rfl (aJ J hL.spot (kO (dL J J (fun h3=>?_) (fun h3=>?_))))))))))))
  ·refine Q0 (Y0 J (rS (kM J (Q0 (V2 (W3 (aU J ⟨congrArg (Value.int .i64) ?_,rfl⟩)))))))
   unfold gR
   first
    |(rw[if_neg oM];done)
    |(rw[if_pos oM,if_pos oM];done)
    |(rw[if_pos oM,if_neg oM,oZ hx hi oM];rfl)
    |(rw[if_pos oM,if_neg oM,pA hi oM];rfl)
  ·refine Q0 (U0 J (Q1 (W0 (rQ (rS (aK J (aO J .here rfl (aJ J hL.spot (kM J (Q0 (W1 (U4 (fun j e A=>∃(k:Nat),e=[(1,.pointer (some ⟨b1,0,none⟩)),(15,.slice al ls.length cl),(16,.int .i64 (ls.length:Int)),(17,.int .i64 (k:Int))]/\A=(.row b1 45 false ([.int .i64 m,.slice al ls.length cl])::[])/\j=ls.length-k/\k<=ls.length/\nP m ls=nP m (ls.drop k)) 200 0 281474976710656 ?_ (j:=_) (env2:=_) (A2:=_) ?_ ?_ ?_ ?_ ⟨0,rfl,rfl,rfl,Nat.zero_le _,rfl⟩))))))))))))
   rotate_left
   ·omega
   ·omega
   ·exact lL
   ·exact(.q .slnil)
   rintro n hn j _ _ ⟨k,rfl,rfl,rfl,hk,hi⟩;refine rS (cX J J (fun h4=>?_) (fun h4=>?_))
   ·obtain⟨q4,o4,y0,y1,y2,y3,ahL,hx,hat,i0,i1,i2,i3⟩:=hL.row4 (k:=k) oM
    have hat2:=hat;obtain⟨d0,d1,d2,d3,_⟩:=hat2;have:=i0.lo;have:=i0.hi;have:=i1.lo;have:=i1.hi;have:=i2.lo;have:=i2.hi;have:=i3.lo;have:=i3.hi;refine Q0 (rQ (Y0 J (Q1 (W0 (rQ (W1 (rS (kO (cM (j:=k) ahL rfl rfl (by first|rfl|omega) (by first|decide|omega) (kO (eF J dE aM J (bA J J (fun b5=>(kZ (Q6 J J .here rfl rfl rfl rfl (Q0 (rS (aK J (aO J .h1 J (cI J dE .here rfl (kO (fQ J J (fun s1 h1=>BM _ _ _ _ _ _ s1 h1.wf) (fun h6=>?_) (fun h6=>?_)))))))))))))))))))))))
    ·refine kM J (Q0 (rS (kM J (kO (V3 J J (fun h=>absurd h dE) (fun _=>(Q0 (U0 J (Q1 (Z1 (W0 (rI (aW J J oM (kM J (Q0 (W0 ?_))))))))))))))))
     exact⟨rfl,_,_,_,(show ls.length-(k+1)<ls.length-k from oM),lL,(.cons _ (.q .slnil)),⟨k+1,rfl,rfl,rfl,oM,En hx hi aM⟩⟩
    ·refine kM J (Q0 (rS (kM J (kO (V3 J J (fun _=>(Q0 (Y0 J (rS (kM J (kM J (Q0 (V2 (Y6 (W3 (W3 (Y6 (W3 (aU J ⟨congrArg (Value.int .i64) ?_,rfl⟩)))))))))))))) (fun h=>absurd h dE))))))
     unfold gR
     first
      |(rw[if_neg oM];done)
      |(rw[if_pos oM,if_pos oM];done)
      |(rw[if_pos oM,if_neg oM,oZ hx hi oM];rfl)
      |(rw[if_pos oM,if_neg oM,pA hi oM];rfl)
   ·refine Q0 (rQ (U0 J (Y4 (Z2 (Z2 (Q3 (W0 (rS (kM J (Q0 (V2 (aU J ⟨congrArg (Value.int .i64) ?_,rfl⟩))))))))))))
    unfold gR
    first
     |(rw[if_neg oM];done)
     |(rw[if_pos oM,if_pos oM];done)
     |(rw[if_pos oM,if_neg oM,oZ hx hi oM];rfl)
     |(rw[if_pos oM,if_neg oM,pA hi oM];rfl)
 ·refine eC J (Q0 (Y0 J (rS (kM J (Q0 (V2 (W3 (aU J ⟨congrArg (Value.int .i64) ?_,rfl⟩))))))))
  unfold gR
  first
   |(rw[if_neg oM];done)
   |(rw[if_pos oM,if_pos oM];done)
   |(rw[if_pos oM,if_neg oM,oZ hx hi oM];rfl)
   |(rw[if_pos oM,if_neg oM,pA hi oM];rfl)
theorem Dk(n:Nat)(m:Int)(al:Option Addr)(cl:Nat)(ls:List (List Int))(ax:Option Addr)(cx:Nat)(x:List Int)(s:St)(hs:Wf s)(hn:844424930131968<=n)(hL:RowsE s 4 al ls)(hX:aN s ax x):bS Tryz.prog (bX bZ) X (n+1200) 81 [.agg ⟨[.int .i64 m,.slice al ls.length cl]⟩,.slice ax x.length cx] s (fun v A=>v = .int .i64 (if gR m ls=0 then (if IN m ls x=true then 0 else 25) else gR m ls)/\A=[]):=by
 refine enter QA rfl hs ?_;unfold Pv;have hlen:=hL.len;have hlenX:=hX.len;refine rS (aZ J J J (fun b1=>(kM J (Q0 (rQ (rS (cI J dE .here rfl (aI J J (fun s1 h1=>MX _ _ _ _ _ s1 h1.wf oM (hL.ext hs h1.2.1)) (kM J (Q0 (rS (kM J (kO (V3 J J (fun h2=>?_) (fun h2=>?_)))))))))))))))
 ·refine Q0 (Y0 J (rS (kM J (kM J (Q0 (V2 (W3 (aU J ⟨congrArg (Value.int .i64) ?_,rfl⟩))))))))
  first
   |(rw[if_neg oM];done)
   |(rw[if_pos hsys,yI oM];rfl)
   |(rw[if_pos hsys,yJ hin];rfl)
   |(rw[if_pos hsys,yK (yH hx hkp oM)];rfl)
   |(rw[if_pos hsys,yL oM hin (yG hkp oM)];rfl)
 ·have hsys:gR m ls=0:=oM
  obtain⟨hm0,hM,h400,hlm⟩:=MU hsys;refine Q0 (U0 J (Q1 (W0 (rQ (rS (kM J (aJ J hX.spot (aK J (aO J .here rfl (aW J J oM (kO (V3 J J (fun h3=>?_) (fun h3=>?_)))))))))))))
  ·refine kM J (V0 (V0 (V0 (V0 (cB J J J (kM J (V0 (V0 (V0 (cB J J J (Q0 (Y0 J (rS (kM J (Q0 (V2 (W3 (aU J ⟨congrArg (Value.int .i64) ?_,rfl⟩))))))))))))))))))
   first
    |(rw[if_neg oM];done)
    |(rw[if_pos hsys,yI oM];rfl)
    |(rw[if_pos hsys,yJ hin];rfl)
    |(rw[if_pos hsys,yK (yH hx hkp oM)];rfl)
    |(rw[if_pos hsys,yL oM hin (yG hkp oM)];rfl)
  ·refine kM J (kG (U2 J (kG (Q7 (j:=0) hX rfl rfl oM (by first|rfl|omega) oM (fun _ _ a4=>(kG (W6 J (hX.at a4 oM) (kG (V3 J J (fun h5=>?_) (fun h5=>?_))))))))))
   ·refine bP J J J (kM J (V0 (V0 (V0 (cB J J J (Q0 (Y0 J (rS (kM J (Q0 (V2 (W3 (aU J ⟨congrArg (Value.int .i64) ?_,rfl⟩)))))))))))))
    first
     |(rw[if_neg oM];done)
     |(rw[if_pos hsys,yI oM];rfl)
     |(rw[if_pos hsys,yJ hin];rfl)
     |(rw[if_pos hsys,yK (yH hx hkp oM)];rfl)
     |(rw[if_pos hsys,yL oM hin (yG hkp oM)];rfl)
   ·refine bP J J J (kM J (kG (U2 J (kG (gB J J (fun s1 h1=>zI _ _ _ _ _ s1 h1.wf oM (hX.ext hs h1.2.1) dE) (fun h6=>?_) (fun h6=>?_))))))
    ·have hin:=h6
     refine kG (U6 J (bP J J J (Q0 (U0 J (Q1 (W0 (rQ (rS (aK J (aO J .here rfl (aJ J (by first|exact hL.spot|exact hX.spot) (kM J (Q0 (W1 (U4 (fun j e A=>∃(k:Nat),e=[(1,.slice ax x.length cx),(31,.slice al ls.length cl),(32,.int .i64 (ls.length:Int)),(33,.int .i64 (k:Int))]/\A=(.row b1 45 false ([.int .i64 m,.slice al ls.length cl])::[])/\j=ls.length-k/\k<=ls.length/\Au x ls=Au x (ls.drop k)) 300 0 281474976710656 ?_ (j:=_) (env2:=_) (A2:=_) ?_ ?_ ?_ ?_ ⟨0,rfl,rfl,rfl,Nat.zero_le _,rfl⟩)))))))))))))))
     rotate_left
     ·omega
     ·omega
     ·exact lL
     ·exact(.q .slnil)
     rintro n hn j _ _ ⟨k,rfl,rfl,rfl,hk,hkp⟩;refine rS (cX J J (fun h7=>?_) (fun h7=>?_))
     ·obtain⟨q4,o4,y0,y1,y2,y3,ahL,hx,hat,i0,i1,i2,i3⟩:=hL.row4 (k:=k) oM
      have hat2:=hat;obtain⟨d0,d1,d2,d3,_⟩:=hat2;have:=i0.lo;have:=i0.hi;have:=i1.lo;have:=i1.hi;have:=i2.lo;have:=i2.hi;have:=i3.lo;have:=i3.hi;have hc4:=C4 hlm hx;obtain⟨u0,rfl⟩:∃q:Nat,y0=(q:Int):=⟨y0.toNat,oM⟩;obtain⟨u1,rfl⟩:∃q:Nat,y1=(q:Int):=⟨y1.toNat,oM⟩;have hb0:=xS hin (k:=u0) oM;have hb1:=xS hin (k:=u1) oM;refine Q0 (rQ (Y0 J (Q1 (W0 (rQ (W1 (rS (kO (cM (j:=k) ahL rfl rfl (by first|rfl|omega) (by first|decide|omega) (kO (eF J dE aM J (bA J J (fun b8=>(kZ (Q6 J J .here rfl rfl rfl rfl (Q0 (rS (kM J (aK J (aO J .here rfl (kO (Q7 (j:=u1) hX rfl rfl oM (by first|rfl|omega) oM (fun _ _ a9=>(kO (W6 J (hX.at a9 oM) (kM J (aK J (aO J .here rfl (kO (Q7 (j:=u0) hX rfl rfl oM (by first|rfl|omega) oM (fun _ _ a10=>(kO (W6 J (hX.at a10 oM) ?_)))))))))))))))))))))))))))))))));refine kO (bN J J oM (aK J (aO J .here rfl (kO (dL J J (fun h11=>?_) (fun h11=>?_))))))
      ·refine Q0 (Y0 J (rS (kM J (Q0 (V2 (Y6 (W3 (W3 (Y6 (W3 (aU J ⟨congrArg (Value.int .i64) ?_,rfl⟩)))))))))))
       first
        |(rw[if_neg oM];done)
        |(rw[if_pos hsys,yI oM];rfl)
        |(rw[if_pos hsys,yJ hin];rfl)
        |(rw[if_pos hsys,yK (yH hx hkp oM)];rfl)
        |(rw[if_pos hsys,yL oM hin (yG hkp oM)];rfl)
      ·refine Q0 (U0 J (Q1 (Z1 (W0 (rI (aW J J oM (kM J (Q0 (W0 ?_)))))))))
       exact⟨rfl,_,_,_,(show ls.length-(k+1)<ls.length-k from oM),lL,(.cons _ (.q .slnil)),⟨k+1,rfl,rfl,rfl,oM,Rv hx hkp oM⟩⟩
     ·refine Q0 (rQ (U0 J (Y4 (Z2 (Z2 (Q3 (W0 (rS (kM J (Q0 (V2 (aU J ⟨congrArg (Value.int .i64) ?_,rfl⟩))))))))))))
      first
       |(rw[if_neg oM];done)
       |(rw[if_pos hsys,yI oM];rfl)
       |(rw[if_pos hsys,yJ hin];rfl)
       |(rw[if_pos hsys,yK (yH hx hkp oM)];rfl)
       |(rw[if_pos hsys,yL oM hin (yG hkp oM)];rfl)
    ·have hin:=h6
     refine kG (U6 J (bP J J J (Q0 (Y0 J (rS (kM J (Q0 (V2 (W3 (aU J ⟨congrArg (Value.int .i64) ?_,rfl⟩))))))))))
     first
      |(rw[if_neg oM];done)
      |(rw[if_pos hsys,yI oM];rfl)
      |(rw[if_pos hsys,yJ hin];rfl)
      |(rw[if_pos hsys,yK (yH hx hkp oM)];rfl)
      |(rw[if_pos hsys,yL oM hin (yG hkp oM)];rfl)
theorem Ry(n:Nat)(m:Nat)(s:St)(hs:Wf s)(hm:m<=65):bS Tryz.prog (bX bZ) X (n+100) 168 [.int .u64 1,.int .u64 (m:Int)] s (fun v A=>v = .tuple #[.int .u64 0,.int .u64 (m:Int)]/\A=[]):=by
 refine enter Ls rfl hs ?_;unfold GT;refine rS (kM J (kM J (Q0 (rS (kM J (kO (lM (r:=.int .u64 1) J J kR (kM J (Q0 (rS (kM J (kO (lM (r:=.int .u64 0) J J kR (kM J (Q0 (rS (kM J (kO (lM J J (Vy m hm) (kM J (Q0 (rS (kM J (kO (lM J J (RY m hm) (kM J (Q0 ?_)))))))))))))))))))))))))));refine rS (kM J (kM J (kO (lM J J (MV m hm) (kM J (Q0 (rS (kM J (kM J (kO (lM J J (TB m hm) (kM J (kO (lM J J (RY m hm) (kO (lM (r:=.int .u64 0) J J kR (kM J (Q0 (rS (kM J (kO (lM (r:=.int .u64 0) J J kR (kM J (Q0 (rS (kM J (kO (lM (r:=.int .u64 0) J J kR (kM J ?_)))))))))))))))))))))))))))));refine Q0 (rS (kM J (kM J (kM J (kO (lM (r:=.int .u64 0) J J kR (kO (lM (r:=.int .u64 0) J J kR (kM J (Q0 (rS (kM J (kM J (kO (lM (r:=.int .u64 0) J J kR (kM J (kO (lM (r:=.int .u64 0) J J kR (kM J (kO (lM (r:=.int .u64 0) J J kR (kO (lM (r:=.int .u64 0) J J kR (kM J (Q0 (rS (kM J (kM J (kO (lM J J (MV m hm) ?_))))))))))))))))))))))))))))));refine kM J (Q0 (V2 ?_));exact pF J J ⟨rfl,rfl⟩
theorem RZ(n:Nat)(m:Nat)(s:St)(hs:Wf s)(hm:m<=65):bS Tryz.prog (bX bZ) X (n+150) 124 [.int .u64 1,.int .u64 (m:Int)] s (fun v A=>v = .tuple #[.int .u64 0,.int .u64 (m:Int)]/\A=[]):=by
 refine enter K6 rfl hs ?_;unfold Gx;refine rS (kM J (kM J (Q0 (rQ (U0 J (Q1 (W0 (rS (kM J (kM J (aI J J (fun s1 h1=>Ry _ m s1 h1.wf oM) (kM J (eP J J (eP J J (kM J (kM J (Q0 (rS (kM J (kM J (kM J (kM J (Q0 ?_)))))))))))))))))))))));refine V2 ?_;exact pF J J ⟨rfl,rfl⟩
theorem MY(n:Nat)(b0:Nat)(z:Int)(m:Nat)(s:St)(hs:Wf s)(hn:281474976710656<=n)(hz:pR s b0 0 [.int .i64 z])(hm:1<=m/\m<=65):bS Tryz.prog (bX bZ) X (n+500) 79 [.slice (some ⟨b0,0,none⟩) 1 1,.int .i64 (m:Int)] s (fun v A=>∃b,v = .slice (some ⟨b,0,none⟩) m m/\A=[.row b 3 false (ints (List.replicate m z))]):=by
 refine enter G9 rfl hs ?_;unfold JI;refine rS (kM J (Q0 (rQ (rS (kM J (cX J J (fun h1=>?_) (fun h1=>?_)))))))
 ·exfalso;omega
 ·refine Q0 (U0 J (Q1 (W0 (rS (kM J (aJ J (fun b hb=>by cases hb;rfl) (kO (xO (r:=.int .u64 1) J kR (kM J (kO (xO J (TC m oM) (aI J J (fun s1 h1=>RZ _ m s1 h1.wf oM) (kM J (eP J J (eP J J (kM J (kM J (Q0 (rQ (rS (kM J (kO (dL J J (fun h=>absurd h dE) (fun _=>(kM J (kG (U2 J (kG (dL J J (fun h3=>?_) (fun h3=>?_))))))))))))))))))))))))))))))
  ·exfalso;omega
  ·refine bP J J J (Q0 (U0 J (Q1 (W0 (rS (kM J (kO (xO J (TD m oM) (kO (sS (m:=m) (c:=m) J J oM oM oM (fun b4=>(kM J (Q0 (rS (kM J (kM J ?_))))))))))))))))
   rw[Rx (z:=z)];refine kO (HH (j:=1) (more:=ints (List.replicate 1 z)) (off:=0) J J (by rw[if_pos oM]) dE (by simp[ints]) (.inr hz) .here (by rw[bO,Dj (Nat.zero_le _)];omega) ?_);rw[show over (ints (rr z m 0)) 0 (ints (List.replicate 1 z))=ints (rr z m 1) from HW oM];refine kM J (Q0 (rQ (W1 (U4 (fun j e A=>∃(k:Nat),e=[(7,.slice (some ⟨b4,0,none⟩) m m),(8,.int .i64 (k:Int))]/\A=(.row b4 3 false (ints (rr z m k))::[])/\j=m-k/\k<=m/\1<=k) 100 0 281474976710656 ?_ (j:=_) (env2:=_) (A2:=_) ?_ ?_ ?_ ?_ ⟨1,rfl,rfl,rfl,oM,(Nat.le_refl _)⟩))))
   rotate_left
   ·omega
   ·omega
   ·exact lL
   ·exact(.q .slnil)
   rintro n hn j _ _ ⟨k,rfl,rfl,rfl,hk,hk1⟩;have hmn:min k (m-k)<=k:=oM
   have hmn2:k+min k (m-k)<=m:=oM
   refine rQ (rS (kM J (kM J (kO (cO J (cX J J (fun h5=>?_) (fun h5=>?_)))))))
   ·refine Q0 (Y0 J (Q1 (W0 (W1 (rI (kM J (kM J (kM J (kO (To (l:=k) J J J oM (Nat.le_refl _) oM (by show m<18446744073709551616;omega) (kM J (kM J (kO (Tn (h:=k) J J J oM (by show m<18446744073709551616;omega) (kO (HH (j:=min k (m-k)) (more:=ints (List.replicate (min k (m-k)) z)) J J (by rw[Nat.min_def]) oM (by simp[ints]) (.inl ⟨_,_,_,.here,TF hmn hk⟩) .here (by rw[bO,Dj hk];omega) (aW J J oM (kM J (Q0 (Z1 (W0 ?_)))))))))))))))))))))
    exact⟨rfl,_,_,_,(show m-(k+min k (m-k))<m-k from oM),lL,(.q .slnil),⟨k+min k (m-k),rfl,(by rw[Nat.zero_add,Nat.mul_one,HW hmn2]),rfl,oM,oM⟩⟩
   ·refine Q0 (U0 J (Y4 (Z2 (Z2 (Q3 (W0 (rS (kM J (kM J (Q0 (V2 ?_)))))))))))
    have hkm:k=m:=oM
    subst hkm;rw[TE];exact fX J (.q .slnil) ⟨_,rfl,rfl⟩
theorem IF(n:Nat)(b0:Nat)(z:Int)(s:St)(hs:Wf s)(hn:281474976710656<=n)(hz:pR s b0 0 [.int .i64 z]):bS Tryz.prog (bX bZ) X (n+500) 79 [.slice (some ⟨b0,0,none⟩) 1 1,.int .i64 0] s (fun v A=>∃b,v = .slice (some ⟨b,0,none⟩) 0 0/\A=[.row b 3 false []]):=by
 refine enter G9 rfl hs ?_;unfold JI;refine rS (kM J (Q0 (rQ (rS (kM J (cX J J (fun h=>absurd h dE) (fun _=>(Q0 (U0 J (Q1 (W0 (rS (kM J (aJ J (fun b hb=>by cases hb;rfl) (kO (xO (r:=.int .u64 1) J kR (kM J (kO (xO (r:=.int .u64 0) J kR (aI J J (fun s1 h1=>RZ _ 0 s1 h1.wf oM) (kM J (eP J J (eP J J (kM J (kM J (Q0 ?_))))))))))))))))))))))))));refine rQ (rS (kM J (kO (dL J J (fun h=>absurd h dE) (fun _=>(kM J (kG (U2 J (kG (dL J J (fun h3=>?_) (fun h3=>?_)))))))))))
 ·exfalso;omega
 ·refine bP J J J (Q0 (U0 J (Q1 (W0 (rS (kM J (kO (xO (r:=.int .i64 0) J kR (kO (sS (m:=0) (c:=0) J J (Nat.le_refl _) dE dE (fun b4=>(kM J (Q0 (rS (kM J (kM J (kO (Rw J J (fun b hb=>by cases hb;rfl) (fun q=>by cases q) (kM J (Q0 (rQ (W1 (bH (rQ (rS (kM J (kM J ?_)))))))))))))))))))))))))))
  refine kO (cO J (cX J J (fun h=>absurd h dE) (fun _=>(Q0 (U0 J (Y4 (Z2 (Z2 (Q3 (W0 (rS (kM J (kM J (Q0 (V2 ?_)))))))))))))));exact fX J (.q .slnil) ⟨_,rfl,rfl⟩
end
def la(ls:List (List Int))(i:Nat):Nat:=((ls.getD i []).getD 0 0).toNat
def lb(ls:List (List Int))(i:Nat):Nat:=((ls.getD i []).getD 1 0).toNat
def lw(ls:List (List Int))(i:Nat):Int:=(ls.getD i []).getD 2 0
def MZ(N:Nat)(ls:List (List Int)):Prop:=∀i,i<ls.length->la ls i<N/\lb ls i<N/\la ls i≠lb ls i/\-20000<=lw ls i/\lw ls i<=20000/\∃y3,ls[i]? = some [(la ls i:Int),(lb ls i:Int),lw ls i,y3]
theorem M0{m:Int}{ls:List (List Int)}{N:Nat}(hN:(N:Int)=m+1)(h:nP m ls=true):MZ N ls:=by
 intro i hi;have key:∀{l:List (List Int)} {i:Nat},nP m l=true->i<l.length->∃y0 y1 y2 y3:Int,l[i]? = some [y0,y1,y2,y3]/\(0<=y0/\y0<=m)/\(0<=y1/\y1<=m)/\¬y0=y1/\(-20000<=y2/\y2<=20000):=by
  intro l
  induction l with
  |nil=>intro i _ hi;exact absurd hi (Nat.not_lt_zero i)
  |cons a l ih=>
   intro i h hi
   match a,h with
   |[y0,y1,y2,y3],h=>
    have h':(decide _ && nP m l)=true:=h;rw[Bool.and_eq_true] at h';have h2:=of_decide_eq_true h'.1;cases i with
    |zero=>exact⟨y0,y1,y2,y3,rfl,h2.2.1,h2.2.2.1,h2.2.2.2.1,h2.2.2.2.2.1⟩
    |succ i=>exact ih h'.2 (by rw[List.length_cons] at hi;omega)
 obtain⟨y0,y1,y2,y3,e,h1,h2,h3,h4⟩:=key h hi;have e9:ls.getD i []=[y0,y1,y2,y3]:=by rw[List.getD_eq_getElem?_getD,e];rfl
 have ea:la ls i=y0.toNat:=by unfold la;rw[e9];rfl
 have eb:lb ls i=y1.toNat:=by unfold lb;rw[e9];rfl
 have ew:lw ls i=y2:=by unfold lw;rw[e9];rfl
 rw[ea,eb,ew];exact⟨oM,oM,oM,h4.1,h4.2,y3,by rw[e,Int.toNat_of_nonneg h1.1,Int.toNat_of_nonneg h2.1]⟩
theorem M1{s:St}{a3 a4:Option Addr}{r al up m:Int}{l1 l2:List Int}{rs cs:List (List Int)}(hsr:1<=r/\r<=99999)(hsa:0<=al/\al<=100000)(hsu:0<=up/\up<=100000)(hpl:bW l1 l2=true)(hcpb:pZ cs=true)(hrdb:pY (l1.length:Int) (l2.length:Int) rs=true)(hr:RowsE s 7 a3 rs)(hc:RowsE s 6 a4 cs)(hm:m=(l1.length:Int)*(l2.length:Int)+((dys rs).length:Int))(hm64:m<=64):LV m (Sv.b6 (Sv.mk r al up l1 l2 rs cs)):=by
 have h5:=(Et hsr hsa hsu hpl hcpb hc hm hm64).2.2 cs.length (Nat.le_refl _);have hM:(l1.length:Int)*(l2.length:Int)=((l1.length*l2.length:Nat):Int):=(Int.natCast_mul ..).symm;refine LV.acc h5 rs.length (fun k hk=>?_);obtain⟨_,_,x0,x1,x2,x3,x4,x5,x6,_,hx,_⟩:=hr.row7 (k:=k) hk;have hrd:=mR hrdb hx;have hx':rs.getD k []=[x0,x1,x2,x3,x4,x5,x6]:=Sv.getD_of hx;have hix:=qZ (oY hx);obtain⟨uN,huN,huM⟩:=tS (a:=l1.length) (b:=l2.length) (x1:=x1) (x2:=x2) oM oM;show LV m (mY ((l1.length:Int)*(l2.length:Int)+1+(wS [(rs.getD k []).getD 5 0,(rs.getD k []).getD 6 0] (dys rs):Int)) (1+(rs.getD k []).getD 1 0*(l2.length:Int)+(rs.getD k []).getD 2 0) ((rs.getD k []).getD 3 0+(rs.getD k []).getD 4 0) ((rs.getD k []).getD 4 0-(rs.getD k []).getD 3 0) ((rs.getD k []).getD 0 0));rw[hx'];show LV m (mY ((l1.length:Int)*(l2.length:Int)+1+(wS [x5,x6] (dys rs):Int)) (1+x1*(l2.length:Int)+x2) (x3+x4) (x4-x3) x0);rw[huN,hM];rw[hM] at hm;have h1:0<=x1*(l2.length:Int):=Int.mul_nonneg oM oM;exact LV.lm oM oM oM oM oM oM oM
section
variable{X:FuncId->List Value->St->(Value->St->Bool)->Bool}
end
variable{n T k:Nat}{ls:List (List Int)}{e:Int}{b:Bool}{p:Prop}
theorem M2{a b:List Int}(hl:a.length=b.length)(h:∀i,i<a.length->a.getD i 0=b.getD i 0):a=b:=by
 refine List.ext_getElem hl (fun i h1 h2=>?_);have:=h i h1;rw[List.getD_eq_getElem?_getD,List.getD_eq_getElem?_getD,List.getElem?_eq_getElem h1,List.getElem?_eq_getElem h2] at this;exact this
def BN(M:List (List Int))(n N:Nat)(ls:List (List Int))(f:Nat):Nat->Int
 |0=>1000
 |k+1=>if lb ls k=f then min (BN M n N ls f k) (hv M n N (la ls k)+lw ls k) else BN M n N ls f k
def EF(M:List (List Int))(n N:Nat)(ls:List (List Int))(f:Nat):Nat->Int
 |0=>-1000
 |k+1=>if la ls k=f then max (EF M n N ls f k) (hv M n N (lb ls k)-lw ls k) else EF M n N ls f k
def tX(M:List (List Int))(n N T:Nat)(ls:List (List Int))(k:Nat):List Int:=hpt M n N++(List.range T).map (fun j=>BN M n N ls (N+1+j) k)
theorem iY{M:List (List Int)}{n N T:Nat}:(tX M n N T ls k).length=N+1+T:=by unfold tX;rw[List.length_append,lF,List.length_map,List.length_range]
theorem kA{M:List (List Int)}{n N T:Nat}{k u:Nat}(h:u<=N):(tX M n N T ls k).getD u 0=hv M n N u:=by
 unfold tX hv;rw[List.getD_eq_getElem?_getD,List.getD_eq_getElem?_getD,List.getElem?_append_left (by rw[lF];omega)]
theorem pJ{M:List (List Int)}{n N T:Nat}{k j:Nat}(h:j<T):(tX M n N T ls k).getD (N+1+j) 0=BN M n N ls (N+1+j) k:=by
 unfold tX;rw[List.getD_eq_getElem?_getD,List.getElem?_append_right (by rw[lF];omega),lF,show N+1+j-(N+1)=j from oM,List.getElem?_map,List.getElem?_range h];rfl
theorem EG{M:List (List Int)}{n N T:Nat}:ints (hpt M n N)++ints (List.replicate T 1000)=ints (tX M n N T ls 0):=by
 unfold tX ints;rw[<-List.map_append]
 congr 2
 refine List.ext_getElem (by rw[List.length_replicate,List.length_map,List.length_range]) (fun i h1 h2=>?_);rw[List.getElem_replicate,List.getElem_map];rfl
theorem EH{M:List (List Int)}{n N T:Nat}(h:lb ls k<=N):tX M n N T ls (k+1)=tX M n N T ls k:=by
 unfold tX
 congr 1
 refine List.map_congr_left (fun j _=>?_);show(if lb ls k=N+1+j then _ else _)=_;rw[if_neg oM]
theorem HX{M:List (List Int)}{n N T:Nat}(h:N<lb ls k)(hb:lb ls k<N+1+T)(ha:la ls k<=N):(tX M n N T ls k).set (lb ls k) (min ((tX M n N T ls k).getD (lb ls k) 0) ((tX M n N T ls k).getD (la ls k) 0+lw ls k))=tX M n N T ls (k+1):=by
 obtain⟨j,hj⟩:∃j,lb ls k=N+1+j:=⟨lb ls k-(N+1),oM⟩;refine M2 (by rw[List.length_set,iY,iY]) (fun i hi=>?_);rw[List.length_set,iY] at hi;by_cases e:i=lb ls k
 ·subst e
  rw[tB (by rw[iY];exact hb),kA ha];have e3:(tX M n N T ls (k+1)).getD (lb ls k) 0=BN M n N ls (lb ls k) (k+1):=by rw[hj];exact pJ oM
  have e4:(tX M n N T ls k).getD (lb ls k) 0=BN M n N ls (lb ls k) k:=by rw[hj];exact pJ oM
  rw[e3,e4];show _=if lb ls k=lb ls k then _ else _
  rw[if_pos rfl]
 ·rw[getD_set_ne (fun q=>e q.symm)]
  by_cases q:i<=N
  ·rw[kA q,kA q]
  ·obtain⟨j2,rfl⟩:∃j2,i=N+1+j2:=⟨i-(N+1),oM⟩
   rw[pJ oM,pJ oM];show _=if lb ls k=N+1+j2 then _ else _
   rw[if_neg (fun h=>e h.symm)]
theorem R0{M:List (List Int)}{n N:Nat}{ls:List (List Int)}{f i:Nat}(hi:lb ls i=f):∀k,i<k->BN M n N ls f k<=hv M n N (la ls i)+lw ls i
 |k+1,h=>by
  show(if lb ls k=f then _ else _)<=_;by_cases e:k=i
  ·subst e
   rw[if_pos hi];omega
  ·have ih:=R0 hi (M:=M) (n:=n) (N:=N) k oM
   split <;> omega
theorem R1{M:List (List Int)}{n N:Nat}{ls:List (List Int)}{f i:Nat}(hi:la ls i=f):∀k,i<k->hv M n N (lb ls i)-lw ls i<=EF M n N ls f k
 |k+1,h=>by
  show _<=(if la ls k=f then _ else _);by_cases e:k=i
  ·subst e
   rw[if_pos hi];omega
  ·have ih:=R1 hi (M:=M) (n:=n) (N:=N) k oM
   split <;> omega
theorem HY{M:List (List Int)}{n N N9:Nat}{ls:List (List Int)}{f:Nat}(hv0:∀u,0<=hv M n N u/\hv M n N u<=20000)(hl:MZ N9 ls):∀k,k<=ls.length->-20000<=BN M n N ls f k/\BN M n N ls f k<=1000
 |0,_=>by show -20000<=(1000:Int)/\(1000:Int)<=1000;decide
 |k+1,h=>by
  have ih:=HY hv0 hl (f:=f) k oM;obtain⟨_,_,_,h4,_⟩:=hl k oM;have:=hv0 (la ls k);show -20000<=(if lb ls k=f then _ else _)/\(if lb ls k=f then _ else _)<=1000;split <;> omega
theorem R2{M:List (List Int)}{n N N9:Nat}{ls:List (List Int)}{f:Nat}(hv0:∀u,0<=hv M n N u/\hv M n N u<=20000)(hl:MZ N9 ls):∀k,k<=ls.length->-1000<=EF M n N ls f k/\EF M n N ls f k<=40000
 |0,_=>by show -1000<=(-1000:Int)/\(-1000:Int)<=40000;decide
 |k+1,h=>by
  have ih:=R2 hv0 hl (f:=f) k oM;obtain⟨_,_,_,h4,h5,_⟩:=hl k oM;have:=hv0 (lb ls k);show -1000<=(if la ls k=f then _ else _)/\(if la ls k=f then _ else _)<=40000;split <;> omega
def Uc(M:List (List Int))(n N T:Nat)(ls:List (List Int)):Prop:=(∀i,i<ls.length->Ub M n N (la ls i) (lb ls i) (lw ls i))/\∀j,j<T->EF M n N ls (N+1+j) ls.length<=BN M n N ls (N+1+j) ls.length
def TG(N T:Nat)(ls:List (List Int)):Prop:=(∀i,i<ls.length->la ls i<=N∨lb ls i<=N)/\∀j,j<T->∃i,i<ls.length/\la ls i=N+1+j/\lb ls i=0/\lw ls i=1000
theorem TH{x:List Int}{N9:Nat}(hl:MZ N9 ls):Au x ls=true↔∀i,i<ls.length->x.getD (lb ls i) 0-x.getD (la ls i) 0<=lw ls i:=by
 have st:∀k,k<ls.length->Au x (ls.drop k)=(decide (x.getD (lb ls k) 0-x.getD (la ls k) 0<=lw ls k) && Au x (ls.drop (k+1))):=fun k hk=>by
  obtain⟨_,_,_,_,_,y3,hx⟩:=hl k hk;have:=Dh (x:=x) hx;rw[Int.toNat_natCast,Int.toNat_natCast] at this;exact this
 constructor
 ·intro h i hi
  have key:∀k,k<=ls.length->Au x (ls.drop k)=true:=by
   intro k
   induction k with
   |zero=>intro _;exact h
   |succ k ih=>
    intro hk;have h1:=ih oM;rw[st k oM,Bool.and_eq_true] at h1;exact h1.2
  have h1:=key i oM;rw[st i hi,Bool.and_eq_true] at h1;exact of_decide_eq_true h1.1
 ·intro h
  have key:∀d k,k+d=ls.length->Au x (ls.drop k)=true:=by
   intro d
   induction d with
   |zero=>intro k hk;rw[List.drop_eq_nil_of_le oM];rfl
   |succ d ih=>
    intro k hk;rw[st k oM,Bool.and_eq_true];exact⟨decide_eq_true (h k oM),ih (k+1) oM⟩
  exact key ls.length 0 oM
theorem TI{M:List (List Int)}{n N T:Nat}(hv0:∀u,0<=hv M n N u/\hv M n N u<=20000)(hl:MZ (N+1+T) ls)(hT:TG N T ls):Au (tX M n N T ls ls.length) ls=true↔Uc M n N T ls:=by
 rw[TH hl]
 constructor
 ·intro h
  refine⟨fun i hi ha hb=>?_,fun j hj=>?_⟩
  ·have:=h i hi
   rw[kA ha,kA hb] at this;exact this
  ·have key:∀k,k<=ls.length->EF M n N ls (N+1+j) k<=BN M n N ls (N+1+j) ls.length:=by
    intro k
    induction k with
    |zero=>
     intro _;obtain⟨i,hi,e1,e2,e3⟩:=hT.2 j hj;have:=h i hi;rw[e1,e2,e3,pJ hj,kA (Nat.zero_le _),HU] at this;show(-1000:Int)<=_;omega
    |succ k ih=>
     intro hk;have h1:=ih oM;show(if la ls k=N+1+j then _ else _)<=_;split
     ·rename_i e
      have h2:=h k oM;have hb:lb ls k<=N:=by rcases hT.1 k oM with q|q <;> omega
      rw[e,pJ hj,kA hb] at h2;omega
     ·exact h1
   exact key _ (Nat.le_refl _)
 ·intro h i hi
  obtain⟨g1,g2,g3,_⟩:=hl i hi;by_cases ha:la ls i<=N
  ·rw[kA ha]
   by_cases hb:lb ls i<=N
   ·rw[kA hb];exact h.1 i hi ha hb
   ·obtain⟨j,hj⟩:∃j,lb ls i=N+1+j:=⟨lb ls i-(N+1),oM⟩
    rw[hj,pJ oM];have:=R0 (M:=M) (n:=n) (N:=N) hj ls.length hi;omega
  ·have hb:lb ls i<=N:=by rcases hT.1 i hi with q|q <;> omega
   obtain⟨j,hj⟩:∃j,la ls i=N+1+j:=⟨la ls i-(N+1),oM⟩;rw[hj,pJ oM,kA hb];have h1:=R1 (M:=M) (n:=n) (N:=N) hj ls.length hi;have h2:=h.2 j oM;omega
theorem Dl{M:List (List Int)}{n N T:Nat}{m:Int}(hm:m=((N+T:Nat):Int))(hv0:∀u,0<=hv M n N u/\hv M n N u<=20000)(hl:MZ (N+1+T) ls)(hT:TG N T ls):IN m ls (tX M n N T ls ls.length)=true↔Uc M n N T ls:=by
 rw[<-TI hv0 hl hT];unfold IN;have h1:((tX M n N T ls ls.length).length:Int)=m+1/\(tX M n N T ls ls.length).getD 0 0=0:=⟨by rw[iY];omega,by rw[kA (Nat.zero_le _)];rfl⟩;have h2:jQ (-1000000000) 1000000000 (tX M n N T ls ls.length)=true:=by
  unfold jQ;rw[List.all_eq_true];intro x hx;obtain⟨i,hi,rfl⟩:=List.getElem_of_mem hx;have e:(tX M n N T ls ls.length)[i]=(tX M n N T ls ls.length).getD i 0:=by rw[List.getD_eq_getElem?_getD,List.getElem?_eq_getElem hi];rfl
  rw[iY] at hi;rw[e];refine decide_eq_true ?_;by_cases q:i<=N
  ·rw[kA q];have:=hv0 i;omega
  ·obtain⟨j,rfl⟩:∃j,i=N+1+j:=⟨i-(N+1),oM⟩
   rw[pJ oM];have:=HY hv0 hl (f:=N+1+j) ls.length (Nat.le_refl _);omega
 rw[decide_eq_true h1,h2];simp
theorem HZ{M:List (List Int)}{n N T:Nat}(hk:k<=ls.length)(hv0:∀u,0<=hv M n N u/\hv M n N u<=20000)(hl:MZ (N+1+T) ls):∀x∈tX M n N T ls k,-9223372036854775808<=x/\x<9223372036854775808:=fun x hx=>by
 obtain⟨i,hi,rfl⟩:=List.getElem_of_mem hx;have e:(tX M n N T ls k)[i]=(tX M n N T ls k).getD i 0:=by rw[List.getD_eq_getElem?_getD,List.getElem?_eq_getElem hi];rfl
 rw[iY] at hi;rw[e];by_cases q:i<=N
 ·rw[kA q];have:=hv0 i;omega
 ·obtain⟨j,rfl⟩:∃j,i=N+1+j:=⟨i-(N+1),oM⟩
  rw[pJ oM];have:=HY hv0 hl (f:=N+1+j) k hk;omega
noncomputable def M3(e:Int)(b:Bool)(p:Prop):Int:=if e=0 then (if b=true then @ite Int p (Classical.propDecidable p) 0 34 else 34) else e
theorem M4(h:¬e=0):M3 e b p=e:=if_neg h
theorem M5(h:e=0)(hb:b=false):M3 e b p=34:=by unfold M3;rw[if_pos h,hb];rfl
theorem H0(h:e=0)(hp:¬p):M3 e b p=34:=by
 unfold M3;rw[if_pos h];by_cases hb:b=true
 ·rw[if_pos hb];exact if_neg hp
 ·rw[if_neg hb]
theorem M6(h:e=0)(hb:b=true)(hp:p):M3 e b p=0:=by unfold M3;rw[if_pos h,if_pos hb];exact if_pos hp
/-! The limits of a survey are such. -/
theorem BE{X:List (List Int)}{f:Nat->List (List Int)}{r:List Int}(h:r∈X):∀t,r∈acc X f t
 |0=>h
 |t+1=>List.mem_append_left _ (BE h t)
theorem EI{X:List (List Int)}{f:Nat->List (List Int)}{r:List Int}{k:Nat}(h:r∈f k):∀t,k<t->r∈acc X f t
 |t+1,ht=>by
  by_cases e:k=t
  ·subst e;exact List.mem_append_right _ h
  ·exact List.mem_append_left _ (EI h t oM)
def Av(N:Nat)(L:List (List Int)):Prop:=∀r∈L,r.getD 0 0<=(N:Int)∨r.getD 1 0<=(N:Int)
theorem Av.nil{N:Nat}:Av N []:=fun _ h=>by cases h
theorem Av.lm{N:Nat}{a b m1 m2 y:Int}(h:a<=N∨b<=N):Av N (mY a b m1 m2 y):=fun r hr=>by
 rcases List.mem_cons.1 hr with rfl|hr
 ·exact h
 ·rw[List.mem_singleton.1 hr];exact h.symm
theorem Av.acc{N:Nat}{X:List (List Int)}{f:Nat->List (List Int)}(hX:Av N X):∀t,(∀k,k<t->Av N (f k))->Av N (acc X f t)
 |0,_=>hX
 |t+1,h=>fun r hr=>(List.mem_append.1 hr).elim (Av.acc hX t (fun k hk=>h k oM) r) (h t oM r)
theorem FJ{s:St}{a3:Option Addr}{r al up:Int}{l1 l2:List Int}{rs cs:List (List Int)}{N9:Nat}(hrdb:pY (l1.length:Int) (l2.length:Int) rs=true)(hr:RowsE s 7 a3 rs)(h2:1<=l2.length)(hl:MZ N9 (Sv.b6 (Sv.mk r al up l1 l2 rs cs))):TG (l2.length*l1.length) (dys rs).length (Sv.b6 (Sv.mk r al up l1 l2 rs cs)):=by
 have hMi:(l1.length:Int)*(l2.length:Int)=((l2.length*l1.length:Nat):Int):=by rw[Int.natCast_mul,Int.mul_comm]
 have hNB:Av (l2.length*l1.length) (Sv.b6 (Sv.mk r al up l1 l2 rs cs)):=by
  have g1:Av (l2.length*l1.length) (Sv.b1 (Sv.mk r al up l1 l2 rs cs)):=Av.nil.acc _ (fun k hk=>Av.lm (.inl oM));have g2:Av (l2.length*l1.length) (Sv.b2 (Sv.mk r al up l1 l2 rs cs)):=g1.acc _ (fun k hk=>by
   unfold Sv.q2;split
   ·exact Av.lm (.inl (by have:k<l2.length*l1.length:=hk;omega))
   ·exact Av.nil)
  have g3:Av (l2.length*l1.length) (Sv.b3 (Sv.mk r al up l1 l2 rs cs)):=g2.acc _ (fun k hk=>by
   unfold Sv.q3;split
   ·exact Av.lm (.inl (by have:k<l2.length*l1.length:=hk;omega))
   ·exact Av.nil)
  have g4:∀i,Av (l2.length*l1.length) (Sv.b5 (Sv.mk r al up l1 l2 rs cs) i):=by
   intro i
   induction i with
   |zero=>exact g3.acc _ (fun k hk=>Av.lm (.inl oM))
   |succ i ih=>
    refine ih.acc _ (fun k hk=>?_);unfold Sv.q5;split
    ·exact Av.lm (.inl oM)
    ·exact Av.nil
  refine(g4 cs.length).acc _ (fun k hk=>?_);obtain⟨_,_,x0,x1,x2,x3,x4,x5,x6,_,hx,_⟩:=hr.row7 (k:=k) hk;have hrd:=mR hrdb hx;rw[Sv.q6_at (y:=(Sv.mk r al up l1 l2 rs cs)) hx];refine Av.lm (.inr ?_);obtain⟨uN,huN,huM⟩:=tS (a:=l1.length) (b:=l2.length) (x1:=x1) (x2:=x2) oM oM;show 1+x1*(l2.length:Int)+x2<=_;rw[huN,<-hMi,<-Int.natCast_mul];omega
 refine⟨fun i hi=>?_,fun j hj=>?_⟩
 ·have h1:=hNB ((Sv.b6 (Sv.mk r al up l1 l2 rs cs))[i]) (List.getElem_mem hi)
  have e:(Sv.b6 (Sv.mk r al up l1 l2 rs cs)).getD i []=(Sv.b6 (Sv.mk r al up l1 l2 rs cs))[i]:=by rw[List.getD_eq_getElem?_getD,List.getElem?_eq_getElem hi];rfl
  rw[<-e] at h1;unfold la lb;omega
 ·have hm:[(((l2.length*l1.length+1+j:Nat):Int)),0,1000,r]∈Sv.b6 (Sv.mk r al up l1 l2 rs cs):=by
   refine BE ?_ _;have g5:∀i,[(((l2.length*l1.length+1+j:Nat):Int)),0,1000,r]∈Sv.b5 (Sv.mk r al up l1 l2 rs cs) i:=by
    intro i
    induction i with
    |zero=>
     refine EI (k:=j) ?_ _ hj;show _∈mY 0 ((l1.length:Int)*(l2.length:Int)+1+(j:Int)) 1000 1000 r;rw[hMi,show((l2.length*l1.length:Nat):Int)+1+(j:Int)=((l2.length*l1.length+1+j:Nat):Int) from oM];exact List.mem_cons_of_mem _ (List.mem_cons_self ..)
    |succ i ih=>exact BE ih _
   exact g5 cs.length
  obtain⟨i,hi,e⟩:=List.getElem_of_mem hm;have e2:(Sv.b6 (Sv.mk r al up l1 l2 rs cs)).getD i []=[(((l2.length*l1.length+1+j:Nat):Int)),0,1000,r]:=by rw[List.getD_eq_getElem?_getD,List.getElem?_eq_getElem hi,e];rfl
  refine⟨i,hi,?_,?_,?_⟩
  ·unfold la;rw[e2];exact Int.toNat_natCast _
  ·unfold lb;rw[e2];rfl
  ·unfold lw;rw[e2];rfl
section
variable{X:FuncId->List Value->St->(Value->St->Bool)->Bool}
end
variable{L:List (List Int)}{i:Nat}{z1 z2 z3:Int}
theorem Dm{z0 z1 z2 z3:Int}(hw:∀r∈L,r.length=4)(h:L[i]? = some [z0,z1,z2,z3]):(aV L)[0+i*4+0]? = some (.int .i64 z0):=by rw[Nat.zero_add];exact Bu (t:=0) hw h dE
theorem Dn{z0 z1 z2 z3:Int}(hw:∀r∈L,r.length=4)(h:L[i]? = some [z0,z1,z2,z3]):(aV L)[0+i*4+1]? = some (.int .i64 z1):=by rw[Nat.zero_add];exact Bu (t:=1) hw h dE
theorem tY{z0 z1 z2 z3:Int}(hw:∀r∈L,r.length=4)(h:L[i]? = some [z0,z1,z2,z3]):(aV L)[0+i*4+2]? = some (.int .i64 z2):=by rw[Nat.zero_add];exact Bu (t:=2) hw h dE
section
variable{X:FuncId->List Value->St->(Value->St->Bool)->Bool}
theorem wP(n:Nat)(m:Int)(al:Option Addr)(cl:Nat)(ls:List (List Int))(ax:Option Addr)(cx nx:Nat)(x:List Int)(s:St)(hs:Wf s)(hn:844424930131968<=n)(hL:RowsE s 4 al ls)(hnx:nx=x.length)(hX:aN s ax x)(hsys:gR m ls=0):bS Tryz.prog (bX bZ) X (n+1200) 81 [.agg ⟨[.int .i64 m,.slice al ls.length cl]⟩,.slice ax nx cx] s (fun v A=>v = .int .i64 (if IN m ls x=true then 0 else 25)/\A=[]):=by
 subst hnx;have h:=Dk n m al cl ls ax cx x s hs hn hL hX (X:=X);rw[if_pos hsys] at h;exact h
set_option maxHeartbeats 4000000 in
theorem EJ(n:Nat)(d r al up:Int)(a1 a2:Option Addr)(c1 c2:Nat)(l1 l2:List Int)(a3 a4:Option Addr)(c3 c4:Nat)(rs cs:List (List Int))(a:Option Addr)(cap:Nat)(M:List (List Int))(s:St)(hs:Wf s)(hn:11258999068426240<=n)(hl1:aN s a1 l1)(hl2:aN s a2 l2)(hr:RowsE s 7 a3 rs)(hc:RowsE s 6 a4 cs)(hT:pI s a M):bS Tryz.prog (bX bZ) X (n+9000) 31 [.agg ⟨[.int .i64 d,.int .i64 r,.slice a1 l1.length c1,.slice a2 l2.length c2,.int .i64 al,.int .i64 up,.slice a3 rs.length c3,.slice a4 cs.length c4]⟩,.agg ⟨[.slice a M.length cap]⟩] s (fun v A=>v = .int .i64 (M3 (Bm (oO ((1<=d/\d<=99999)/\(1<=r/\r<=99999)/\(0<=al/\al<=100000)/\(0<=up/\up<=100000)/\bW l1 l2=true) l1 l2 rs cs) (xY (l1.length:Int) (l2.length:Int) rs (Sv.b6 (Sv.mk r al up l1 l2 rs cs)))) (decide (M.length=l1.length) && gA l2.length M) (Uc M l2.length (l2.length*l1.length) (dys rs).length (Sv.b6 (Sv.mk r al up l1 l2 rs cs))))/\A=[]):=by
 refine enter P4 rfl hs ?_;unfold Om;have hlen1:=hl1.len;have hlen2:=hl2.len;have hlen3:=hr.len;have hlen4:=hc.len;have hlenT:=hT.len;refine rS (aZ J J J (fun b1=>(aZ J J J (fun b2=>(kM J (Q0 (rS (cI J dE .h1 J (kO (Z4 J J (fun s1 h1=>Iy _ _ _ _ _ _ _ _ _ _ _ _ _ _ _ _ _ s1 h1.wf oM (hl1.ext hs h1.2.1) (hl2.ext hs h1.2.1) (hr.ext hs h1.2.1) (hc.ext hs h1.2.1)) (fun v1 A1 q1=>?_)))))))))));rcases q1 with ⟨hpn,rfl,rfl⟩|⟨hpt,hnf,rfl,rfl⟩|⟨hpt,hfit,bL,bs,DS,DR,rfl,rfl,⟨hrs,rfl,rfl⟩|⟨hne,bd,rfl,rfl,hWD⟩⟩
 ·refine kM J (eP J J (eP J J (kM J (kM J (Q0 (rQ (rS (kM J (kO (V3 J J (fun h3=>?_) (fun h3=>?_)))))))))))
  ·refine Q0 (Y0 J (rS (kM J (kM J (Q0 (V2 (W3 ?_)))))))
   exact aU J ⟨by rw[M4 (by rw[rR hpn];exact hpn),rR hpn],rfl⟩
  ·exact absurd oM hpn
 ·refine kM J (eP J J (eP J J (kM J (kM J (Q0 (rQ (rS (kM J (kO (V3 J J (fun _=>(Q0 (Y0 J (rS (kM J (kM J (Q0 (V2 (W3 ?_))))))))) (fun h=>absurd h dE)))))))))))
  exact aU J ⟨by rw[M4 (by rw[rC hpt hnf];decide),rC hpt hnf],rfl⟩
 ·simp only[List.cons_append,List.nil_append]
  have hd0:(dys rs).length=0:=by rw[hrs];rfl
  have hspd:=hl1.spot;obtain⟨⟨hsd,hsr,hsa,hsu,hpl⟩,h60,h20,hrdb,hcpb⟩:=rB hpt;have hp1:=fG hpl;have hp2:=fR hpl;have hm1:=hp1.hm;have hm2:=hp2.hm;have h21:=hp1.h2;have h22:=hp2.h2;have hN9:l2.length*l1.length<=81:=Nat.le_trans (Nat.mul_le_mul (show l2.length<=9 from oM) (show l1.length<=9 from oM)) dE;have hNi:((l2.length*l1.length:Nat):Int)=(l1.length:Int)*(l2.length:Int):=by rw[Int.natCast_mul,Int.mul_comm]
  have hdl:=uX hr;have hf1:=hfit.1;have hf2:=hfit.2;have hlv:=M1 (a4:=a4) (up:=up) (l1:=l1) (l2:=l2) hsr hsa hsu hpl hcpb hrdb hr hc rfl hf1;have hLg:MZ (l2.length*l1.length+1+(dys rs).length) (Sv.b6 (Sv.mk r al up l1 l2 rs cs)):=M0 oM hlv;have hTL:=FJ (up:=up) (l1:=l1) hrdb hr oM hLg;have hsys:gR ((l1.length:Int)*(l2.length:Int)+((dys rs).length:Int)) (Sv.b6 (Sv.mk r al up l1 l2 rs cs))=0:=Di oM hf2 hlv;have hmE:((l1.length:Int)*(l2.length:Int)+((dys rs).length:Int))=((l2.length*l1.length+(dys rs).length:Nat):Int):=oM
  have hL4:∀q∈(Sv.b6 (Sv.mk r al up l1 l2 rs cs)),q.length=4:=Sv.h6 _ _;refine kM J (eP J J (eP J J (kM J (kM J (Q0 (rQ (rS (kM J (kO (V3 J J (fun h=>absurd h dE) (fun _=>(Q0 (U0 J (Q1 (W0 (rQ (rS (aK J (cI J dE .h3 J (cI J dE .h2 J (kO (gB J J (fun s1 h1=>BA _ _ _ _ _ _ _ _ _ _ _ _ _ _ s1 h1.wf oM (hl1.ext hs h1.2.1) (hl2.ext hs h1.2.1) (hT.ext hs h1.2.1)) (fun h6=>?_) (fun h6=>?_)))))))))))))))))))))))
  ·have hih0:=h6
   have hih:=h6;rw[Bool.and_eq_true] at hih;have hTl:M.length=l1.length:=of_decide_eq_true hih.1;have hall:=hih.2;have hv0:∀u,0<=hv M l2.length (l2.length*l1.length) u/\hv M l2.length (l2.length*l1.length) u<=20000:=fun u=>EE oM hTl hall
   refine eC J (Q0 (U0 J (Q1 (W0 (rS (aK J (cI J dE .h3 J (cI J dE .h2 J (bB J J J (fun b7=>(kM J (eQ J (aK J (aO J .h2 J (kO (sO J (kO (Z4 J J (fun s1 h1=>yF _ _ _ _ _ _ _ _ _ _ _ _ _ _ s1 h1.wf oM (hl1.ext hs h1.2.1) (hl2.ext hs h1.2.1) (hT.ext hs h1.2.1) hp1 hp2 oM hall) (fun v1 A1 q1=>?_)))))))))))))))))));obtain⟨bp8,rfl,rfl⟩:=q1;refine kZ (aL J J .h3 J (by simp[eqV,eqA,eqL,kindEq,aB,V5 hl1.spot,V5 hl2.spot,V5 hr.spot,V5 hc.spot,V5 hT.spot,V5 hspd]) (kO (Z4 J J (fun s1 h1=>IF _ _ 1000 s1 h1.wf oM (h1.own .h1).whole) (fun v1 A1 q1=>?_))));obtain⟨br9,rfl,rfl⟩:=q1;refine kO (Re J J J .h1 (by rw[bO,lF];omega) oM oM ?_);rw[show ints (Ev.hpt M l2.length (l2.length*l1.length))=ints (tX M l2.length (l2.length*l1.length) (dys rs).length (Sv.b6 (Sv.mk r al up l1 l2 rs cs)) 0) from by rw[<-EG,hd0];exact(List.append_nil _).symm];refine kM J (Q0 (rQ (rS (kM J (eQ J (aK J (aK J (aO J .h4 J (kO (cO J (kM J (Q0 (W1 (U4 (fun j e A=>∃(k:Nat),e=[(5,.pointer (some ⟨bs,0,none⟩)),(7,.slice (some ⟨bp8,0,none⟩) ((l2.length*l1.length)+1+(dys rs).length) OPEN),(39,.slice (some ⟨bL,0,none⟩) (Sv.b6 (Sv.mk r al up l1 l2 rs cs)).length OPEN),(40,.int .i64 ((Sv.b6 (Sv.mk r al up l1 l2 rs cs)).length:Int)),(41,.int .i64 (k:Int))]/\A=(.row bp8 3 true (ints (tX M l2.length (l2.length*l1.length) (dys rs).length (Sv.b6 (Sv.mk r al up l1 l2 rs cs)) k))::(.row bL 107 true (aV (Sv.b6 (Sv.mk r al up l1 l2 rs cs)))::(.row bs 96 false ([.int .i64 d,.int .i64 r,.slice a1 l1.length c1,.slice a2 l2.length c2,.int .i64 al,.int .i64 up,.slice a3 rs.length c3,.slice a4 cs.length c4,.int .i64 ((l1.length:Int)*(l2.length:Int)+((dys rs).length:Int)),.slice (some ⟨bL,0,none⟩) (Sv.b6 (Sv.mk r al up l1 l2 rs cs)).length OPEN,.slice none 0 0])::[])))/\j=(Sv.b6 (Sv.mk r al up l1 l2 rs cs)).length-k/\k<=(Sv.b6 (Sv.mk r al up l1 l2 rs cs)).length) 700 844424930131968 281474976710656 ?_ (j:=_) (env2:=_) (A2:=_) ?_ ?_ ?_ ?_ ⟨0,rfl,rfl,rfl,Nat.zero_le _⟩))))))))))))))
   rotate_left
   ·omega
   ·omega
   ·exact(lc 5 J (lc 7 (by rw[hd0];rfl) (lc 39 J (lc 40 J (lc 41 J eU.nil)))))
   ·exact(.cons _ (.q (.cons _ (.q (.q (.cons _ (.cons _ .slnil)))))))
   rintro n hn j _ _ ⟨k,rfl,rfl,rfl,hk⟩;have hpl9:=iY (M:=M) (n:=l2.length) (N:=(l2.length*l1.length)) (T:=(dys rs).length) (ls:=(Sv.b6 (Sv.mk r al up l1 l2 rs cs))) (k:=k);refine rS (cX J J (fun h10=>?_) (fun h10=>?_))
   ·obtain⟨ga,gb,gne,gw1,gw2,y3,hx⟩:=hLg k oM
    have hab:=hTL.1 k oM;refine Q0 (rQ (Y0 J (Q1 (W0 (rQ (W1 (rS (cL (j:=k) J J oM oM (cI J dE .h1 (nO hL4 hx) (bA J J (fun b11=>(kZ (Q6 J J .here rfl rfl rfl rfl (Q0 (rS (aK J (aO J .here rfl (kM J (aI J J (fun s1 h1=>oG _ _ _ _ _ _ _ _ s1 h1.wf (hl1.ext hs h1.2.1) (hl2.ext hs h1.2.1) (h1.own .h3).whole.2.2.1 (h1.own .h3).whole.2.2.2.1 oM) (kZ (aL J J .here rfl (by simp[eqV,eqA,eqL,kindEq,aB,V5 hl1.spot,V5 hl2.spot,V5 hr.spot,V5 hc.spot,V5 hT.spot,V5 hspd]) (kO (dL J J (fun h12=>?_) (fun h12=>?_))))))))))))))))))))))))
    ·refine Q0 (Y0 J (rI (kM J (aK J (aO J .here rfl (kM J (aK J (aO J .here rfl (cL (j:=(lb (Sv.b6 (Sv.mk r al up l1 l2 rs cs)) k)) J J oM oM (kO (eD J .h1 (by first|omega|(simp;done)|(simp;omega)) (kM J (aK J (aO J .here rfl (cL (j:=(la (Sv.b6 (Sv.mk r al up l1 l2 rs cs)) k)) J J oM oM (kO (eD J .h1 (by first|omega|(simp;done)|(simp;omega)) (aK J (aO J .here rfl ?_)))))))))))))))))))
     have hva:=hv0 (la (Sv.b6 (Sv.mk r al up l1 l2 rs cs)) k);have hpa:(tX M l2.length (l2.length*l1.length) (dys rs).length (Sv.b6 (Sv.mk r al up l1 l2 rs cs)) k).getD (la (Sv.b6 (Sv.mk r al up l1 l2 rs cs)) k) 0=hv M l2.length (l2.length*l1.length) (la (Sv.b6 (Sv.mk r al up l1 l2 rs cs)) k):=kA oM;refine aW J J oM (kO (oB J (cL (j:=(lb (Sv.b6 (Sv.mk r al up l1 l2 rs cs)) k)) J J oM oM (kZ (W7 J J .h1 (by first|omega|(simp;done)|(simp[cU];omega)|(simp;omega)) (Q0 (Z1 (W0 (rI (aW J J oM (kM J (Q0 (W0 ?_)))))))))))));exact⟨rfl,_,_,_,(show(Sv.b6 (Sv.mk r al up l1 l2 rs cs)).length-(k+1)<(Sv.b6 (Sv.mk r al up l1 l2 rs cs)).length-k from oM),lL,(.cons _ (.q (.q (.q .slnil)))),⟨k+1,rfl,(by rw[HX oM oM oM]),rfl,oM⟩⟩
    ·refine Q0 (U0 J (Q1 (Z1 (W0 (rI (aW J J oM (kM J (Q0 (W0 ?_)))))))))
     exact⟨rfl,_,_,_,(show(Sv.b6 (Sv.mk r al up l1 l2 rs cs)).length-(k+1)<(Sv.b6 (Sv.mk r al up l1 l2 rs cs)).length-k from oM),lL,(.cons _ (.q (.q (.q .slnil)))),⟨k+1,rfl,(by rw[EH oM]),rfl,oM⟩⟩
   ·obtain rfl:k=(Sv.b6 (Sv.mk r al up l1 l2 rs cs)).length:=oM
    refine Q0 (rQ (U0 J (Y4 (Z2 (Z2 (Q3 (W0 (rQ (rS (kM J (eQ J (aK J (cI J dE .h2 J (kM J (kO (fQ J J (fun s1 h1=>wP _ ((l1.length:Int)*(l2.length:Int)+((dys rs).length:Int)) _ _ (Sv.b6 (Sv.mk r al up l1 l2 rs cs)) _ _ _ (tX M l2.length (l2.length*l1.length) (dys rs).length (Sv.b6 (Sv.mk r al up l1 l2 rs cs)) (Sv.b6 (Sv.mk r al up l1 l2 rs cs)).length) s1 h1.wf oM (RowsE.ownF (h1.own .h1) (Hv hsr hsa hsu hpl h60 h20 hrdb hcpb (hr.ext hs h1.2.1) (hc.ext hs h1.2.1) oM) oM) iY.symm (aN.own (h1.own .here) (HZ (Nat.le_refl _) hv0 hLg) (by rw[iY];omega)) hsys) (fun h13=>?_) (fun h13=>?_)))))))))))))))))
    ·have hpb:=h13
     refine kO (V3 J J (fun h=>absurd h dE) (fun _=>(Q0 (U0 J (Q1 (W0 (rS (kM J (Q0 (V2 ?_))))))))));exact aU J ⟨by rw[M6 (mS hpt hfit) hih0 ((Dl hmE hv0 hLg hTL).1 hpb)],rfl⟩
    ·have hpb:=h13
     refine kO (V3 J J (fun _=>(Q0 (Y0 J (rS (kM J (Q0 (V2 (W3 ?_)))))))) (fun h=>absurd h dE));exact aU J ⟨by rw[H0 (mS hpt hfit) (fun q=>hpb ((Dl hmE hv0 hLg hTL).2 q))],rfl⟩
  ·have hih0:=h6
   refine eC J (Q0 (Y0 J (rS (kM J (Q0 (V2 (W3 ?_)))))));exact aU J ⟨by rw[M5 (mS hpt hfit) hih0],rfl⟩
 ·simp only[List.cons_append,List.nil_append]
  have hspd:∀b,(some ⟨bd,0,none⟩:Option Addr)=some b->b.spot=none:=fun b hb=>by cases hb;rfl
  have hdp:=HL hne;obtain⟨⟨hsd,hsr,hsa,hsu,hpl⟩,h60,h20,hrdb,hcpb⟩:=rB hpt;have hp1:=fG hpl;have hp2:=fR hpl;have hm1:=hp1.hm;have hm2:=hp2.hm;have h21:=hp1.h2;have h22:=hp2.h2;have hN9:l2.length*l1.length<=81:=Nat.le_trans (Nat.mul_le_mul (show l2.length<=9 from oM) (show l1.length<=9 from oM)) dE;have hNi:((l2.length*l1.length:Nat):Int)=(l1.length:Int)*(l2.length:Int):=by rw[Int.natCast_mul,Int.mul_comm]
  have hdl:=uX hr;have hf1:=hfit.1;have hf2:=hfit.2;have hlv:=M1 (a4:=a4) (up:=up) (l1:=l1) (l2:=l2) hsr hsa hsu hpl hcpb hrdb hr hc rfl hf1;have hLg:MZ (l2.length*l1.length+1+(dys rs).length) (Sv.b6 (Sv.mk r al up l1 l2 rs cs)):=M0 oM hlv;have hTL:=FJ (up:=up) (l1:=l1) hrdb hr oM hLg;have hsys:gR ((l1.length:Int)*(l2.length:Int)+((dys rs).length:Int)) (Sv.b6 (Sv.mk r al up l1 l2 rs cs))=0:=Di oM hf2 hlv;have hmE:((l1.length:Int)*(l2.length:Int)+((dys rs).length:Int))=((l2.length*l1.length+(dys rs).length:Nat):Int):=oM
  have hL4:∀q∈(Sv.b6 (Sv.mk r al up l1 l2 rs cs)),q.length=4:=Sv.h6 _ _;refine kM J (eP J J (eP J J (kM J (kM J (Q0 (rQ (rS (kM J (kO (V3 J J (fun h=>absurd h dE) (fun _=>(Q0 (U0 J (Q1 (W0 (rQ (rS (aK J (cI J dE .h4 J (cI J dE .h3 J (kO (gB J J (fun s1 h1=>BA _ _ _ _ _ _ _ _ _ _ _ _ _ _ s1 h1.wf oM (hl1.ext hs h1.2.1) (hl2.ext hs h1.2.1) (hT.ext hs h1.2.1)) (fun h17=>?_) (fun h17=>?_)))))))))))))))))))))))
  ·have hih0:=h17
   have hih:=h17;rw[Bool.and_eq_true] at hih;have hTl:M.length=l1.length:=of_decide_eq_true hih.1;have hall:=hih.2;have hv0:∀u,0<=hv M l2.length (l2.length*l1.length) u/\hv M l2.length (l2.length*l1.length) u<=20000:=fun u=>EE oM hTl hall
   refine eC J (Q0 (U0 J (Q1 (W0 (rS (aK J (cI J dE .h4 J (cI J dE .h3 J (bB J J J (fun b18=>(kM J (eQ J (aK J (aO J .h2 J (kO (cO J (kO (Z4 J J (fun s1 h1=>yF _ _ _ _ _ _ _ _ _ _ _ _ _ _ s1 h1.wf oM (hl1.ext hs h1.2.1) (hl2.ext hs h1.2.1) (hT.ext hs h1.2.1) hp1 hp2 oM hall) (fun v1 A1 q1=>?_)))))))))))))))))));obtain⟨bp19,rfl,rfl⟩:=q1;refine kZ (aL J J .h3 J (by simp[eqV,eqA,eqL,kindEq,aB,V5 hl1.spot,V5 hl2.spot,V5 hr.spot,V5 hc.spot,V5 hT.spot,V5 hspd]) (kO (Z4 J J (fun s1 h1=>MY _ _ 1000 (dys rs).length s1 h1.wf oM (h1.own .h1).whole ⟨hdp,oM⟩) (fun v1 A1 q1=>?_))));obtain⟨br20,rfl,rfl⟩:=q1;refine kO (cK J J (fH.own .here (by rw[bO,List.length_replicate,Nat.mul_one];exact Nat.beq_refl _) (fun q=>by have q2:=congrArg List.length q;rw[bO,List.length_replicate] at q2;exact absurd q2 (by show ¬_=0;omega))) .h1 (by rw[bO,lF,Nat.mul_one]) (.inl ⟨rfl,rfl⟩) oM oM oM (fun b99=>?_));rw[EG (ls:=(Sv.b6 (Sv.mk r al up l1 l2 rs cs))) (T:=(dys rs).length)];refine kM J (Q0 (rQ (rS (kM J (eQ J (aK J (aK J (aO J .h4 J (kO (cO J (kM J (Q0 (W1 (U4 (fun j e A=>∃(k:Nat),e=[(5,.pointer (some ⟨bs,0,none⟩)),(7,.slice (some ⟨b99,0,none⟩) ((l2.length*l1.length)+1+(dys rs).length) OPEN),(39,.slice (some ⟨bL,0,none⟩) (Sv.b6 (Sv.mk r al up l1 l2 rs cs)).length OPEN),(40,.int .i64 ((Sv.b6 (Sv.mk r al up l1 l2 rs cs)).length:Int)),(41,.int .i64 (k:Int))]/\A=(.row b99 3 true (ints (tX M l2.length (l2.length*l1.length) (dys rs).length (Sv.b6 (Sv.mk r al up l1 l2 rs cs)) k))::(.row bL 107 true (aV (Sv.b6 (Sv.mk r al up l1 l2 rs cs)))::(.row bs 96 false ([.int .i64 d,.int .i64 r,.slice a1 l1.length c1,.slice a2 l2.length c2,.int .i64 al,.int .i64 up,.slice a3 rs.length c3,.slice a4 cs.length c4,.int .i64 ((l1.length:Int)*(l2.length:Int)+((dys rs).length:Int)),.slice (some ⟨bL,0,none⟩) (Sv.b6 (Sv.mk r al up l1 l2 rs cs)).length OPEN,.slice (some ⟨bd,0,none⟩) (dys rs).length OPEN])::(.row bd 86 true (aV (dys rs))::[]))))/\j=(Sv.b6 (Sv.mk r al up l1 l2 rs cs)).length-k/\k<=(Sv.b6 (Sv.mk r al up l1 l2 rs cs)).length) 700 844424930131968 281474976710656 ?_ (j:=_) (env2:=_) (A2:=_) ?_ ?_ ?_ ?_ ⟨0,rfl,rfl,rfl,Nat.zero_le _⟩))))))))))))))
   rotate_left
   ·omega
   ·omega
   ·exact lL
   ·exact(.q (.cons _ (.cons _ (.q (.q (.q (.cons _ (.cons _ .slnil))))))))
   rintro n hn j _ _ ⟨k,rfl,rfl,rfl,hk⟩;have hpl9:=iY (M:=M) (n:=l2.length) (N:=(l2.length*l1.length)) (T:=(dys rs).length) (ls:=(Sv.b6 (Sv.mk r al up l1 l2 rs cs))) (k:=k);refine rS (cX J J (fun h21=>?_) (fun h21=>?_))
   ·obtain⟨ga,gb,gne,gw1,gw2,y3,hx⟩:=hLg k oM
    have hab:=hTL.1 k oM;refine Q0 (rQ (Y0 J (Q1 (W0 (rQ (W1 (rS (cL (j:=k) J J oM oM (cI J dE .h1 (nO hL4 hx) (bA J J (fun b22=>(kZ (Q6 J J .here rfl rfl rfl rfl (Q0 (rS (aK J (aO J .here rfl (kM J (aI J J (fun s1 h1=>oG _ _ _ _ _ _ _ _ s1 h1.wf (hl1.ext hs h1.2.1) (hl2.ext hs h1.2.1) (h1.own .h3).whole.2.2.1 (h1.own .h3).whole.2.2.2.1 oM) (kZ (aL J J .here rfl (by simp[eqV,eqA,eqL,kindEq,aB,V5 hl1.spot,V5 hl2.spot,V5 hr.spot,V5 hc.spot,V5 hT.spot,V5 hspd]) (kO (dL J J (fun h23=>?_) (fun h23=>?_))))))))))))))))))))))))
    ·refine Q0 (Y0 J (rI (kM J (aK J (aO J .here rfl (kM J (aK J (aO J .here rfl (cL (j:=(lb (Sv.b6 (Sv.mk r al up l1 l2 rs cs)) k)) J J oM oM (kO (eD J .h1 (by first|omega|(simp;done)|(simp;omega)) (kM J (aK J (aO J .here rfl (cL (j:=(la (Sv.b6 (Sv.mk r al up l1 l2 rs cs)) k)) J J oM oM (kO (eD J .h1 (by first|omega|(simp;done)|(simp;omega)) (aK J (aO J .here rfl ?_)))))))))))))))))))
     have hva:=hv0 (la (Sv.b6 (Sv.mk r al up l1 l2 rs cs)) k);have hpa:(tX M l2.length (l2.length*l1.length) (dys rs).length (Sv.b6 (Sv.mk r al up l1 l2 rs cs)) k).getD (la (Sv.b6 (Sv.mk r al up l1 l2 rs cs)) k) 0=hv M l2.length (l2.length*l1.length) (la (Sv.b6 (Sv.mk r al up l1 l2 rs cs)) k):=kA oM;refine aW J J oM (kO (oB J (cL (j:=(lb (Sv.b6 (Sv.mk r al up l1 l2 rs cs)) k)) J J oM oM (kZ (W7 J J .h1 (by first|omega|(simp;done)|(simp[cU];omega)|(simp;omega)) (Q0 (Z1 (W0 (rI (aW J J oM (kM J (Q0 (W0 ?_)))))))))))));exact⟨rfl,_,_,_,(show(Sv.b6 (Sv.mk r al up l1 l2 rs cs)).length-(k+1)<(Sv.b6 (Sv.mk r al up l1 l2 rs cs)).length-k from oM),lL,(.cons _ (.q (.q (.q (.q .slnil))))),⟨k+1,rfl,(by rw[HX oM oM oM]),rfl,oM⟩⟩
    ·refine Q0 (U0 J (Q1 (Z1 (W0 (rI (aW J J oM (kM J (Q0 (W0 ?_)))))))))
     exact⟨rfl,_,_,_,(show(Sv.b6 (Sv.mk r al up l1 l2 rs cs)).length-(k+1)<(Sv.b6 (Sv.mk r al up l1 l2 rs cs)).length-k from oM),lL,(.cons _ (.q (.q (.q (.q .slnil))))),⟨k+1,rfl,(by rw[EH oM]),rfl,oM⟩⟩
   ·obtain rfl:k=(Sv.b6 (Sv.mk r al up l1 l2 rs cs)).length:=oM
    refine Q0 (rQ (U0 J (Y4 (Z2 (Z2 (Q3 (W0 (rQ (rS (kM J (eQ J (aK J (cI J dE .h2 J (kM J (kO (fQ J J (fun s1 h1=>wP _ ((l1.length:Int)*(l2.length:Int)+((dys rs).length:Int)) _ _ (Sv.b6 (Sv.mk r al up l1 l2 rs cs)) _ _ _ (tX M l2.length (l2.length*l1.length) (dys rs).length (Sv.b6 (Sv.mk r al up l1 l2 rs cs)) (Sv.b6 (Sv.mk r al up l1 l2 rs cs)).length) s1 h1.wf oM (RowsE.ownF (h1.own .h1) (Hv hsr hsa hsu hpl h60 h20 hrdb hcpb (hr.ext hs h1.2.1) (hc.ext hs h1.2.1) oM) oM) iY.symm (aN.own (h1.own .here) (HZ (Nat.le_refl _) hv0 hLg) (by rw[iY];omega)) hsys) (fun h24=>?_) (fun h24=>?_)))))))))))))))))
    ·have hpb:=h24
     refine kO (V3 J J (fun h=>absurd h dE) (fun _=>(Q0 (U0 J (Q1 (W0 (rS (kM J (Q0 (V2 ?_))))))))));exact aU J ⟨by rw[M6 (mS hpt hfit) hih0 ((Dl hmE hv0 hLg hTL).1 hpb)],rfl⟩
    ·have hpb:=h24
     refine kO (V3 J J (fun _=>(Q0 (Y0 J (rS (kM J (Q0 (V2 (W3 ?_)))))))) (fun h=>absurd h dE));exact aU J ⟨by rw[H0 (mS hpt hfit) (fun q=>hpb ((Dl hmE hv0 hLg hTL).2 q))],rfl⟩
  ·have hih0:=h17
   refine eC J (Q0 (Y0 J (rS (kM J (Q0 (V2 (W3 ?_)))))));exact aU J ⟨by rw[M5 (mS hpt hfit) hih0],rfl⟩
set_option maxHeartbeats 4000000 in
theorem Do(n:Nat)(d r al up:Int)(a1 a2:Option Addr)(c1 c2:Nat)(l1 l2:List Int)(a3 a4:Option Addr)(c3 c4:Nat)(rs cs:List (List Int))(a:Option Addr)(cap:Nat)(M:List (List Int))(s:St)(hs:Wf s)(hn:11258999068426240<=n)(hl1:aN s a1 l1)(hl2:aN s a2 l2)(hr:RowsE s 7 a3 rs)(hc:RowsE s 6 a4 cs)(hT:pI s a M):bS Tryz.prog (bX bZ) X (n+9000) 32 [.agg ⟨[.int .i64 d,.int .i64 r,.slice a1 l1.length c1,.slice a2 l2.length c2,.int .i64 al,.int .i64 up,.slice a3 rs.length c3,.slice a4 cs.length c4]⟩,.agg ⟨[.slice a M.length cap]⟩] s (fun v A=>v = .int .i64 (M3 (Bm (oO ((1<=d/\d<=99999)/\(1<=r/\r<=99999)/\(0<=al/\al<=100000)/\(0<=up/\up<=100000)/\bW l1 l2=true) l1 l2 rs cs) (xY (l1.length:Int) (l2.length:Int) rs (Sv.b6 (Sv.mk r al up l1 l2 rs cs)))) (decide (M.length=l1.length) && gA l2.length M) (Uc M l2.length (l2.length*l1.length) (dys rs).length (Sv.b6 (Sv.mk r al up l1 l2 rs cs))))/\A=[]):=by
 refine enter P5 rfl hs ?_;unfold Oo;have hlen1:=hl1.len;have hlen2:=hl2.len;have hlen3:=hr.len;have hlen4:=hc.len;have hlenT:=hT.len;refine rS (aZ J J J (fun b1=>(aZ J J J (fun b2=>(kM J (Q0 (rS (cI J dE .h1 J (aI J J (fun s1 h1=>L6 _ _ _ _ _ _ _ _ _ _ _ _ _ _ _ _ _ s1 h1.wf oM (hl1.ext hs h1.2.1) (hl2.ext hs h1.2.1) (hr.ext hs h1.2.1) (hc.ext hs h1.2.1)) (kM J (Q0 (rQ (rS (kM J (kO (V3 J J (fun h3=>?_) (fun h3=>?_)))))))))))))))))
 ·refine Q0 (Y0 J (rS (kM J (kM J (Q0 (V2 (W3 ?_)))))))
  exact aU J ⟨by rw[M4 aM],rfl⟩
 ·have hck:Bm (oO ((1<=d/\d<=99999)/\(1<=r/\r<=99999)/\(0<=al/\al<=100000)/\(0<=up/\up<=100000)/\bW l1 l2=true) l1 l2 rs cs) (xY (l1.length:Int) (l2.length:Int) rs (Sv.b6 (Sv.mk r al up l1 l2 rs cs)))=0:=oM
  have hpt:oO ((1<=d/\d<=99999)/\(1<=r/\r<=99999)/\(0<=al/\al<=100000)/\(0<=up/\up<=100000)/\bW l1 l2=true) l1 l2 rs cs=0:=by
   refine Decidable.byContradiction (fun hp=>?_);rw[rR hp] at hck;exact hp hck
  have hfit:xY (l1.length:Int) (l2.length:Int) rs (Sv.b6 (Sv.mk r al up l1 l2 rs cs)):=by
   refine Decidable.byContradiction (fun hf=>?_);rw[rC hpt hf] at hck;exact absurd hck dE
  obtain⟨⟨hsd,hsr,hsa,hsu,hpl⟩,h60,h20,hrdb,hcpb⟩:=rB hpt;have hp1:=fG hpl;have hp2:=fR hpl;have hm1:=hp1.hm;have hm2:=hp2.hm;have h21:=hp1.h2;have h22:=hp2.h2;have hN9:l2.length*l1.length<=81:=Nat.le_trans (Nat.mul_le_mul (show l2.length<=9 from oM) (show l1.length<=9 from oM)) dE;have hNi:((l2.length*l1.length:Nat):Int)=(l1.length:Int)*(l2.length:Int):=by rw[Int.natCast_mul,Int.mul_comm]
  have hdl:=uX hr;have hf1:=hfit.1;have hf2:=hfit.2;have hlv:=M1 (a4:=a4) (up:=up) (l1:=l1) (l2:=l2) hsr hsa hsu hpl hcpb hrdb hr hc rfl hf1;have hLg:MZ (l2.length*l1.length+1+(dys rs).length) (Sv.b6 (Sv.mk r al up l1 l2 rs cs)):=M0 oM hlv;have hTL:=FJ (up:=up) (l1:=l1) hrdb hr oM hLg;have hsys:gR ((l1.length:Int)*(l2.length:Int)+((dys rs).length:Int)) (Sv.b6 (Sv.mk r al up l1 l2 rs cs))=0:=Di oM hf2 hlv;have hmE:((l1.length:Int)*(l2.length:Int)+((dys rs).length:Int))=((l2.length*l1.length+(dys rs).length:Nat):Int):=oM
  have hL4:∀q∈(Sv.b6 (Sv.mk r al up l1 l2 rs cs)),q.length=4:=Sv.h6 _ _;refine Q0 (U0 J (Q1 (W0 (rS (aK J (cI J dE .h1 J (bA J J (fun b4=>(kZ (Q6 J J .here rfl rfl rfl rfl (Q0 (rQ (rS (cI J dE .here rfl (cI J dE .h1 J (kO (gB J J (fun s1 h1=>Cq _ _ _ _ _ _ _ _ _ _ _ _ _ _ s1 h1.wf oM (hl1.ext hs h1.2.1) (hl2.ext hs h1.2.1) (hT.ext hs h1.2.1)) (fun h5=>?_) (fun h5=>?_))))))))))))))))))
  ·have hih0:=h5
   have hih:=h5;rw[Bool.and_eq_true] at hih;have hTl:M.length=l1.length:=of_decide_eq_true hih.1;have hall:=hih.2;have hv0:∀u,0<=hv M l2.length (l2.length*l1.length) u/\hv M l2.length (l2.length*l1.length) u<=20000:=fun u=>EE oM hTl hall
   refine eC J (Q0 (U0 J (Q1 (W0 (rS (cI J dE .h2 J (kO (Z4 J J (fun s1 h1=>sZ _ _ _ _ _ _ _ _ _ _ _ _ _ _ _ _ _ s1 h1.wf oM (hl1.ext hs h1.2.1) (hl2.ext hs h1.2.1) (hr.ext hs h1.2.1) (hc.ext hs h1.2.1) hpt) (fun v1 A1 q1=>?_)))))))));obtain⟨bm6,rfl,rfl⟩:=q1;refine kM J (Q0 (rS (cI J dE .h1 J (aI J J (fun s1 h1=>yB _ _ _ _ _ _ _ _ _ _ _ s1 h1.wf oM (hl1.ext hs h1.2.1) (hl2.ext hs h1.2.1) oM) (kM J (Q0 (rQ (rS (kM J (Q0 (W1 (U4 (fun j e A=>∃(k:Nat),e=[(2,.pointer (some ⟨b1,0,none⟩)),(3,.pointer (some ⟨b2,0,none⟩)),(6,.pointer (some ⟨b4,0,none⟩)),(7,.slice (some ⟨bm6,0,none⟩) (Sv.b6 (Sv.mk r al up l1 l2 rs cs)).length OPEN),(8,.int .i64 ((l1.length:Int)*(l2.length:Int))),(9,.int .i64 (k:Int))]/\A=(.row bm6 107 true (aV (Sv.b6 (Sv.mk r al up l1 l2 rs cs)))::(.row b4 33 false ([.int .i64 d,.int .i64 r,.slice a1 l1.length c1,.slice a2 l2.length c2,.int .i64 al,.int .i64 up])::(.row b2 69 false ([.slice a M.length cap])::(.row b1 37 false ([.int .i64 d,.int .i64 r,.slice a1 l1.length c1,.slice a2 l2.length c2,.int .i64 al,.int .i64 up,.slice a3 rs.length c3,.slice a4 cs.length c4])::[]))))/\j=(Sv.b6 (Sv.mk r al up l1 l2 rs cs)).length-k/\k<=(Sv.b6 (Sv.mk r al up l1 l2 rs cs)).length/\(∀i,i<k->Ub M l2.length (l2.length*l1.length) (la (Sv.b6 (Sv.mk r al up l1 l2 rs cs)) i) (lb (Sv.b6 (Sv.mk r al up l1 l2 rs cs)) i) (lw (Sv.b6 (Sv.mk r al up l1 l2 rs cs)) i))) 600 1125899906842624 281474976710656 ?_ (j:=_) (env2:=_) (A2:=_) ?_ ?_ ?_ ?_ ⟨0,rfl,rfl,rfl,Nat.zero_le _,(fun i hi=>oM)⟩))))))))))))
   rotate_left
   ·omega
   ·omega
   ·exact lL
   ·exact(.q (.q (.q (.q .slnil))))
   rintro n hn j _ _ ⟨k,rfl,rfl,rfl,hk,hkp⟩;refine rQ (rS (kM J (kM J (kO (cO J (cX J J (fun h7=>?_) (fun h7=>?_)))))))
   ·obtain⟨ga,gb,gne,gw1,gw2,y3,hx⟩:=hLg k oM
    have hab:=hTL.1 k oM;refine Q0 (Y0 J (Q1 (W0 (rQ (W1 (rS (cI J dE .h1 J (cI J dE .h2 J (kM J (kM J (cL (j:=k) J J oM oM (cI J dE .here (nO hL4 hx) (kO (gB J J (fun s1 h1=>TA _ _ _ _ _ _ _ _ _ _ _ _ _ _ (la (Sv.b6 (Sv.mk r al up l1 l2 rs cs)) k) (lb (Sv.b6 (Sv.mk r al up l1 l2 rs cs)) k) _ _ s1 h1.wf oM (hl1.ext hs h1.2.1) (hl2.ext hs h1.2.1) (hT.ext hs h1.2.1) hTl hall oM oM oM oM oM) (fun h8=>?_) (fun h8=>?_)))))))))))))))
    ·have hk9:=of_decide_eq_true h8
     refine eC J (Q0 (U0 J (Q1 (Z1 (W0 (rI (kM J (aW J J oM (kM J (Q0 (W0 ?_)))))))))));exact⟨rfl,_,_,_,(show(Sv.b6 (Sv.mk r al up l1 l2 rs cs)).length-(k+1)<(Sv.b6 (Sv.mk r al up l1 l2 rs cs)).length-k from oM),lL,(.q (.q (.q (.q .slnil)))),⟨k+1,rfl,rfl,rfl,oM,(fun i hi=>by rcases Nat.lt_or_eq_of_le (Nat.le_of_lt_succ hi) with q|q;exact hkp i q;rw[q];exact hk9)⟩⟩
    ·have hk9:=of_decide_eq_false h8
     refine eC J (Q0 (Y0 J (rS (kM J (Q0 (V2 (Y6 (W3 (W3 (Y6 (W3 ?_)))))))))));exact aU J ⟨by rw[H0 (mS hpt hfit) (fun q=>hk9 (q.1 k oM))],rfl⟩
   ·obtain rfl:k=(Sv.b6 (Sv.mk r al up l1 l2 rs cs)).length:=oM
    refine Q0 (U0 J (Y4 (Z2 (Z2 (Q3 (W0 (rQ (rS (kM J (Q0 (W1 (U4 (fun j e A=>∃(w:Nat),e=[(2,.pointer (some ⟨b1,0,none⟩)),(3,.pointer (some ⟨b2,0,none⟩)),(6,.pointer (some ⟨b4,0,none⟩)),(7,.slice (some ⟨bm6,0,none⟩) (Sv.b6 (Sv.mk r al up l1 l2 rs cs)).length OPEN),(8,.int .i64 ((l1.length:Int)*(l2.length:Int))),(10,.int .i64 (w:Int))]/\A=(.row bm6 107 true (aV (Sv.b6 (Sv.mk r al up l1 l2 rs cs)))::(.row b4 33 false ([.int .i64 d,.int .i64 r,.slice a1 l1.length c1,.slice a2 l2.length c2,.int .i64 al,.int .i64 up])::(.row b2 69 false ([.slice a M.length cap])::(.row b1 37 false ([.int .i64 d,.int .i64 r,.slice a1 l1.length c1,.slice a2 l2.length c2,.int .i64 al,.int .i64 up,.slice a3 rs.length c3,.slice a4 cs.length c4])::[]))))/\j=(dys rs).length-w/\w<=(dys rs).length/\(∀i,i<w->EF M l2.length (l2.length*l1.length) (Sv.b6 (Sv.mk r al up l1 l2 rs cs)) ((l2.length*l1.length)+1+i) (Sv.b6 (Sv.mk r al up l1 l2 rs cs)).length<=BN M l2.length (l2.length*l1.length) (Sv.b6 (Sv.mk r al up l1 l2 rs cs)) ((l2.length*l1.length)+1+i) (Sv.b6 (Sv.mk r al up l1 l2 rs cs)).length)) 1500 1688849860263936 281474976710656 ?_ (j:=_) (env2:=_) (A2:=_) ?_ ?_ ?_ ?_ ⟨0,rfl,rfl,rfl,Nat.zero_le _,(fun i hi=>oM)⟩))))))))))))
    rotate_left
    ·omega
    ·omega
    ·exact lL
    ·exact(.q (.q (.q (.q .slnil))))
    rintro n hn j _ _ ⟨w,rfl,rfl,rfl,hw,hlh⟩;refine rQ (rS (kM J (aK J (aO J .h3 J (kO (Z4 J J (fun s1 h1=>wI _ a3 c3 rs.length rs s1 h1.wf oM J (hr.ext hs h1.2.1) oM) (fun v1 A1 q1=>?_)))))));obtain⟨aT,cT,UT,rfl,hAT,hRT,hWT,hlT⟩:=q1;rw[hAT];refine aJ J (by first|exact hRT.spot|exact hl1.spot|exact hl2.spot|exact hT.spot|exact hr.spot|exact hc.spot) (cX J J (fun h9=>?_) (fun h9=>?_))
    ·refine Q0 (Y0 J (Q1 (W0 (rQ (W1 (rS (kM J (Q0 (rS (kM J (Q0 (rQ (rS (kM J (Q0 (W1 (U4 (fun j e A=>∃(k:Nat),e=[(2,.pointer (some ⟨b1,0,none⟩)),(3,.pointer (some ⟨b2,0,none⟩)),(6,.pointer (some ⟨b4,0,none⟩)),(7,.slice (some ⟨bm6,0,none⟩) (Sv.b6 (Sv.mk r al up l1 l2 rs cs)).length OPEN),(8,.int .i64 ((l1.length:Int)*(l2.length:Int))),(10,.int .i64 (w:Int)),(11,.int .i64 (EF M l2.length (l2.length*l1.length) (Sv.b6 (Sv.mk r al up l1 l2 rs cs)) ((l2.length*l1.length)+1+w) k)),(12,.int .i64 (BN M l2.length (l2.length*l1.length) (Sv.b6 (Sv.mk r al up l1 l2 rs cs)) ((l2.length*l1.length)+1+w) k)),(13,.int .i64 (k:Int))]/\A=(.row bm6 107 true (aV (Sv.b6 (Sv.mk r al up l1 l2 rs cs)))::(.row b4 33 false ([.int .i64 d,.int .i64 r,.slice a1 l1.length c1,.slice a2 l2.length c2,.int .i64 al,.int .i64 up])::(.row b2 69 false ([.slice a M.length cap])::(.row b1 37 false ([.int .i64 d,.int .i64 r,.slice a1 l1.length c1,.slice a2 l2.length c2,.int .i64 al,.int .i64 up,.slice a3 rs.length c3,.slice a4 cs.length c4])::[]))))/\j=(Sv.b6 (Sv.mk r al up l1 l2 rs cs)).length-k/\k<=(Sv.b6 (Sv.mk r al up l1 l2 rs cs)).length) 600 1125899906842624 281474976710656 ?_ (j:=_) (env2:=_) (A2:=_) ?_ ?_ ?_ ?_ ⟨0,rfl,rfl,rfl,Nat.zero_le _⟩)))))))))))))))))
     rotate_left
     ·omega
     ·omega
     ·exact lL
     ·exact(sR (.q (.q (.q (.q .slnil)))))
     rintro n hn j _ _ ⟨k,rfl,rfl,rfl,hk⟩;have hhb:=HY hv0 hLg (f:=((l2.length*l1.length)+1+w)) k hk;have hlb:=R2 hv0 hLg (f:=((l2.length*l1.length)+1+w)) k hk;have hva:=hv0 (la (Sv.b6 (Sv.mk r al up l1 l2 rs cs)) k);have hvb:=hv0 (lb (Sv.b6 (Sv.mk r al up l1 l2 rs cs)) k);refine rQ (rS (kM J (kM J (kO (cO J (cX J J (fun h10=>?_) (fun h10=>?_)))))))
     ·obtain⟨ga,gb,gne,gw1,gw2,y3,hx⟩:=hLg k oM
      have hab:=hTL.1 k oM;refine Q0 (Y0 J (Q1 (W0 (rQ (W1 (rQ (rS (kM J (kM J (cL (j:=k) J J oM oM (aK J (aO J .here (Dn hL4 hx) (kM J (aW J J oM (kM J (aW J J oM (kO (bJ J J (fun h11=>?_) (fun h11=>?_)))))))))))))))))))
      ·refine Q0 (Y0 J (rI (kM J (cI J dE .h1 J (cI J dE .h2 J (kM J (kM J (cL (j:=k) J J oM oM (aK J (aO J .here (Dm hL4 hx) (kM J (kM J (cL (j:=k) J J oM oM (aK J (aO J .here (tY hL4 hx) (aI J J (fun s1 h1=>qC _ _ _ _ _ _ _ _ _ _ _ _ _ _ ((la (Sv.b6 (Sv.mk r al up l1 l2 rs cs)) k)) s1 h1.wf oM (hl1.ext hs h1.2.1) (hl2.ext hs h1.2.1) (hT.ext hs h1.2.1) hTl hall oM oM oM) (kZ (aL J J .here (tY hL4 hx) (by simp[eqV,kindEq,aB]) (aW J J oM (kO (oB J (kM J (Q0 (W0 (rS ?_)))))))))))))))))))))))))
       refine kM J (kM J (cL (j:=k) J J oM oM (aK J (aO J .here (Dm hL4 hx) (kM J (aW J J oM (kM J (aW J J oM (kO (bJ J J (fun h12=>?_) (fun h12=>?_)))))))))))
       ·refine Q0 (Y0 J (rI (kM J (cI J dE .h1 J (cI J dE .h2 J (kM J (kM J (cL (j:=k) J J oM oM (aK J (aO J .here (Dn hL4 hx) (kM J (kM J (cL (j:=k) J J oM oM (aK J (aO J .here (tY hL4 hx) (aI J J (fun s1 h1=>qC _ _ _ _ _ _ _ _ _ _ _ _ _ _ ((lb (Sv.b6 (Sv.mk r al up l1 l2 rs cs)) k)) s1 h1.wf oM (hl1.ext hs h1.2.1) (hl2.ext hs h1.2.1) (hT.ext hs h1.2.1) hTl hall oM oM oM) (kZ (aL J J .here (tY hL4 hx) (by simp[eqV,kindEq,aB]) (kO (bN J J oM (kO (A8 J (kM J (Q0 (Z1 (W0 ?_))))))))))))))))))))))))))
        refine rI (kM J (aW J J oM (kM J (Q0 (W0 ?_)))));have e12:BN M l2.length (l2.length*l1.length) (Sv.b6 (Sv.mk r al up l1 l2 rs cs)) ((l2.length*l1.length)+1+w) (k+1)=min (BN M l2.length (l2.length*l1.length) (Sv.b6 (Sv.mk r al up l1 l2 rs cs)) ((l2.length*l1.length)+1+w) k) (hv M l2.length (l2.length*l1.length) (la (Sv.b6 (Sv.mk r al up l1 l2 rs cs)) k)+(lw (Sv.b6 (Sv.mk r al up l1 l2 rs cs)) k)):=if_pos oM;have e11:EF M l2.length (l2.length*l1.length) (Sv.b6 (Sv.mk r al up l1 l2 rs cs)) ((l2.length*l1.length)+1+w) (k+1)=max (EF M l2.length (l2.length*l1.length) (Sv.b6 (Sv.mk r al up l1 l2 rs cs)) ((l2.length*l1.length)+1+w) k) (hv M l2.length (l2.length*l1.length) (lb (Sv.b6 (Sv.mk r al up l1 l2 rs cs)) k)-(lw (Sv.b6 (Sv.mk r al up l1 l2 rs cs)) k)):=if_pos oM;exact⟨rfl,_,_,_,(show(Sv.b6 (Sv.mk r al up l1 l2 rs cs)).length-(k+1)<(Sv.b6 (Sv.mk r al up l1 l2 rs cs)).length-k from oM),(lc 2 J (lc 3 J (lc 6 J (lc 7 J (lc 8 J (lc 10 J (lc 11 (by rw[e11];rfl) (lc 12 (by rw[e12];rfl) (lc 13 J eU.nil))))))))),(.q (.q (.q (.q .slnil)))),⟨k+1,rfl,rfl,rfl,oM⟩⟩
       ·refine Q0 (U0 J (Q1 (Z1 (W0 (rI (kM J (aW J J oM (kM J (Q0 (W0 ?_))))))))))
        have e12:BN M l2.length (l2.length*l1.length) (Sv.b6 (Sv.mk r al up l1 l2 rs cs)) ((l2.length*l1.length)+1+w) (k+1)=min (BN M l2.length (l2.length*l1.length) (Sv.b6 (Sv.mk r al up l1 l2 rs cs)) ((l2.length*l1.length)+1+w) k) (hv M l2.length (l2.length*l1.length) (la (Sv.b6 (Sv.mk r al up l1 l2 rs cs)) k)+(lw (Sv.b6 (Sv.mk r al up l1 l2 rs cs)) k)):=if_pos oM;have e11:EF M l2.length (l2.length*l1.length) (Sv.b6 (Sv.mk r al up l1 l2 rs cs)) ((l2.length*l1.length)+1+w) (k+1)=EF M l2.length (l2.length*l1.length) (Sv.b6 (Sv.mk r al up l1 l2 rs cs)) ((l2.length*l1.length)+1+w) k:=if_neg oM;exact⟨rfl,_,_,_,(show(Sv.b6 (Sv.mk r al up l1 l2 rs cs)).length-(k+1)<(Sv.b6 (Sv.mk r al up l1 l2 rs cs)).length-k from oM),(lc 2 J (lc 3 J (lc 6 J (lc 7 J (lc 8 J (lc 10 J (lc 11 (by rw[e11];rfl) (lc 12 (by rw[e12];rfl) (lc 13 J eU.nil))))))))),(.q (.q (.q (.q .slnil)))),⟨k+1,rfl,rfl,rfl,oM⟩⟩
      ·refine Q0 (U0 J (Q1 (W0 (rS (kM J (kM J (cL (j:=k) J J oM oM (aK J (aO J .here (Dm hL4 hx) (kM J (aW J J oM (kM J (aW J J oM (kO (bJ J J (fun h13=>?_) (fun h13=>?_))))))))))))))))
       ·refine Q0 (Y0 J (rI (kM J (cI J dE .h1 J (cI J dE .h2 J (kM J (kM J (cL (j:=k) J J oM oM (aK J (aO J .here (Dn hL4 hx) (kM J (kM J (cL (j:=k) J J oM oM (aK J (aO J .here (tY hL4 hx) (aI J J (fun s1 h1=>qC _ _ _ _ _ _ _ _ _ _ _ _ _ _ ((lb (Sv.b6 (Sv.mk r al up l1 l2 rs cs)) k)) s1 h1.wf oM (hl1.ext hs h1.2.1) (hl2.ext hs h1.2.1) (hT.ext hs h1.2.1) hTl hall oM oM oM) (kZ (aL J J .here (tY hL4 hx) (by simp[eqV,kindEq,aB]) (kO (bN J J oM (kO (A8 J (kM J (Q0 (Z1 (W0 ?_))))))))))))))))))))))))))
        refine rI (kM J (aW J J oM (kM J (Q0 (W0 ?_)))));have e12:BN M l2.length (l2.length*l1.length) (Sv.b6 (Sv.mk r al up l1 l2 rs cs)) ((l2.length*l1.length)+1+w) (k+1)=BN M l2.length (l2.length*l1.length) (Sv.b6 (Sv.mk r al up l1 l2 rs cs)) ((l2.length*l1.length)+1+w) k:=if_neg oM;have e11:EF M l2.length (l2.length*l1.length) (Sv.b6 (Sv.mk r al up l1 l2 rs cs)) ((l2.length*l1.length)+1+w) (k+1)=max (EF M l2.length (l2.length*l1.length) (Sv.b6 (Sv.mk r al up l1 l2 rs cs)) ((l2.length*l1.length)+1+w) k) (hv M l2.length (l2.length*l1.length) (lb (Sv.b6 (Sv.mk r al up l1 l2 rs cs)) k)-(lw (Sv.b6 (Sv.mk r al up l1 l2 rs cs)) k)):=if_pos oM;exact⟨rfl,_,_,_,(show(Sv.b6 (Sv.mk r al up l1 l2 rs cs)).length-(k+1)<(Sv.b6 (Sv.mk r al up l1 l2 rs cs)).length-k from oM),(lc 2 J (lc 3 J (lc 6 J (lc 7 J (lc 8 J (lc 10 J (lc 11 (by rw[e11];rfl) (lc 12 (by rw[e12];rfl) (lc 13 J eU.nil))))))))),(.q (.q (.q (.q .slnil)))),⟨k+1,rfl,rfl,rfl,oM⟩⟩
       ·refine Q0 (U0 J (Q1 (Z1 (W0 (rI (kM J (aW J J oM (kM J (Q0 (W0 ?_))))))))))
        have e12:BN M l2.length (l2.length*l1.length) (Sv.b6 (Sv.mk r al up l1 l2 rs cs)) ((l2.length*l1.length)+1+w) (k+1)=BN M l2.length (l2.length*l1.length) (Sv.b6 (Sv.mk r al up l1 l2 rs cs)) ((l2.length*l1.length)+1+w) k:=if_neg oM;have e11:EF M l2.length (l2.length*l1.length) (Sv.b6 (Sv.mk r al up l1 l2 rs cs)) ((l2.length*l1.length)+1+w) (k+1)=EF M l2.length (l2.length*l1.length) (Sv.b6 (Sv.mk r al up l1 l2 rs cs)) ((l2.length*l1.length)+1+w) k:=if_neg oM;exact⟨rfl,_,_,_,(show(Sv.b6 (Sv.mk r al up l1 l2 rs cs)).length-(k+1)<(Sv.b6 (Sv.mk r al up l1 l2 rs cs)).length-k from oM),(lc 2 J (lc 3 J (lc 6 J (lc 7 J (lc 8 J (lc 10 J (lc 11 (by rw[e11];rfl) (lc 12 (by rw[e12];rfl) (lc 13 J eU.nil))))))))),(.q (.q (.q (.q .slnil)))),⟨k+1,rfl,rfl,rfl,oM⟩⟩
     ·obtain rfl:k=(Sv.b6 (Sv.mk r al up l1 l2 rs cs)).length:=oM
      refine Q0 (U0 J (Y4 (Z2 (Z2 (Q3 (W0 (rS (kM J (kM J (kO (dL J J (fun h14=>?_) (fun h14=>?_))))))))))))
      ·refine Q0 (Y0 J (rS (kM J (Q0 (V2 (Y6 (W3 (W3 (Y6 (W3 ?_))))))))))
       exact aU J ⟨by rw[H0 (mS hpt hfit) (fun q=>by have q9:=q.2 w oM;omega)],rfl⟩
      ·refine Q0 (U0 J (Q1 (Z1 (W0 (rI (kM J (aW J J oM (kM J (Q0 (W0 ?_))))))))))
       exact⟨rfl,_,_,_,(show(dys rs).length-(w+1)<(dys rs).length-w from oM),lL,(.q (.q (.q (.q .slnil)))),⟨w+1,rfl,rfl,rfl,oM,(fun i hi=>by rcases Nat.lt_or_eq_of_le (Nat.le_of_lt_succ hi) with q|q;exact hlh i q;rw[q];omega)⟩⟩
    ·refine Q0 (U0 J (Y4 (Z2 (Z2 (Q3 (W0 (rS (kM J (Q0 (V2 ?_))))))))))
     obtain rfl:w=(dys rs).length:=oM
     exact aU J ⟨by rw[M6 (mS hpt hfit) hih0 ⟨hkp,hlh⟩],rfl⟩
  ·have hih0:=h5
   refine eC J (Q0 (Y0 J (rS (kM J (Q0 (V2 (W3 ?_)))))));exact aU J ⟨by rw[M5 (mS hpt hfit) hih0],rfl⟩
end
end Ev
end Go.Proofs.YtjkdkpckjgaplaaGreat
