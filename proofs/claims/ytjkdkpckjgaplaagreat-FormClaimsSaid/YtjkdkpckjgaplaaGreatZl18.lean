import Derived.Test.YtjkdkpckjgaplaaGreatZl17
set_option linter.unusedVariables false
set_option linter.unusedSimpArgs false
namespace Go.Proofs.YtjkdkpckjgaplaaGreat
open Go Go.RowKit
namespace Ev
section
variable{X:FuncId->List Value->St->(Value->St->Bool)->Bool}
theorem Mi(n:Nat)(m:Int)(al:Option Addr)(cl:Nat)(ls:List (List Int))(s:St)(hs:Wf s)(hn:281474976710656<=n)(hL:RowsE s 4 al ls)(hsys:fR m ls=0):bX Tryz.prog (bZ cB) X (n+400) 125 [.agg ⟨[.int .i64 m,.slice al ls.length cl]⟩] s (fun v A=>v = .int .i64 0/\A=[]):=by
 have h:=Me n m al cl ls s hs hn hL (X:=X);rw[hsys] at h;exact h
theorem Mj(n:Nat)(a:Option Addr)(cap:Nat)(l:List Int)(s:St)(hs:Wf s)(hn:281474976710656<=n)(hl:aN s a l)(h65:l.length<=65)(hwo:dA l l.length<=3600000000000):bX Tryz.prog (bZ cB) X (n+200) 120 [.slice a l.length cap] s (fun v A=>v = .bool true/\A=[]):=by
 have h:=L8 n a cap l s hs hn hl h65 (X:=X);rw[show TD l=true from decide_eq_true hwo] at h;exact h
set_option maxHeartbeats 4000000 in
theorem A6(n:Nat)(m:Int)(al:Option Addr)(cl:Nat)(ls:List (List Int))(aw:Option Addr)(cw:Nat)(w:List Int)(N:Nat)(s:St)(hs:Wf s)(hn:844424930131968<=n)(hL:RowsE s 4 al ls)(hW:aN s aw w)(hsys:fR m ls=0)(hN:(N:Int)=m+1)(hN66:N<=65)(hN0:0<N)(hLg:Bo N ls)(h400:ls.length<=400)(hwl:w.length=N)(hwo:dA w w.length<=3600000000000):bX Tryz.prog (bZ cB) X (n+700) 108 [.agg ⟨[.int .i64 m,.slice al ls.length cl]⟩,.slice aw w.length cw] s (fun v A=>v = .int .i64 0/\A=[]):=by
 refine enter Ko rfl hs ?_;unfold FX;have hlen:=hL.len;have hlenW:=hW.len;refine rS (aZ J J J (fun b1=>(kM J (Q0 (rQ (rS (dD J dE .here rfl (kO (aI J J (fun s1 h1=>Mi _ _ _ _ _ s1 h1.wf oM (hL.ext hs h1.2.1) hsys) (kM J (Q0 (rS (kM J (kO (V3 J J (fun h=>absurd h dE) (fun _=>(Q0 (U0 J (Q1 (W0 (rQ (rS (kM J (aJ J hW.spot (aH J (aL J .here rfl (aX J J oM ?_)))))))))))))))))))))))))));refine kO (V3 J J (fun h3=>?_) (fun h3=>?_))
 ·exfalso;omega
 ·refine kM J (kG (U2 J (kG (aI J J (fun s1 h1=>Mj _ _ _ _ s1 h1.wf oM (hW.ext hs h1.2.1) oM hwo) (kG (U6 J (bK J J J (Q0 (U0 J (Q1 (W0 (rS (kM J (Q0 (V2 ?_)))))))))))))))
  exact aO J ⟨rfl,rfl⟩
set_option maxHeartbeats 4000000 in
theorem CZ(n:Nat)(m:Int)(al:Option Addr)(cl:Nat)(ls:List (List Int))(aw:Option Addr)(cw:Nat)(w:List Int)(ap:Option Addr)(cp:Nat)(us:List (List Int))(bd:Int)(N:Nat)(s:St)(hs:Wf s)(hn:1688849860263936<=n)(hL:RowsE s 4 al ls)(hW:aN s aw w)(hU:RowsE s 2 ap us)(hsys:fR m ls=0)(hN:(N:Int)=m+1)(hN66:N<=65)(hN0:0<N)(hLg:Bo N ls)(h400:ls.length<=400)(hwl:w.length=N)(hwo:dA w w.length<=3600000000000):bX Tryz.prog (bZ cB) X (n+2500) 60 [.agg ⟨[.int .i64 m,.slice al ls.length cl]⟩,.slice aw w.length cw,.agg ⟨[.int .i64 bd,.slice ap us.length cp]⟩] s (fun v A=>((us.length<=400/\D9 ls us w N bd)/\v = .int .i64 0/\A=[])∨(¬(us.length<=400/\D9 ls us w N bd)/\v = .int .i64 24/\A=[])):=by
 refine enter O5 rfl hs ?_;unfold NT;have hlen:=hL.len;have hlenW:=hW.len;have hlenU:=hU.len;refine rS (aZ J J J (fun b1=>(aZ J J J (fun b2=>(kM J (Q0 (rQ (rS (dD J dE .h1 J (kM J (kO (aI J J (fun s1 h1=>A6 _ _ _ _ _ _ _ _ _ s1 h1.wf oM (hL.ext hs h1.2.1) (hW.ext hs h1.2.1) hsys hN hN66 hN0 hLg h400 hwl hwo) (kM J (Q0 (rS (kM J (kO (V3 J J (fun h=>absurd h dE) (fun _=>(Q0 (U0 J (Q1 (W0 (rQ (rS (aH J (aL J .here rfl (aJ J (by first|exact hL.spot|exact hU.spot|exact hW.spot) ?_))))))))))))))))))))))))))));refine kO (dR J J (fun h4=>?_) (fun h4=>?_))
 ·refine kM J (V0 (V0 (V0 (V0 (V0 (cA J J J (Q0 (Y0 J (rS (kM J (Q0 (V2 (W3 ?_)))))))))))))
  exact aO J (.inr ⟨(by first|exact(fun q=>had2 q.2)|exact(fun q=>by have:=q.1;omega)),rfl,rfl⟩)
 ·refine kM J (kG (V4 J dE .h1 J (kG (U2 J (kG (V4 J dE .here rfl (kG (Z4 J J (fun s1 h1=>Mh _ m al cl ls aw cw w ap cp us bd N s1 h1.wf oM (hL.ext hs h1.2.1) (hW.ext hs h1.2.1) (hU.ext hs h1.2.1) oM hN hN66 hN0 hLg h400 hwl hwo) (fun v1 A1 q1=>?_)))))))))
  obtain⟨q1,rfl⟩:=q1;rcases q1 with ⟨had,rfl⟩|⟨had,rfl⟩
  ·have had1:=had
   refine kG (U6 J (bK J J J (Q0 (U0 J (Q1 (W0 (rS (kM J (Q0 (V2 ?_))))))))));exact aO J (.inl ⟨⟨oM,had1⟩,rfl,rfl⟩)
  ·have had2:=had
   refine kG (U6 J (bK J J J (Q0 (Y0 J (rS (kM J (Q0 (V2 (W3 ?_)))))))));exact aO J (.inr ⟨(by first|exact(fun q=>had2 q.2)|exact(fun q=>by have:=q.1;omega)),rfl,rfl⟩)
end
variable{w l:List Int}{k size m n nt e b len cap:Nat}{z:List Value}{P:Program}{C:Nat->(CF->Bool)->Bool}{s0:St}{env:List (Nat×Value)}{A:Prop}{R:Value->List Ob->Prop}{x y:Ev.X}{A':List Ob}{c:Int}
theorem sU{z:Int}(h:k<w.length):over (ints w) (k*1) [.int .i64 z]=ints (w.set k z):=by
 rw[Nat.mul_one];have e:ints (w.set k z)=(ints w).set k (.int .i64 z):=by simp[ints,List.map_set]
 rw[e,List.set_eq_take_append_cons_drop,if_pos (by rw[bU];exact h)];unfold over;simp
theorem Mk{s:St}{z more:List Value}{y:Value}{k:Nat->List Value->Bool}(hy:y = .int .i64 (m:Int))(hm:more=repeatN z m)(h:m<=1048576)(hk:k m more=true):Fm s size z true y k=true:=by
 subst hy;subst hm;show ifB (Nat.ble m 1048576) (k m (repeatN z m)) false=true;rw[show Nat.ble m 1048576=true from by rw[Nat.ble_eq];exact h];exact hk
theorem R6{X:FuncId->List Value->St->(Value->St->Bool)->Bool}{A:List Ob}{e size bytes b len cap m:Nat}{op:Bool}{z more l:List Value}{yv:Value}(hx:xv env x=some (.slice (some ⟨b,0,none⟩) len cap))(hy:xv env y=some yv)(hyv:yv = .int .i64 (m:Int))(hmz:more=repeatN z m)(hml:more.length=m*size)(hm0:more≠[])(hmM:m<=1048576)(hd:tO A b e op l A')(hl:l.length=len*size)(ht:xR op len cap)(hm:m≠0)(hb1:len+m<=1048576)(hb2:bytes*(len+m)<=1073741824)
 (h:∀b,R (.slice (some ⟨b,0,none⟩) (len+m) OPEN) (.row b e true (l++more)::A')):fT P C X s0 n nt (.app e size bytes z true x y) env A R:=.mk fun s hs T hT k hk=>by
 refine U5 hT (k:=fun x=>bO T y (fun y=>kX s e size bytes z true x y k)) hx (U5 hT (k:=fun y=>kX s e size bytes z true _ y k) hy ?_);unfold kX;refine Mk hyv hmz hmM ?_;have hsz:size≠0:=by
  rintro rfl
  apply hm0;exact List.eq_nil_of_length_eq_zero (by simpa using hml)
 by_cases hc0:cap=0
 ·rcases ht with ⟨_,h1⟩|⟨h1,h2,h3⟩
  ·rw[hc0] at h1;cases h1
  ·subst h1
   subst h2;subst hc0;have hl0:l=[]:=List.eq_nil_of_length_eq_zero (by rw[hl,Nat.zero_mul]);subst hl0;show ifB (Nat.beq m 0) _ (ifB (Nat.ble m 1048576) (ifB (Nat.ble (Nat.mul bytes m) 1073741824) _ false) false)=true;rw[uT hm,show Nat.ble m 1048576=true from by rw[Nat.ble_eq];omega,show Nat.ble (Nat.mul bytes m) 1073741824=true from by rw[Nat.ble_eq];rw[Nat.zero_add] at hb2;exact hb2];show eY .leaf 0 more _=true;rw[Nat.zero_add] at h;refine iL (fun c hc hg=>kP ?_);rw[bG];exact gE (l:=more) hml.symm hs.wf hc hg (fun s' xx _ ho=>hk _ _ ⟨_,(hs.sub hd.sub).new xx ho,h s.n⟩)
 show ifB (Nat.beq cap 0) _ (ifB (Nat.ble (Nat.add len m) 1048576) (ifB (Nat.ble (Nat.mul bytes (Nat.add len m)) 1073741824) (eR s e size b 0 len cap m more k) false) false)=true;rw[uT hc0];show ifB (Nat.ble (Nat.add len m) 1048576) (ifB (Nat.ble (Nat.mul bytes (Nat.add len m)) 1073741824) (eR s e size b 0 len cap m more k) false) false=true;rw[show Nat.ble (Nat.add len m) 1048576=true from by rw[Nat.ble_eq];exact hb1,show Nat.ble (Nat.mul bytes (Nat.add len m)) 1073741824=true from by rw[Nat.ble_eq];exact hb2];show eR s e size b 0 len cap m more k=true;obtain⟨c,hc,hf,hg⟩:=hs.own hd.own;unfold eR;refine fE (k:=_) hc ?_;have hee:Nat.beq e e=true:=by rw[Nat.beq_eq]
 rcases ht with ⟨rfl,rfl⟩|⟨rfl,rfl,hlt⟩
 ·show ifB (Nat.beq e e) (ifB (Nat.ble OPEN OPEN) (ifB true (ifB (Nat.beq 0 0) (ifB (Nat.beq OPEN OPEN) (ifB (Nat.ble (Nat.mul (Nat.add len m) size) l.length) _ (ifB (Nat.beq (Nat.mul len size) l.length) _ false)) false) false) false) _) false=true
  have hnot:Nat.ble (Nat.mul (Nat.add len m) size) l.length=false:=by
   cases hb:Nat.ble (Nat.mul (Nat.add len m) size) l.length with
   |false=>rfl
   |true=>
    have h1:(len+m)*size<=l.length:=by simpa using hb
    rw[hl,Nat.add_mul] at h1;have:0<m*size:=Nat.mul_pos oM oM;omega
  rw[hee,hnot,show Nat.ble OPEN OPEN=true from by rw[Nat.ble_eq];exact Nat.le_refl _,show Nat.beq 0 0=true from rfl,show Nat.beq OPEN OPEN=true from by rw[Nat.beq_eq],show Nat.beq (Nat.mul len size) l.length=true from by rw[Nat.beq_eq];exact hl.symm];show eY c (Nat.mul len size) more _=true;refine rM (n:=len*size) (by rw[<-hl];exact hf) (fun c' hc' hg'=>kP ?_);refine eX hs.wf (eE.lt hs.wf hc) (fun s1 hm1 hn1 hd1=>?_);rw[bG];have hll:(l++more).length=(len+m)*size:=by rw[List.length_append,hl,hml,Nat.add_mul]
  have hlow:=(hs.2.2.lt hs.wf _ hd.own.mem).2;have hs1:iP s0 A' s1:=⟨hs.1,hs.2.1.mod hm1 (fun i hi=>(List.mem_singleton.1 hi) ▸ hlow),(hs.2.2.sub hd.sub).mod hs.wf hm1 (pZ.del hd hs.2.2)⟩;rw[show s.n=s1.n from hn1.symm];refine gE (l:=l++more) hll.symm hm1.1 (by rw[List.length_append,hl];exact hc') (fun j=>?_) (fun s2 x2 _ ho2=>?_)
  ·rw[hg']
   by_cases h1:len*size<=j/\j<len*size+more.length
   ·rw[if_pos h1,List.getElem?_append_right oM,hl]
   ·rw[if_neg h1,hg]
    by_cases h2:j<l.length
    ·rw[List.getElem?_append_left h2]
    ·rw[List.getElem?_eq_none oM,List.getElem?_eq_none (by simp;omega)]
  ·rw[bG]
   exact hk _ _ ⟨_,hs1.new x2 ho2,h s1.n⟩
 ·show ifB (Nat.beq e e) (ifB (Nat.ble OPEN cap) _ (ifB (Nat.ble (Nat.add cap m) cap) _ (mJ c 0 (Nat.mul cap size) (fun old=>tB s e size cap m more old k)))) false=true
  rw[hee,show Nat.ble OPEN cap=false from by
   cases hb:Nat.ble OPEN cap with
   |false=>rfl
   |true=>rw[Nat.ble_eq] at hb;omega,show Nat.ble (Nat.add cap m) cap=false from by
   cases hb:Nat.ble (Nat.add cap m) cap with
   |false=>rfl
   |true=>rw[Nat.ble_eq] at hb;have:cap+m<=cap:=hb;omega]
  show mJ c 0 (Nat.mul cap size) (fun old=>tB s e size cap m more old k)=true;refine sL (l:=l) hl (fun j _=>by rw[Nat.zero_add];exact hg j) (Dy hs.wf hl hml (fun s' x2 _ ho2=>hk _ _ ⟨_,(hs.sub hd.sub).new x2 ho2,h s.n⟩))
theorem P5{X:FuncId->List Value->St->(Value->St->Bool)->Bool}{A:List Ob}{e size bytes b len cap:Nat}{z l:List Value}(hcap:cap=OPEN)(hx:xv env x=some (.slice (some ⟨b,0,none⟩) len cap))(hy:xv env y=some (.int .i64 0))(hu:pL A b e true l l A')(hfit:len*size<=l.length)(hb1:len<=1048576)(hb2:bytes*len<=1073741824)
 (h:R (.slice (some ⟨b,0,none⟩) len OPEN) A'):fT P C X s0 n nt (.app e size bytes z true x y) env A R:=.mk fun s hs T hT k hk=>by
 refine U5 hT (k:=fun x=>bO T y (fun y=>kX s e size bytes z true x y k)) hx (U5 hT (k:=fun y=>kX s e size bytes z true _ y k) hy ?_);unfold kX;show ifB (Nat.beq cap 0) _ (ifB (Nat.ble (Nat.add len 0) 1048576) (ifB (Nat.ble (Nat.mul bytes (Nat.add len 0)) 1073741824) (eR s e size b 0 len cap 0 [] k) false) false)=true;rw[uT (show cap≠0 by rw[hcap];decide)];show ifB (Nat.ble (Nat.add len 0) 1048576) (ifB (Nat.ble (Nat.mul bytes (Nat.add len 0)) 1073741824) (eR s e size b 0 len cap 0 [] k) false) false=true;rw[show Nat.ble (Nat.add len 0) 1048576=true from by rw[Nat.ble_eq];exact hb1,show Nat.ble (Nat.mul bytes (Nat.add len 0)) 1073741824=true from by rw[Nat.ble_eq];exact hb2];show eR s e size b 0 len cap 0 [] k=true;obtain⟨c,hc,hf,hg⟩:=hs.own hu.own;unfold eR;refine fE (k:=_) hc ?_;show ifB (Nat.beq e e) (ifB (Nat.ble OPEN cap) (ifB true (ifB (Nat.beq 0 0) (ifB (Nat.beq cap OPEN) (ifB (Nat.ble (Nat.mul (Nat.add len 0) size) l.length) (fM c (Nat.mul len size) [] _) _) _) _) _) _) false=true;rw[show Nat.beq e e=true from by rw[Nat.beq_eq],show Nat.ble OPEN cap=true from by rw[Nat.ble_eq];omega,show Nat.beq cap OPEN=true from by rw[Nat.beq_eq];exact hcap,show Nat.ble (Nat.mul (Nat.add len 0) size) l.length=true from by rw[Nat.ble_eq];exact hfit];show dI s b (eW.cells l.length c e true) (fun s=>dG (Nat.add len 0) (fun l=>k (.slice (some ⟨b,0,none⟩) l OPEN) s))=true;refine eX hs.wf (eE.lt hs.wf hc) (fun s1 hm1 hn1 hd1=>?_);rw[bG];exact hk _ _ ⟨_,hs.upd hu hm1 ⟨c,hd1,hf,hg⟩,h⟩
theorem Ml:repeatN [Value.int .i64 0] m=ints (List.replicate m 0):=by
 induction m with
 |zero=>rfl
 |succ m ih=>show _::repeatN _ m=_;rw[ih];rfl
theorem Ec{l k:List Int}:ints l++ints k=ints (l++k):=by unfold ints;exact List.map_append.symm
theorem tO.delO{A A':List Ob}{op:Bool}{l:List Value}(h:tO A b e op l A'):gG A (.row b e op l) A':=by
 induction h with
 |here=>exact .here
 |next _ ih=>exact .next ih
theorem Hy{X:FuncId->List Value->St->(Value->St->Bool)->Bool}{A:List Ob}(hcap:cap=OPEN)(hx:xv env x=some (.slice (some ⟨b,0,none⟩) len cap))(hy:xv env y=some (.int .i64 (m:Int)))(hd:tO A b 3 true (ints l) A')(hl:l.length=len)(hb:len+m<=100000)
 (h:∀b,R (.slice (some ⟨b,0,none⟩) (len+m) OPEN) (.row b 3 true (ints (l++List.replicate m 0))::A')):fT P C X s0 n nt (.app 3 1 8 [.int .i64 0] true x y) env A R:=by
 by_cases hm:m=0
 ·subst hm
  refine .mk fun s hs T hT k hk=>?_
  have e:ints (l++List.replicate 0 0)=ints l:=by rw[show List.replicate 0 (0:Int)=[] from rfl,List.append_nil]
  rw[e] at h;exact(P5 (bytes:=8) (A:=.row b 3 true (ints l)::A') (A':=.row b 3 true (ints l)::A') hcap hx hy .here (by rw[bU,hl,Nat.mul_one];exact Nat.le_refl _) oM oM (h b)).go s (hs.front hd.delO) T hT k hk
 ·subst hcap
  refine R6 (more:=ints (List.replicate m 0)) hx hy rfl Ml.symm (by rw[bU,List.length_replicate,Nat.mul_one]) (fun q=>hm (by have:=congrArg List.length q;rw[bU,List.length_replicate] at this;exact this)) oM hd (by rw[bU,hl,Nat.mul_one]) (.inl ⟨rfl,rfl⟩) hm oM oM (fun b=>?_);rw[Ec];exact h b
def Ff(c:Int)(l w:List Int)(k:Nat):Prop:=w.length=l.length/\∀i,i<k->w.getD i 0=c*l.getD i 0
theorem Ff.step(h:Ff c l w k)(hk:k<l.length):Ff c l (w.set k (c*l.getD k 0)) (k+1):=by
 refine⟨by rw[List.length_set];exact h.1,fun i hi=>?_⟩;by_cases q:k=i
 ·subst q
  exact mB (by rw[h.1];exact hk)
 ·rw[getD_set_ne q];exact h.2 i oM
theorem Ff.eq(h:Ff c l w l.length):w=l.map (fun z=>c*z):=by
 refine List.ext_getElem? (fun j=>?_);by_cases hj:j<l.length
 ·have h1:=h.2 j hj
  rw[List.getD_eq_getElem?_getD,List.getD_eq_getElem?_getD,List.getElem?_eq_getElem (by rw[h.1];exact hj),List.getElem?_eq_getElem hj] at h1;rw[List.getElem?_eq_getElem (by rw[h.1];exact hj),List.getElem?_map,List.getElem?_eq_getElem hj];exact congrArg some h1
 ·rw[List.getElem?_eq_none (by rw[h.1];omega),List.getElem?_eq_none (by rw[List.length_map];omega)]
theorem vS{k j:Nat}:(l++List.replicate k 0).getD j 0=l.getD j 0:=by
 rw[List.getD_eq_getElem?_getD,List.getD_eq_getElem?_getD];by_cases hj:j<l.length
 ·rw[List.getElem?_append_left hj]
 ·rw[List.getElem?_append_right oM,List.getElem?_eq_none (l:=l) oM,List.getElem?_replicate]
  split <;> rfl
theorem Ed{ls us:List (List Int)}{N:Nat}{bd:Int}(hl:Bo N ls)(h:D9 ls us w N bd):-4608000000000000000<=bd/\bd<=4608000000000000000:=by
 have h1:=Hv hl h.1;have h2:=h.1.tot;rw[h.2.1] at h1;omega
def UU:Bool->Int->Int->Int->Prop
 |true,bd,D,k=>B1 bd D<=k
 |false,bd,D,k=>k<=B1 (-bd) D
open Classical in
noncomputable def yH(c:Int)(W A S:Prop):Int:=if c=0 then (if W then (if A then (if S then 0 else 36) else 24) else 33) else c
theorem Mm{W A S:Prop}(h:¬c=0):yH c W A S=c:=by unfold yH;rw[if_neg h]
theorem Mn{W A S:Prop}(h:c=0)(hw:¬W):yH c W A S=33:=by unfold yH;rw[if_pos h,if_neg hw]
theorem Ee{W A S:Prop}(h:c=0)(hw:W)(ha:¬A):yH c W A S=24:=by unfold yH;rw[if_pos h,if_pos hw,if_neg ha]
theorem B4{W A S:Prop}(h:c=0)(hw:W)(ha:A)(hs:¬S):yH c W A S=36:=by unfold yH;rw[if_pos h,if_pos hw,if_pos ha,if_neg hs]
theorem B5{W A S:Prop}(h:c=0)(hw:W)(ha:A)(hs:S):yH c W A S=0:=by unfold yH;rw[if_pos h,if_pos hw,if_pos ha,if_pos hs]
section
variable{X:FuncId->List Value->St->(Value->St->Bool)->Bool}
theorem mO(n:Nat)(m:Int)(al:Option Addr)(cl:Nat)(ls:List (List Int))(aw:Option Addr)(cw:Nat)(nw:Nat)(w:List Int)(ap:Option Addr)(cp:Nat)(us:List (List Int))(bd:Int)(N:Nat)(s:St)(hs:Wf s)(hn:1688849860263936<=n)(hL:RowsE s 4 al ls)(hnw:nw=w.length)(hW:aN s aw w)(hU:RowsE s 2 ap us)(hsys:fR m ls=0)(hN:(N:Int)=m+1)(hN66:N<=65)(hN0:0<N)(hLg:Bo N ls)(h400:ls.length<=400)(hwl:w.length=N)(hwo:dA w w.length<=3600000000000):bX Tryz.prog (bZ cB) X (n+2500) 60 [.agg ⟨[.int .i64 m,.slice al ls.length cl]⟩,.slice aw nw cw,.agg ⟨[.int .i64 bd,.slice ap us.length cp]⟩] s (fun v A=>((us.length<=400/\D9 ls us w N bd)/\v = .int .i64 0/\A=[])∨(¬(us.length<=400/\D9 ls us w N bd)/\v = .int .i64 24/\A=[])):=by
 subst hnw;exact CZ n m al cl ls aw cw w ap cp us bd N s hs hn hL hW hU hsys hN hN66 hN0 hLg h400 hwl hwo
set_option maxHeartbeats 4000000 in
theorem Bp(n:Nat)(d r al up:Int)(a1 a2:Option Addr)(c1 c2:Nat)(l1 l2:List Int)(a3 a4:Option Addr)(c3 c4:Nat)(rs cs:List (List Int))(wk ws ww:Int)(high:Bool)(num:Int)(ap:Option Addr)(cp:Nat)(us:List (List Int))(pbd:Int)(s:St)(hs:Wf s)(hn:11258999068426240<=n)(hl1:aN s a1 l1)(hl2:aN s a2 l2)(hr:RowsE s 7 a3 rs)(hc:RowsE s 6 a4 cs)(hcp:lB s a2 l2.length c2)(hU:RowsE s 2 ap us):bX Tryz.prog (bZ cB) X (n+12000) 23 [.agg ⟨[.int .i64 d,.int .i64 r,.slice a1 l1.length c1,.slice a2 l2.length c2,.int .i64 al,.int .i64 up,.slice a3 rs.length c3,.slice a4 cs.length c4]⟩,.agg ⟨[.int .i64 wk,.int .i64 ws,.int .i64 ww]⟩,.bool high,.int .i64 num,.agg ⟨[.int .i64 pbd,.slice ap us.length cp]⟩] s (fun v A=>v = .int .i64 (yH (AK (nK ((1<=d/\d<=99999)/\(1<=r/\r<=99999)/\(0<=al/\al<=100000)/\(0<=up/\up<=100000)/\cJ l1 l2=true) l1 l2 rs cs) (tY (l1.length:Int) (l2.length:Int) rs (Sv.b6 (Sv.mk r al up l1 l2 rs cs)))) (((wk=1/\ws=0/\(0<=ww/\ww<=(l2.length:Int)-1)/\0<ww)∨(wk=2/\ws=0/\(0<=ww/\ww<=(l2.length:Int)-1))∨(wk=3/\(0<=ws/\ws<=(l1.length:Int)-1)/\ww=0)∨(wk=4/\(0<=ws/\ws<=(l1.length:Int)-1)/\(0<=ww/\ww<=(l2.length:Int)-1)))) (us.length<=400/\D9 (Sv.b6 (Sv.mk r al up l1 l2 rs cs)) us (xW high (dL wk ws ww l1 l2) (dys rs).length) (l2.length*l1.length+1+(dys rs).length) pbd) (UU high pbd (gV wk) num))/\A=[]):=by
 refine enter OL rfl hs ?_;unfold Nd;have hlen1:=hl1.len;have hlen2:=hl2.len;have hlen3:=hr.len;have hlen4:=hc.len;have hlenU:=hU.len;refine rS (aZ J J J (fun b1=>(aZ J J J (fun b2=>(aZ J J J (fun b3=>(kM J (Q0 (rS (dD J dE .h2 J (dD J dE .h1 J (kG (bI J J O4 rfl ?_)))))))))))));unfold NQ;refine rS (aZ J J J (fun b4=>(aZ J J J (fun b5=>(aY J J (fun b6=>(kM J (Q0 (rS (dD J dE .h2 J (kO (Z4 J J (fun s1 h1=>H6 _ _ _ _ _ _ _ _ _ _ _ _ _ _ _ _ _ s1 h1.wf oM (hl1.ext hs h1.2.1) (hl2.ext hs h1.2.1) (hr.ext hs h1.2.1) (hc.ext hs h1.2.1)) (fun v1 A1 q1=>?_)))))))))))));rcases q1 with ⟨hpn,rfl,rfl⟩|⟨hpt,hnf,rfl,rfl⟩|⟨hpt,hfit,bL,bs,DS,DR,rfl,rfl,⟨hrs,rfl,rfl⟩|⟨hne,bd,rfl,rfl,hWD⟩⟩
 ·refine kM J (eK J J (eK J J (kM J (kM J (Q0 (rQ (rS (kM J (kO (V3 J J (fun h7=>?_) (fun h7=>?_)))))))))))
  ·refine Q0 (Y0 J (rS (eG J J (kM J (kZ (Q6 J J .here rfl rfl rfl rfl (kM J (Q0 (V2 (W3 (nW J dE .nil .here rfl rfl (kM J (eK J J (eK J J (aY J J (fun b8=>(kZ (Q6 J J .here rfl rfl rfl rfl (kM J (Q0 (rQ (rS (kM J (kO (V3 J J (fun h9=>?_) (fun h9=>?_))))))))))))))))))))))))))
   ·refine Q0 (Y0 J (rS (kM J (kM J (Q0 (V2 (W3 ?_)))))))
    exact aO J ⟨congrArg (Value.int .i64) (by rw[Mm (by rw[qU hpn];exact hpn),qU hpn]),rfl⟩
   ·exact absurd h9 hpn
  ·exact absurd h7 hpn
 ·refine kM J (eK J J (eK J J (kM J (kM J (Q0 (rQ (rS (kM J (kO (V3 J J (fun _=>(Q0 (Y0 J (rS (eG J J (kM J (kZ (Q6 J J .here rfl rfl rfl rfl (kM J (Q0 (V2 (W3 (nW J dE .nil .here rfl rfl (kM J (eK J J (eK J J ?_)))))))))))))))) (fun h=>absurd h dE)))))))))))
  refine aY J J (fun b11=>(kZ (Q6 J J .here rfl rfl rfl rfl (kM J (Q0 (rQ (rS (kM J (kO (V3 J J (fun _=>(Q0 (Y0 J (rS (kM J (kM J (Q0 (V2 (W3 ?_))))))))) (fun h=>absurd h dE)))))))))));exact aO J ⟨congrArg (Value.int .i64) (by rw[Mm (by rw[qH hpt hnf];decide),qH hpt hnf]),rfl⟩
 ·simp only[List.cons_append,List.nil_append]
  have hd0:(dys rs).length=0:=by rw[hrs];rfl
  have hspd:=hl1.spot;obtain⟨⟨hsd,hsr,hsa,hsu,hpl⟩,h60,h20,hrdb,hcpb⟩:=oN hpt;have hp1:=fZ hpl;have hp2:=gO hpl;have hm1:=hp1.hm;have hm2:=hp2.hm;have h21:=hp1.h2;have h22:=hp2.h2;have hN9:l2.length*l1.length<=81:=Nat.le_trans (Nat.mul_le_mul (show l2.length<=9 from oM) (show l1.length<=9 from oM)) dE;have hNi:((l2.length*l1.length:Nat):Int)=(l1.length:Int)*(l2.length:Int):=by rw[Int.natCast_mul,Int.mul_comm]
  have hdl:=rY hr;have hf1:=hfit.1;have hf2:=hfit.2;have hlv:=Hx (a4:=a4) (up:=up) (l1:=l1) (l2:=l2) hsr hsa hsu hpl hcpb hrdb hr hc rfl hf1;have hLg:Bo (l2.length*l1.length+1+(dys rs).length) (Sv.b6 (Sv.mk r al up l1 l2 rs cs)):=Hw oM hlv;have hTL:=CY (up:=up) (l1:=l1) hrdb hr oM hLg;have hsys:fR ((l1.length:Int)*(l2.length:Int)+((dys rs).length:Int)) (Sv.b6 (Sv.mk r al up l1 l2 rs cs))=0:=zO oM hf2 hlv;have hmE:((l1.length:Int)*(l2.length:Int)+((dys rs).length:Int))=((l2.length*l1.length+(dys rs).length:Nat):Int):=oM
  have hL4:∀q∈(Sv.b6 (Sv.mk r al up l1 l2 rs cs)),q.length=4:=Sv.h6 _ _;refine kM J (eK J J (eK J J (kM J (kM J (Q0 (rQ (rS (kM J (kO (V3 J J (fun h=>absurd h dE) (fun _=>(Q0 (U0 J (Q1 (W0 (rS (aH J (dD J dE .h4 J (dD J dE .h3 J (kO (Z4 J J (fun s1 h1=>vE _ _ _ _ _ _ _ _ _ _ _ _ _ _ s1 h1.wf oM (hl1.ext hs h1.2.1) (hl2.ext hs h1.2.1) hp1 hp2 (hcp.ext hs h1.2.1)) (fun v1 A1 q1=>?_))))))))))))))))))))));rcases q1 with ⟨hw,b9,rfl,rfl⟩|⟨hw,rfl,rfl⟩
  ·obtain⟨ws,rfl⟩:∃q:Nat,ws=(q:Int):=⟨ws.toNat,oM⟩
   obtain⟨ww,rfl⟩:∃q:Nat,ww=(q:Int):=⟨ww.toNat,oM⟩;have hrb:=zK (wk:=wk) hp1 hp2 (h15 hpl) (fun h=>oM) (show ws<l1.length from oM) (show ww<l2.length from oM) oM;have hrb2:dA (dL wk ws ww l1 l2) (dL wk ws ww l1 l2).length<=3600000000000:=(by rw[dN];exact hrb);have hrd:=vJ (wk:=wk);have hsa9:=vP hsys;refine kM J (eK J J (eK J J (eK J J (kM J (kM J (kM J (Q0 (rQ (rS (kM J (kO (V3 J J (fun h=>absurd h dE) (fun _=>(Q0 (U0 J (Q1 (W0 (rS (kM J (kM J (eT J (aH J (aL J .h2 J (kO (rO J (kO (Hy (m:=(dys rs).length) J J (by rw[hd0];rfl) .here (by rw[dN]) oM (fun b99=>?_))))))))))))))))))))))))))));refine kM J (Q0 (rS (kM J (kM J (kM J (eG J J (kZ (Q6 J J .h3 J J J J (kM J (Q0 (V2 (nW J dE .nil .h3 J J (kM J (eK J J (eK J J (aY J J (fun b15=>(kZ (Q6 J J .here rfl rfl rfl rfl (kM J (Q0 (rQ (rS (kM J (kO (V3 J J (fun h=>absurd h dE) (fun _=>(Q0 ?_))))))))))))))))))))))))))));refine U0 J (Q1 (W0 (rS (kM J ?_))));have zL:(dL wk ws ww l1 l2++List.replicate (dys rs).length 0).length=(l2.length*l1.length+1+(dys rs).length):=by rw[List.length_append,dN,List.length_replicate]
   cases high
   ·have hwo9:dA (xW false (dL wk ws ww l1 l2) (dys rs).length) (xW false (dL wk ws ww l1 l2) (dys rs).length).length<=3600000000000:=by rw[vQ];exact hrb2
    refine kG (bI J J yP rfl ?_);unfold ET;refine rS (kM J (Q0 (rS (aY J J (fun b17=>(kZ (cY J J .here rfl rfl (Q0 (rQ (rS (kM J (Q0 (U0 J (Q1 (W0 (rS (kO (lF J J (kM J (Q0 (V2 (eO J .nil (kM J (Q0 (rQ (rS ?_))))))))))))))))))))))))));refine aH J (aL J .h1 J (eT J (aH J (dD J dE .h4 J (dD J dE .h1 J (kM J (dD J dE .h8 J (kG (bI J J yQ rfl ?_)))))))));unfold EU;refine rS (aZ J J J (fun b18=>(kM J (Q0 (rS (aH J (aL J .here rfl (kO (cK J (kO (oI (m:=0) (c:=(l2.length*l1.length+1+(dys rs).length)) J J oM oM oM (fun b19=>(kM J (Q0 (rQ (rS (aH J (aL J .h1 J (kO (cK J (kM J (Q0 (W1 ?_)))))))))))))))))))))));refine U4 (fun j e A=>∃(k:Nat) (w9:List Int),e=[(1,.func (.func 107) ⟨[]⟩ ⟨[.pointer (some ⟨b17,0,none⟩)]⟩),(5,.slice (some ⟨b19,0,none⟩) k (l2.length*l1.length+1+(dys rs).length)),(13,.slice (some ⟨b99,0,none⟩) (l2.length*l1.length+1+(dys rs).length) OPEN),(14,.int .i64 (((l2.length*l1.length+1+(dys rs).length):Nat):Int)),(15,.int .i64 (k:Int))]/\A=(.row b19 3 false (ints w9)::(.row b18 (117) false ([.pointer (some ⟨bs,0,none⟩),.slice (some ⟨b99,0,none⟩) (l2.length*l1.length+1+(dys rs).length) OPEN,.int .i64 (gV wk)])::(.row b17 3 false ([.int .i64 (-1)])::(.row b15 (117) false ([.pointer (some ⟨bs,0,none⟩),.slice (some ⟨b99,0,none⟩) (l2.length*l1.length+1+(dys rs).length) OPEN,.int .i64 (gV wk)])::(.row b99 3 true (ints (dL wk ws ww l1 l2++List.replicate (dys rs).length 0))::(.row bL 107 true (aT (Sv.b6 (Sv.mk r al up l1 l2 rs cs)))::(.row bs 96 false ([.int .i64 d,.int .i64 r,.slice a1 l1.length c1,.slice a2 l2.length c2,.int .i64 al,.int .i64 up,.slice a3 rs.length c3,.slice a4 cs.length c4,.int .i64 ((l1.length:Int)*(l2.length:Int)+((dys rs).length:Int)),.slice (some ⟨bL,0,none⟩) (Sv.b6 (Sv.mk r al up l1 l2 rs cs)).length OPEN,.slice none 0 0])::(.row b6 (117) false ([.pointer (some ⟨bs,0,none⟩),.slice (some ⟨b99,0,none⟩) (l2.length*l1.length+1+(dys rs).length) OPEN,.int .i64 (gV wk)])::(.row b3 (62) false ([.int .i64 pbd,.slice ap us.length cp])::[])))))))))/\j=(l2.length*l1.length+1+(dys rs).length)-k/\k<=(l2.length*l1.length+1+(dys rs).length)/\Ff (-1) (dL wk ws ww l1 l2++List.replicate (dys rs).length 0) w9 k) 300 281474976710656 281474976710656 ?_ (j:=_) (env2:=_) (A2:=_) ?_ ?_ ?_ ?_ ⟨0,List.replicate (l2.length*l1.length+1+(dys rs).length) 0,rfl,rfl,rfl,Nat.zero_le _,⟨by rw[List.length_replicate,zL],fun i hi=>absurd hi (Nat.not_lt_zero i)⟩⟩
    rotate_left
    ·omega
    ·omega
    ·exact lL
    ·exact(.q (.q (.q (.q (.q (.q (.q (.q (.cons _ (.cons _ (.q (.cons _ (.cons _ .slnil)))))))))))))
    rintro n hn j _ _ ⟨k,w9,rfl,rfl,rfl,hk,hw9⟩;have hwl9:=hw9.1;have zL2:=zL;have hbk:-3600000000000<=(dL wk ws ww l1 l2++List.replicate (dys rs).length 0).getD k 0/\(dL wk ws ww l1 l2++List.replicate (dys rs).length 0).getD k 0<=3600000000000:=by rw[vS];exact qO hrb2
    refine rS (dB J J (fun h20=>?_) (fun h20=>?_))
    ·refine Q0 (rQ (Y0 J (Q1 (W0 (rQ (W1 (rS (cN (j:=k) J J oM oM (kO (dM J .h4 (by first|omega|(simp;done)|(simp;omega)) (kM J (Q0 (rI (kM J (kM J (kM J (kG (bI J J lY rfl ?_))))))))))))))))))
     unfold rP;refine rS (kM J (Q0 (rS (aL J .h2 J (kM J (aV J J oM (kM J (Q0 (V2 (eO J .nil (kO (bF J J J (fun b21=>(kO (wO J J (fK.own .here rfl sM) .h1 (by rw[bU];omega) oM (by show _<18446744073709551616;omega) oM oM (kM J (Q0 (Z1 (W0 (rI (aX J J oM (kM J (Q0 (W0 ?_))))))))))))))))))))))));exact⟨rfl,_,_,_,(show(l2.length*l1.length+1+(dys rs).length)-(k+1)<(l2.length*l1.length+1+(dys rs).length)-k from oM),lL,(.cons _ (.q (.q (.q (.q (.q (.q (.q (.q (.q .slnil)))))))))),⟨k+1,_,rfl,(congrArg (fun q=>Ob.row _ _ _ q::_) (sU oM)),rfl,oM,(hw9.step (by rw[zL];omega))⟩⟩
    ·obtain rfl:k=(l2.length*l1.length+1+(dys rs).length):=oM
     have hw8:=Ff.eq (l:=(dL wk ws ww l1 l2++List.replicate (dys rs).length 0)) (w:=w9) (by rw[zL];exact hw9);subst hw8;refine Q0 (rQ (U0 J (Y4 (Z2 (Z2 (Q3 (W0 (rS (kM J (kM J (Q0 (V2 (eO J .nil (kZ (eJ J J dE .h8 J (by simp[eqL,eqV,eqA,kindEq,aB,V5 hl1.spot,V5 hl2.spot,V5 hr.spot,V5 hc.spot,V5 hU.spot,V5 hspd]) (kZ (eJ J J dE .h6 J (by simp[eqL,eqV,eqA,kindEq,aB,V5 hl1.spot,V5 hl2.spot,V5 hr.spot,V5 hc.spot,V5 hU.spot,V5 hspd]) (kZ (aK J J .h3 J (by simp[eqV,eqA,eqL,kindEq,aB,V5 hl1.spot,V5 hl2.spot,V5 hr.spot,V5 hc.spot,V5 hU.spot,V5 hspd]) (kO (Z4 J J (fun s1 h1=>mO _ ((l1.length:Int)*(l2.length:Int)+((dys rs).length:Int)) _ _ (Sv.b6 (Sv.mk r al up l1 l2 rs cs)) _ _ _ (xW false (dL wk ws ww l1 l2) (dys rs).length) _ _ us pbd (l2.length*l1.length+1+(dys rs).length) s1 h1.wf oM (RowsE.ownF (h1.own .h5) (AL hsr hsa hsu hpl oM oM hrdb hcpb (hr.ext hs h1.2.1) (hc.ext hs h1.2.1) oM) oM) (by rw[gC,dN]) (aN.own (h1.own .here) (vR hwo9 dE) (by rw[gC,dN];omega)) (hU.ext hs h1.2.1) hsys oM oM oM hLg oM (by rw[gC,dN]) hwo9) (fun v1 A1 q1=>?_))))))))))))))))))))));rcases q1 with ⟨had,rfl,rfl⟩|⟨had,rfl,rfl⟩
     ·have hbdb:=Ed hLg had.2
      refine kM J (Q0 (rS (kM J (kO (V3 J J (fun h=>absurd h dE) (fun _=>(Q0 (U0 J (Q1 (W0 (rS (kM J (aH J (aL J .h8 J (aH J (aL J .h3 J (kG (bI J J lY rfl ?_))))))))))))))))));unfold rP;refine rS (kM J (Q0 (rS (aL J .h2 J (kM J (aV J J oM (kM J (Q0 (V2 (eO J .nil (kZ (aK J J .h3 J (by simp[eqV,eqA,eqL,kindEq,aB,V5 hl1.spot,V5 hl2.spot,V5 hr.spot,V5 hc.spot,V5 hU.spot,V5 hspd]) (kO (aI J J (fun s1 h1=>zJ _ _ _ s1 h1.wf oM oM) ?_))))))))))))));rw[show(-1:Int)*pbd = -pbd from oM];refine kM J (Q0 (rQ (rS (kM J (kM J (V0 (V0 (V0 (bK J J J (kM J (kG (U2 J (kG (U6 J (kG (U2 J (kG (U2 J (kG (U2 J (kG (W5 J J (fun h24=>?_) (fun h24=>?_)))))))))))))))))))))))
      ·refine kG (W2 J J J (bK J J J (Q0 (Y0 J (rS (kM J (Q0 (V2 (W3 ?_)))))))))
       exact aO J ⟨congrArg (Value.int .i64) (B4 (fJ hpt hfit) hw had (show ¬(num<=B1 (-pbd) (gV wk)) from oM)).symm,rfl⟩
      ·refine kG (W2 J J J (bK J J J (Q0 (U0 J (Q1 (W0 (rS (kM J (Q0 (V2 ?_))))))))))
       exact aO J ⟨congrArg (Value.int .i64) (B5 (fJ hpt hfit) hw had (show num<=B1 (-pbd) (gV wk) from oM)).symm,rfl⟩
     ·refine kM J (Q0 (rS (kM J (kO (V3 J J (fun _=>(Q0 (Y0 J (rS (kM J (kM J (Q0 (V2 (W3 ?_))))))))) (fun h=>absurd h dE))))))
      exact aO J ⟨congrArg (Value.int .i64) (Ee (fJ hpt hfit) hw had).symm,rfl⟩
   ·have hwo9:dA (xW true (dL wk ws ww l1 l2) (dys rs).length) (xW true (dL wk ws ww l1 l2) (dys rs).length).length<=3600000000000:=by rw[vQ];exact hrb2
    refine kG (bI J J yP rfl ?_);unfold ET;refine rS (kM J (Q0 (rS (aY J J (fun b26=>(kZ (cY J J .here rfl rfl (Q0 (rQ (rS (kM J (Q0 (Y0 J (rI (kZ (cY J J .here rfl rfl (Q0 (W0 (rS (kO (lF J J (kM J (Q0 (V2 (eO J .nil (kM J (Q0 ?_)))))))))))))))))))))))))));refine rQ (rS (aH J (aL J .h1 J (eT J (aH J (dD J dE .h4 J (dD J dE .h1 J (kM J (dD J dE .h8 J (kG (bI J J yQ rfl ?_)))))))))));unfold EU;refine rS (aZ J J J (fun b27=>(kM J (Q0 (rS (aH J (aL J .here rfl (kO (cK J (kO (oI (m:=0) (c:=(l2.length*l1.length+1+(dys rs).length)) J J oM oM oM (fun b28=>(kM J (Q0 (rQ (rS (aH J (aL J .h1 J (kO (cK J (kM J (Q0 (W1 ?_)))))))))))))))))))))));refine U4 (fun j e A=>∃(k:Nat) (w9:List Int),e=[(1,.func (.func 107) ⟨[]⟩ ⟨[.pointer (some ⟨b26,0,none⟩)]⟩),(5,.slice (some ⟨b28,0,none⟩) k (l2.length*l1.length+1+(dys rs).length)),(13,.slice (some ⟨b99,0,none⟩) (l2.length*l1.length+1+(dys rs).length) OPEN),(14,.int .i64 (((l2.length*l1.length+1+(dys rs).length):Nat):Int)),(15,.int .i64 (k:Int))]/\A=(.row b28 3 false (ints w9)::(.row b27 (117) false ([.pointer (some ⟨bs,0,none⟩),.slice (some ⟨b99,0,none⟩) (l2.length*l1.length+1+(dys rs).length) OPEN,.int .i64 (gV wk)])::(.row b26 3 false ([.int .i64 (1)])::(.row b15 (117) false ([.pointer (some ⟨bs,0,none⟩),.slice (some ⟨b99,0,none⟩) (l2.length*l1.length+1+(dys rs).length) OPEN,.int .i64 (gV wk)])::(.row b99 3 true (ints (dL wk ws ww l1 l2++List.replicate (dys rs).length 0))::(.row bL 107 true (aT (Sv.b6 (Sv.mk r al up l1 l2 rs cs)))::(.row bs 96 false ([.int .i64 d,.int .i64 r,.slice a1 l1.length c1,.slice a2 l2.length c2,.int .i64 al,.int .i64 up,.slice a3 rs.length c3,.slice a4 cs.length c4,.int .i64 ((l1.length:Int)*(l2.length:Int)+((dys rs).length:Int)),.slice (some ⟨bL,0,none⟩) (Sv.b6 (Sv.mk r al up l1 l2 rs cs)).length OPEN,.slice none 0 0])::(.row b6 (117) false ([.pointer (some ⟨bs,0,none⟩),.slice (some ⟨b99,0,none⟩) (l2.length*l1.length+1+(dys rs).length) OPEN,.int .i64 (gV wk)])::(.row b3 (62) false ([.int .i64 pbd,.slice ap us.length cp])::[])))))))))/\j=(l2.length*l1.length+1+(dys rs).length)-k/\k<=(l2.length*l1.length+1+(dys rs).length)/\Ff (1) (dL wk ws ww l1 l2++List.replicate (dys rs).length 0) w9 k) 300 281474976710656 281474976710656 ?_ (j:=_) (env2:=_) (A2:=_) ?_ ?_ ?_ ?_ ⟨0,List.replicate (l2.length*l1.length+1+(dys rs).length) 0,rfl,rfl,rfl,Nat.zero_le _,⟨by rw[List.length_replicate,zL],fun i hi=>absurd hi (Nat.not_lt_zero i)⟩⟩
    rotate_left
    ·omega
    ·omega
    ·exact lL
    ·exact(.q (.q (.q (.q (.q (.q (.q (.q (.cons _ (.cons _ (.q (.cons _ (.cons _ .slnil)))))))))))))
    rintro n hn j _ _ ⟨k,w9,rfl,rfl,rfl,hk,hw9⟩;have hwl9:=hw9.1;have zL2:=zL;have hbk:-3600000000000<=(dL wk ws ww l1 l2++List.replicate (dys rs).length 0).getD k 0/\(dL wk ws ww l1 l2++List.replicate (dys rs).length 0).getD k 0<=3600000000000:=by rw[vS];exact qO hrb2
    refine rS (dB J J (fun h29=>?_) (fun h29=>?_))
    ·refine Q0 (rQ (Y0 J (Q1 (W0 (rQ (W1 (rS (cN (j:=k) J J oM oM (kO (dM J .h4 (by first|omega|(simp;done)|(simp;omega)) (kM J (Q0 (rI (kM J (kM J (kM J (kG (bI J J lY rfl ?_))))))))))))))))))
     unfold rP;refine rS (kM J (Q0 (rS (aL J .h2 J (kM J (aV J J oM (kM J (Q0 (V2 (eO J .nil (kO (bF J J J (fun b30=>(kO (wO J J (fK.own .here rfl sM) .h1 (by rw[bU];omega) oM (by show _<18446744073709551616;omega) oM oM (kM J (Q0 (Z1 (W0 (rI (aX J J oM (kM J (Q0 (W0 ?_))))))))))))))))))))))));exact⟨rfl,_,_,_,(show(l2.length*l1.length+1+(dys rs).length)-(k+1)<(l2.length*l1.length+1+(dys rs).length)-k from oM),lL,(.cons _ (.q (.q (.q (.q (.q (.q (.q (.q (.q .slnil)))))))))),⟨k+1,_,rfl,(congrArg (fun q=>Ob.row _ _ _ q::_) (sU oM)),rfl,oM,(hw9.step (by rw[zL];omega))⟩⟩
    ·obtain rfl:k=(l2.length*l1.length+1+(dys rs).length):=oM
     have hw8:=Ff.eq (l:=(dL wk ws ww l1 l2++List.replicate (dys rs).length 0)) (w:=w9) (by rw[zL];exact hw9);subst hw8;refine Q0 (rQ (U0 J (Y4 (Z2 (Z2 (Q3 (W0 (rS (kM J (kM J (Q0 (V2 (eO J .nil (kZ (eJ J J dE .h8 J (by simp[eqL,eqV,eqA,kindEq,aB,V5 hl1.spot,V5 hl2.spot,V5 hr.spot,V5 hc.spot,V5 hU.spot,V5 hspd]) (kZ (eJ J J dE .h6 J (by simp[eqL,eqV,eqA,kindEq,aB,V5 hl1.spot,V5 hl2.spot,V5 hr.spot,V5 hc.spot,V5 hU.spot,V5 hspd]) (kZ (aK J J .h3 J (by simp[eqV,eqA,eqL,kindEq,aB,V5 hl1.spot,V5 hl2.spot,V5 hr.spot,V5 hc.spot,V5 hU.spot,V5 hspd]) (kO (Z4 J J (fun s1 h1=>mO _ ((l1.length:Int)*(l2.length:Int)+((dys rs).length:Int)) _ _ (Sv.b6 (Sv.mk r al up l1 l2 rs cs)) _ _ _ (xW true (dL wk ws ww l1 l2) (dys rs).length) _ _ us pbd (l2.length*l1.length+1+(dys rs).length) s1 h1.wf oM (RowsE.ownF (h1.own .h5) (AL hsr hsa hsu hpl oM oM hrdb hcpb (hr.ext hs h1.2.1) (hc.ext hs h1.2.1) oM) oM) (by rw[gC,dN]) (aN.own (h1.own .here) (vR hwo9 dE) (by rw[gC,dN];omega)) (hU.ext hs h1.2.1) hsys oM oM oM hLg oM (by rw[gC,dN]) hwo9) (fun v1 A1 q1=>?_))))))))))))))))))))));rcases q1 with ⟨had,rfl,rfl⟩|⟨had,rfl,rfl⟩
     ·have hbdb:=Ed hLg had.2
      refine kM J (Q0 (rS (kM J (kO (V3 J J (fun h=>absurd h dE) (fun _=>(Q0 (U0 J (Q1 (W0 (rS (kM J (aH J (aL J .h8 J (aH J (aL J .h3 J (kG (bI J J lY rfl ?_))))))))))))))))));unfold rP;refine rS (kM J (Q0 (rS (aL J .h2 J (kM J (aV J J oM (kM J (Q0 (V2 (eO J .nil (kZ (aK J J .h3 J (by simp[eqV,eqA,eqL,kindEq,aB,V5 hl1.spot,V5 hl2.spot,V5 hr.spot,V5 hc.spot,V5 hU.spot,V5 hspd]) (kO (aI J J (fun s1 h1=>zJ _ _ _ s1 h1.wf oM oM) ?_))))))))))))));rw[show(1:Int)*pbd=pbd from oM];refine kM J (Q0 (rQ (rS (kM J (kM J (kG (U2 J (kG (U2 J (kG (dR J J (fun h33=>?_) (fun h33=>?_))))))))))))
      ·refine cA J J J (kM J (V0 (V0 (V0 (V0 (V0 (V0 (V0 (cA J J J (Q0 (Y0 J (rS (kM J (Q0 (V2 (W3 ?_))))))))))))))))
       exact aO J ⟨congrArg (Value.int .i64) (B4 (fJ hpt hfit) hw had (show ¬(B1 pbd (gV wk)<=num) from oM)).symm,rfl⟩
      ·refine cA J J J (kM J (kG (U2 J (kG (U6 J (kG (U2 J (V0 (V0 (V0 (kG (U1 J J J (bK J J J (Q0 (U0 J (Q1 (W0 (rS (kM J (Q0 (V2 ?_)))))))))))))))))))))
       exact aO J ⟨congrArg (Value.int .i64) (B5 (fJ hpt hfit) hw had (show B1 pbd (gV wk)<=num from oM)).symm,rfl⟩
     ·refine kM J (Q0 (rS (kM J (kO (V3 J J (fun _=>(Q0 (Y0 J (rS (kM J (kM J (Q0 (V2 (W3 ?_))))))))) (fun h=>absurd h dE))))))
      exact aO J ⟨congrArg (Value.int .i64) (Ee (fJ hpt hfit) hw had).symm,rfl⟩
  ·refine kM J (eK J J (eK J J (eK J J (kM J (kM J (kM J (Q0 (rQ (rS (kM J (kO (V3 J J (fun _=>(Q0 (Y0 J (rS (eG J J (kM J (kZ (Q6 J J .h2 J J J J (kM J (Q0 (V2 (W3 (nW J dE .nil .h2 J J (kM J ?_)))))))))))))) (fun h=>absurd h dE)))))))))))))
   refine eK J J (eK J J (aY J J (fun b36=>(kZ (Q6 J J .here rfl rfl rfl rfl (kM J (Q0 (rQ (rS (kM J (kO (V3 J J (fun _=>(Q0 (Y0 J (rS (kM J (kM J (Q0 (V2 (W3 ?_))))))))) (fun h=>absurd h dE)))))))))))));exact aO J ⟨congrArg (Value.int .i64) (Mn (fJ hpt hfit) hw).symm,rfl⟩
 ·simp only[List.cons_append,List.nil_append]
  have hspd:∀b,(some ⟨bd,0,none⟩:Option Addr)=some b->b.spot=none:=fun b hb=>by cases hb;rfl
  have hdp:=Hn hne;obtain⟨⟨hsd,hsr,hsa,hsu,hpl⟩,h60,h20,hrdb,hcpb⟩:=oN hpt;have hp1:=fZ hpl;have hp2:=gO hpl;have hm1:=hp1.hm;have hm2:=hp2.hm;have h21:=hp1.h2;have h22:=hp2.h2;have hN9:l2.length*l1.length<=81:=Nat.le_trans (Nat.mul_le_mul (show l2.length<=9 from oM) (show l1.length<=9 from oM)) dE;have hNi:((l2.length*l1.length:Nat):Int)=(l1.length:Int)*(l2.length:Int):=by rw[Int.natCast_mul,Int.mul_comm]
  have hdl:=rY hr;have hf1:=hfit.1;have hf2:=hfit.2;have hlv:=Hx (a4:=a4) (up:=up) (l1:=l1) (l2:=l2) hsr hsa hsu hpl hcpb hrdb hr hc rfl hf1;have hLg:Bo (l2.length*l1.length+1+(dys rs).length) (Sv.b6 (Sv.mk r al up l1 l2 rs cs)):=Hw oM hlv;have hTL:=CY (up:=up) (l1:=l1) hrdb hr oM hLg;have hsys:fR ((l1.length:Int)*(l2.length:Int)+((dys rs).length:Int)) (Sv.b6 (Sv.mk r al up l1 l2 rs cs))=0:=zO oM hf2 hlv;have hmE:((l1.length:Int)*(l2.length:Int)+((dys rs).length:Int))=((l2.length*l1.length+(dys rs).length:Nat):Int):=oM
  have hL4:∀q∈(Sv.b6 (Sv.mk r al up l1 l2 rs cs)),q.length=4:=Sv.h6 _ _;refine kM J (eK J J (eK J J (kM J (kM J (Q0 (rQ (rS (kM J (kO (V3 J J (fun h=>absurd h dE) (fun _=>(Q0 (U0 J (Q1 (W0 (rS (aH J (dD J dE .h5 J (dD J dE .h4 J (kO (Z4 J J (fun s1 h1=>vE _ _ _ _ _ _ _ _ _ _ _ _ _ _ s1 h1.wf oM (hl1.ext hs h1.2.1) (hl2.ext hs h1.2.1) hp1 hp2 (hcp.ext hs h1.2.1)) (fun v1 A1 q1=>?_))))))))))))))))))))));rcases q1 with ⟨hw,b9,rfl,rfl⟩|⟨hw,rfl,rfl⟩
  ·obtain⟨ws,rfl⟩:∃q:Nat,ws=(q:Int):=⟨ws.toNat,oM⟩
   obtain⟨ww,rfl⟩:∃q:Nat,ww=(q:Int):=⟨ww.toNat,oM⟩;have hrb:=zK (wk:=wk) hp1 hp2 (h15 hpl) (fun h=>oM) (show ws<l1.length from oM) (show ww<l2.length from oM) oM;have hrb2:dA (dL wk ws ww l1 l2) (dL wk ws ww l1 l2).length<=3600000000000:=(by rw[dN];exact hrb);have hrd:=vJ (wk:=wk);have hsa9:=vP hsys;refine kM J (eK J J (eK J J (eK J J (kM J (kM J (kM J (Q0 (rQ (rS (kM J (kO (V3 J J (fun h=>absurd h dE) (fun _=>(Q0 (U0 J (Q1 (W0 (rS (kM J (kM J (eT J (aH J (aL J .h2 J (kO (cK J (kO (Hy (m:=(dys rs).length) J J J .here (by rw[dN]) oM (fun b99=>?_))))))))))))))))))))))))))));refine kM J (Q0 (rS (kM J (kM J (kM J (eG J J (kZ (Q6 J J .h4 J J J J (kM J (Q0 (V2 (nW J dE .nil .h4 J J (kM J (eK J J (eK J J (aY J J (fun b40=>(kZ (Q6 J J .here rfl rfl rfl rfl (kM J (Q0 (rQ (rS (kM J (kO (V3 J J (fun h=>absurd h dE) (fun _=>(Q0 ?_))))))))))))))))))))))))))));refine U0 J (Q1 (W0 (rS (kM J ?_))));have zL:(dL wk ws ww l1 l2++List.replicate (dys rs).length 0).length=(l2.length*l1.length+1+(dys rs).length):=by rw[List.length_append,dN,List.length_replicate]
   cases high
   ·have hwo9:dA (xW false (dL wk ws ww l1 l2) (dys rs).length) (xW false (dL wk ws ww l1 l2) (dys rs).length).length<=3600000000000:=by rw[vQ];exact hrb2
    refine kG (bI J J yP rfl ?_);unfold ET;refine rS (kM J (Q0 (rS (aY J J (fun b42=>(kZ (cY J J .here rfl rfl (Q0 (rQ (rS (kM J (Q0 (U0 J (Q1 (W0 (rS (kO (lF J J (kM J (Q0 (V2 (eO J .nil (kM J (Q0 (rQ (rS ?_))))))))))))))))))))))))));refine aH J (aL J .h1 J (eT J (aH J (dD J dE .h4 J (dD J dE .h1 J (kM J (dD J dE .h9 J (kG (bI J J yQ rfl ?_)))))))));unfold EU;refine rS (aZ J J J (fun b43=>(kM J (Q0 (rS (aH J (aL J .here rfl (kO (cK J (kO (oI (m:=0) (c:=(l2.length*l1.length+1+(dys rs).length)) J J oM oM oM (fun b44=>(kM J (Q0 (rQ (rS (aH J (aL J .h1 J (kO (cK J (kM J (Q0 (W1 ?_)))))))))))))))))))))));refine U4 (fun j e A=>∃(k:Nat) (w9:List Int),e=[(1,.func (.func 107) ⟨[]⟩ ⟨[.pointer (some ⟨b42,0,none⟩)]⟩),(5,.slice (some ⟨b44,0,none⟩) k (l2.length*l1.length+1+(dys rs).length)),(13,.slice (some ⟨b99,0,none⟩) (l2.length*l1.length+1+(dys rs).length) OPEN),(14,.int .i64 (((l2.length*l1.length+1+(dys rs).length):Nat):Int)),(15,.int .i64 (k:Int))]/\A=(.row b44 3 false (ints w9)::(.row b43 (117) false ([.pointer (some ⟨bs,0,none⟩),.slice (some ⟨b99,0,none⟩) (l2.length*l1.length+1+(dys rs).length) OPEN,.int .i64 (gV wk)])::(.row b42 3 false ([.int .i64 (-1)])::(.row b40 (117) false ([.pointer (some ⟨bs,0,none⟩),.slice (some ⟨b99,0,none⟩) (l2.length*l1.length+1+(dys rs).length) OPEN,.int .i64 (gV wk)])::(.row b99 3 true (ints (dL wk ws ww l1 l2++List.replicate (dys rs).length 0))::(.row bL 107 true (aT (Sv.b6 (Sv.mk r al up l1 l2 rs cs)))::(.row bs 96 false ([.int .i64 d,.int .i64 r,.slice a1 l1.length c1,.slice a2 l2.length c2,.int .i64 al,.int .i64 up,.slice a3 rs.length c3,.slice a4 cs.length c4,.int .i64 ((l1.length:Int)*(l2.length:Int)+((dys rs).length:Int)),.slice (some ⟨bL,0,none⟩) (Sv.b6 (Sv.mk r al up l1 l2 rs cs)).length OPEN,.slice (some ⟨bd,0,none⟩) (dys rs).length OPEN])::(.row b6 (117) false ([.pointer (some ⟨bs,0,none⟩),.slice (some ⟨b99,0,none⟩) (l2.length*l1.length+1+(dys rs).length) OPEN,.int .i64 (gV wk)])::(.row b3 (62) false ([.int .i64 pbd,.slice ap us.length cp])::[])))))))))/\j=(l2.length*l1.length+1+(dys rs).length)-k/\k<=(l2.length*l1.length+1+(dys rs).length)/\Ff (-1) (dL wk ws ww l1 l2++List.replicate (dys rs).length 0) w9 k) 300 281474976710656 281474976710656 ?_ (j:=_) (env2:=_) (A2:=_) ?_ ?_ ?_ ?_ ⟨0,List.replicate (l2.length*l1.length+1+(dys rs).length) 0,rfl,rfl,rfl,Nat.zero_le _,⟨by rw[List.length_replicate,zL],fun i hi=>absurd hi (Nat.not_lt_zero i)⟩⟩
    rotate_left
    ·omega
    ·omega
    ·exact lL
    ·exact(.q (.q (.q (.q (.q (.q (.q (.cons _ (.q (.cons _ (.cons _ (.q (.cons _ (.cons _ .slnil))))))))))))))
    rintro n hn j _ _ ⟨k,w9,rfl,rfl,rfl,hk,hw9⟩;have hwl9:=hw9.1;have zL2:=zL;have hbk:-3600000000000<=(dL wk ws ww l1 l2++List.replicate (dys rs).length 0).getD k 0/\(dL wk ws ww l1 l2++List.replicate (dys rs).length 0).getD k 0<=3600000000000:=by rw[vS];exact qO hrb2
    refine rS (dB J J (fun h45=>?_) (fun h45=>?_))
    ·refine Q0 (rQ (Y0 J (Q1 (W0 (rQ (W1 (rS (cN (j:=k) J J oM oM (kO (dM J .h4 (by first|omega|(simp;done)|(simp;omega)) (kM J (Q0 (rI (kM J (kM J (kM J (kG (bI J J lY rfl ?_))))))))))))))))))
     unfold rP;refine rS (kM J (Q0 (rS (aL J .h2 J (kM J (aV J J oM (kM J (Q0 (V2 (eO J .nil (kO (bF J J J (fun b46=>(kO (wO J J (fK.own .here rfl sM) .h1 (by rw[bU];omega) oM (by show _<18446744073709551616;omega) oM oM (kM J (Q0 (Z1 (W0 (rI (aX J J oM (kM J (Q0 (W0 ?_))))))))))))))))))))))));exact⟨rfl,_,_,_,(show(l2.length*l1.length+1+(dys rs).length)-(k+1)<(l2.length*l1.length+1+(dys rs).length)-k from oM),lL,(.cons _ (.q (.q (.q (.q (.q (.q (.q (.q (.q .slnil)))))))))),⟨k+1,_,rfl,(congrArg (fun q=>Ob.row _ _ _ q::_) (sU oM)),rfl,oM,(hw9.step (by rw[zL];omega))⟩⟩
    ·obtain rfl:k=(l2.length*l1.length+1+(dys rs).length):=oM
     have hw8:=Ff.eq (l:=(dL wk ws ww l1 l2++List.replicate (dys rs).length 0)) (w:=w9) (by rw[zL];exact hw9);subst hw8;refine Q0 (rQ (U0 J (Y4 (Z2 (Z2 (Q3 (W0 (rS (kM J (kM J (Q0 (V2 (eO J .nil (kZ (eJ J J dE .h8 J (by simp[eqL,eqV,eqA,kindEq,aB,V5 hl1.spot,V5 hl2.spot,V5 hr.spot,V5 hc.spot,V5 hU.spot,V5 hspd]) (kZ (eJ J J dE .h6 J (by simp[eqL,eqV,eqA,kindEq,aB,V5 hl1.spot,V5 hl2.spot,V5 hr.spot,V5 hc.spot,V5 hU.spot,V5 hspd]) (kZ (aK J J .h3 J (by simp[eqV,eqA,eqL,kindEq,aB,V5 hl1.spot,V5 hl2.spot,V5 hr.spot,V5 hc.spot,V5 hU.spot,V5 hspd]) (kO (Z4 J J (fun s1 h1=>mO _ ((l1.length:Int)*(l2.length:Int)+((dys rs).length:Int)) _ _ (Sv.b6 (Sv.mk r al up l1 l2 rs cs)) _ _ _ (xW false (dL wk ws ww l1 l2) (dys rs).length) _ _ us pbd (l2.length*l1.length+1+(dys rs).length) s1 h1.wf oM (RowsE.ownF (h1.own .h5) (AL hsr hsa hsu hpl oM oM hrdb hcpb (hr.ext hs h1.2.1) (hc.ext hs h1.2.1) oM) oM) (by rw[gC,dN]) (aN.own (h1.own .here) (vR hwo9 dE) (by rw[gC,dN];omega)) (hU.ext hs h1.2.1) hsys oM oM oM hLg oM (by rw[gC,dN]) hwo9) (fun v1 A1 q1=>?_))))))))))))))))))))));rcases q1 with ⟨had,rfl,rfl⟩|⟨had,rfl,rfl⟩
     ·have hbdb:=Ed hLg had.2
      refine kM J (Q0 (rS (kM J (kO (V3 J J (fun h=>absurd h dE) (fun _=>(Q0 (U0 J (Q1 (W0 (rS (kM J (aH J (aL J .h8 J (aH J (aL J .h3 J (kG (bI J J lY rfl ?_))))))))))))))))));unfold rP;refine rS (kM J (Q0 (rS (aL J .h2 J (kM J (aV J J oM (kM J (Q0 (V2 (eO J .nil (kZ (aK J J .h3 J (by simp[eqV,eqA,eqL,kindEq,aB,V5 hl1.spot,V5 hl2.spot,V5 hr.spot,V5 hc.spot,V5 hU.spot,V5 hspd]) (kO (aI J J (fun s1 h1=>zJ _ _ _ s1 h1.wf oM oM) ?_))))))))))))));rw[show(-1:Int)*pbd = -pbd from oM];refine kM J (Q0 (rQ (rS (kM J (kM J (V0 (V0 (V0 (bK J J J (kM J (kG (U2 J (kG (U6 J (kG (U2 J (kG (U2 J (kG (U2 J (kG (W5 J J (fun h49=>?_) (fun h49=>?_)))))))))))))))))))))))
      ·refine kG (W2 J J J (bK J J J (Q0 (Y0 J (rS (kM J (Q0 (V2 (W3 ?_)))))))))
       exact aO J ⟨congrArg (Value.int .i64) (B4 (fJ hpt hfit) hw had (show ¬(num<=B1 (-pbd) (gV wk)) from oM)).symm,rfl⟩
      ·refine kG (W2 J J J (bK J J J (Q0 (U0 J (Q1 (W0 (rS (kM J (Q0 (V2 ?_))))))))))
       exact aO J ⟨congrArg (Value.int .i64) (B5 (fJ hpt hfit) hw had (show num<=B1 (-pbd) (gV wk) from oM)).symm,rfl⟩
     ·refine kM J (Q0 (rS (kM J (kO (V3 J J (fun _=>(Q0 (Y0 J (rS (kM J (kM J (Q0 (V2 (W3 ?_))))))))) (fun h=>absurd h dE))))))
      exact aO J ⟨congrArg (Value.int .i64) (Ee (fJ hpt hfit) hw had).symm,rfl⟩
   ·have hwo9:dA (xW true (dL wk ws ww l1 l2) (dys rs).length) (xW true (dL wk ws ww l1 l2) (dys rs).length).length<=3600000000000:=by rw[vQ];exact hrb2
    refine kG (bI J J yP rfl ?_);unfold ET;refine rS (kM J (Q0 (rS (aY J J (fun b51=>(kZ (cY J J .here rfl rfl (Q0 (rQ (rS (kM J (Q0 (Y0 J (rI (kZ (cY J J .here rfl rfl (Q0 (W0 (rS (kO (lF J J (kM J (Q0 (V2 (eO J .nil (kM J (Q0 ?_)))))))))))))))))))))))))));refine rQ (rS (aH J (aL J .h1 J (eT J (aH J (dD J dE .h4 J (dD J dE .h1 J (kM J (dD J dE .h9 J (kG (bI J J yQ rfl ?_)))))))))));unfold EU;refine rS (aZ J J J (fun b52=>(kM J (Q0 (rS (aH J (aL J .here rfl (kO (cK J (kO (oI (m:=0) (c:=(l2.length*l1.length+1+(dys rs).length)) J J oM oM oM (fun b53=>(kM J (Q0 (rQ (rS (aH J (aL J .h1 J (kO (cK J (kM J (Q0 (W1 ?_)))))))))))))))))))))));refine U4 (fun j e A=>∃(k:Nat) (w9:List Int),e=[(1,.func (.func 107) ⟨[]⟩ ⟨[.pointer (some ⟨b51,0,none⟩)]⟩),(5,.slice (some ⟨b53,0,none⟩) k (l2.length*l1.length+1+(dys rs).length)),(13,.slice (some ⟨b99,0,none⟩) (l2.length*l1.length+1+(dys rs).length) OPEN),(14,.int .i64 (((l2.length*l1.length+1+(dys rs).length):Nat):Int)),(15,.int .i64 (k:Int))]/\A=(.row b53 3 false (ints w9)::(.row b52 (117) false ([.pointer (some ⟨bs,0,none⟩),.slice (some ⟨b99,0,none⟩) (l2.length*l1.length+1+(dys rs).length) OPEN,.int .i64 (gV wk)])::(.row b51 3 false ([.int .i64 (1)])::(.row b40 (117) false ([.pointer (some ⟨bs,0,none⟩),.slice (some ⟨b99,0,none⟩) (l2.length*l1.length+1+(dys rs).length) OPEN,.int .i64 (gV wk)])::(.row b99 3 true (ints (dL wk ws ww l1 l2++List.replicate (dys rs).length 0))::(.row bL 107 true (aT (Sv.b6 (Sv.mk r al up l1 l2 rs cs)))::(.row bs 96 false ([.int .i64 d,.int .i64 r,.slice a1 l1.length c1,.slice a2 l2.length c2,.int .i64 al,.int .i64 up,.slice a3 rs.length c3,.slice a4 cs.length c4,.int .i64 ((l1.length:Int)*(l2.length:Int)+((dys rs).length:Int)),.slice (some ⟨bL,0,none⟩) (Sv.b6 (Sv.mk r al up l1 l2 rs cs)).length OPEN,.slice (some ⟨bd,0,none⟩) (dys rs).length OPEN])::(.row b6 (117) false ([.pointer (some ⟨bs,0,none⟩),.slice (some ⟨b99,0,none⟩) (l2.length*l1.length+1+(dys rs).length) OPEN,.int .i64 (gV wk)])::(.row b3 (62) false ([.int .i64 pbd,.slice ap us.length cp])::[])))))))))/\j=(l2.length*l1.length+1+(dys rs).length)-k/\k<=(l2.length*l1.length+1+(dys rs).length)/\Ff (1) (dL wk ws ww l1 l2++List.replicate (dys rs).length 0) w9 k) 300 281474976710656 281474976710656 ?_ (j:=_) (env2:=_) (A2:=_) ?_ ?_ ?_ ?_ ⟨0,List.replicate (l2.length*l1.length+1+(dys rs).length) 0,rfl,rfl,rfl,Nat.zero_le _,⟨by rw[List.length_replicate,zL],fun i hi=>absurd hi (Nat.not_lt_zero i)⟩⟩
    rotate_left
    ·omega
    ·omega
    ·exact lL
    ·exact(.q (.q (.q (.q (.q (.q (.q (.cons _ (.q (.cons _ (.cons _ (.q (.cons _ (.cons _ .slnil))))))))))))))
    rintro n hn j _ _ ⟨k,w9,rfl,rfl,rfl,hk,hw9⟩;have hwl9:=hw9.1;have zL2:=zL;have hbk:-3600000000000<=(dL wk ws ww l1 l2++List.replicate (dys rs).length 0).getD k 0/\(dL wk ws ww l1 l2++List.replicate (dys rs).length 0).getD k 0<=3600000000000:=by rw[vS];exact qO hrb2
    refine rS (dB J J (fun h54=>?_) (fun h54=>?_))
    ·refine Q0 (rQ (Y0 J (Q1 (W0 (rQ (W1 (rS (cN (j:=k) J J oM oM (kO (dM J .h4 (by first|omega|(simp;done)|(simp;omega)) (kM J (Q0 (rI (kM J (kM J (kM J (kG (bI J J lY rfl ?_))))))))))))))))))
     unfold rP;refine rS (kM J (Q0 (rS (aL J .h2 J (kM J (aV J J oM (kM J (Q0 (V2 (eO J .nil (kO (bF J J J (fun b55=>(kO (wO J J (fK.own .here rfl sM) .h1 (by rw[bU];omega) oM (by show _<18446744073709551616;omega) oM oM (kM J (Q0 (Z1 (W0 (rI (aX J J oM (kM J (Q0 (W0 ?_))))))))))))))))))))))));exact⟨rfl,_,_,_,(show(l2.length*l1.length+1+(dys rs).length)-(k+1)<(l2.length*l1.length+1+(dys rs).length)-k from oM),lL,(.cons _ (.q (.q (.q (.q (.q (.q (.q (.q (.q .slnil)))))))))),⟨k+1,_,rfl,(congrArg (fun q=>Ob.row _ _ _ q::_) (sU oM)),rfl,oM,(hw9.step (by rw[zL];omega))⟩⟩
    ·obtain rfl:k=(l2.length*l1.length+1+(dys rs).length):=oM
     have hw8:=Ff.eq (l:=(dL wk ws ww l1 l2++List.replicate (dys rs).length 0)) (w:=w9) (by rw[zL];exact hw9);subst hw8;refine Q0 (rQ (U0 J (Y4 (Z2 (Z2 (Q3 (W0 (rS (kM J (kM J (Q0 (V2 (eO J .nil (kZ (eJ J J dE .h8 J (by simp[eqL,eqV,eqA,kindEq,aB,V5 hl1.spot,V5 hl2.spot,V5 hr.spot,V5 hc.spot,V5 hU.spot,V5 hspd]) (kZ (eJ J J dE .h6 J (by simp[eqL,eqV,eqA,kindEq,aB,V5 hl1.spot,V5 hl2.spot,V5 hr.spot,V5 hc.spot,V5 hU.spot,V5 hspd]) (kZ (aK J J .h3 J (by simp[eqV,eqA,eqL,kindEq,aB,V5 hl1.spot,V5 hl2.spot,V5 hr.spot,V5 hc.spot,V5 hU.spot,V5 hspd]) (kO (Z4 J J (fun s1 h1=>mO _ ((l1.length:Int)*(l2.length:Int)+((dys rs).length:Int)) _ _ (Sv.b6 (Sv.mk r al up l1 l2 rs cs)) _ _ _ (xW true (dL wk ws ww l1 l2) (dys rs).length) _ _ us pbd (l2.length*l1.length+1+(dys rs).length) s1 h1.wf oM (RowsE.ownF (h1.own .h5) (AL hsr hsa hsu hpl oM oM hrdb hcpb (hr.ext hs h1.2.1) (hc.ext hs h1.2.1) oM) oM) (by rw[gC,dN]) (aN.own (h1.own .here) (vR hwo9 dE) (by rw[gC,dN];omega)) (hU.ext hs h1.2.1) hsys oM oM oM hLg oM (by rw[gC,dN]) hwo9) (fun v1 A1 q1=>?_))))))))))))))))))))));rcases q1 with ⟨had,rfl,rfl⟩|⟨had,rfl,rfl⟩
     ·have hbdb:=Ed hLg had.2
      refine kM J (Q0 (rS (kM J (kO (V3 J J (fun h=>absurd h dE) (fun _=>(Q0 (U0 J (Q1 (W0 (rS (kM J (aH J (aL J .h8 J (aH J (aL J .h3 J (kG (bI J J lY rfl ?_))))))))))))))))));unfold rP;refine rS (kM J (Q0 (rS (aL J .h2 J (kM J (aV J J oM (kM J (Q0 (V2 (eO J .nil (kZ (aK J J .h3 J (by simp[eqV,eqA,eqL,kindEq,aB,V5 hl1.spot,V5 hl2.spot,V5 hr.spot,V5 hc.spot,V5 hU.spot,V5 hspd]) (kO (aI J J (fun s1 h1=>zJ _ _ _ s1 h1.wf oM oM) ?_))))))))))))));rw[show(1:Int)*pbd=pbd from oM];refine kM J (Q0 (rQ (rS (kM J (kM J (kG (U2 J (kG (U2 J (kG (dR J J (fun h58=>?_) (fun h58=>?_))))))))))))
      ·refine cA J J J (kM J (V0 (V0 (V0 (V0 (V0 (V0 (V0 (cA J J J (Q0 (Y0 J (rS (kM J (Q0 (V2 (W3 ?_))))))))))))))))
       exact aO J ⟨congrArg (Value.int .i64) (B4 (fJ hpt hfit) hw had (show ¬(B1 pbd (gV wk)<=num) from oM)).symm,rfl⟩
      ·refine cA J J J (kM J (kG (U2 J (kG (U6 J (kG (U2 J (V0 (V0 (V0 (kG (U1 J J J (bK J J J (Q0 (U0 J (Q1 (W0 (rS (kM J (Q0 (V2 ?_)))))))))))))))))))))
       exact aO J ⟨congrArg (Value.int .i64) (B5 (fJ hpt hfit) hw had (show B1 pbd (gV wk)<=num from oM)).symm,rfl⟩
     ·refine kM J (Q0 (rS (kM J (kO (V3 J J (fun _=>(Q0 (Y0 J (rS (kM J (kM J (Q0 (V2 (W3 ?_))))))))) (fun h=>absurd h dE))))))
      exact aO J ⟨congrArg (Value.int .i64) (Ee (fJ hpt hfit) hw had).symm,rfl⟩
  ·refine kM J (eK J J (eK J J (eK J J (kM J (kM J (kM J (Q0 (rQ (rS (kM J (kO (V3 J J (fun _=>(Q0 (Y0 J (rS (eG J J (kM J (kZ (Q6 J J .h3 J J J J (kM J (Q0 (V2 (W3 (nW J dE .nil .h3 J J (kM J ?_)))))))))))))) (fun h=>absurd h dE)))))))))))))
   refine eK J J (eK J J (aY J J (fun b61=>(kZ (Q6 J J .here rfl rfl rfl rfl (kM J (Q0 (rQ (rS (kM J (kO (V3 J J (fun _=>(Q0 (Y0 J (rS (kM J (kM J (Q0 (V2 (W3 ?_))))))))) (fun h=>absurd h dE)))))))))))));exact aO J ⟨congrArg (Value.int .i64) (Mn (fJ hpt hfit) hw).symm,rfl⟩
end
variable{us ls:List (List Int)}
theorem TH{k:Nat}{z0 z1:Int}(h:us[k]? = some [z0,z1]):bef us (k+1)=z0:=(oD h).1
theorem Qv{k:Nat}(h:wZ ls us k)(h1:k=0->0<=(us.getD k []).getD 0 0)(h2:0<k->bef us k+1<=(us.getD k []).getD 0 0)(h3:(us.getD k []).getD 0 0<=(ls.length:Int)-1)(h4:1<=pn us k/\pn us k<=3600000000000)(h5:bW (pn us) k+pn us k<=230400000000000):wZ ls us (k+1):=by
 refine h.put ⟨?_,h3⟩ h4 h5;cases k with
 |zero=>have:=h1 rfl;show(-1:Int)+1<=_;omega
 |succ k=>exact h2 (Nat.succ_pos k)
theorem R7{w:List Int}{N:Nat}{bd:Int}(hl:Bo N ls)(hw:w.length=N)(h:wZ ls us us.length)(hs:bW (fun j=>pn us j*lw ls (pf us j)) us.length=bd)(hi:∀v,1<=v->v<N->(uC ls us N us.length).getD v 0=w.getD v 0):D9 ls us w N bd:=⟨h,hs,fun v h1 h2=>by
 have:=sT hl hw h v h2;have:=hi v h1 h2;omega⟩
theorem qP{w:List Int}{N:Nat}{bd:Int}{u:Nat}(hl:Bo N ls)(hw:w.length=N)(h:wZ ls us us.length)(h1:1<=u)(h2:u<N)(hne:¬(uC ls us N us.length).getD u 0=w.getD u 0):¬D9 ls us w N bd:=fun q=>by
 have:=sT hl hw h u h2;have:=q.2.2 u h1 h2;omega
section
variable{X:FuncId->List Value->St->(Value->St->Bool)->Bool}
theorem P6(n:Nat)(a:Option Addr)(cap:Nat)(l:List Int)(s:St)(hs:Wf s)(hn:281474976710656<=n)(hl:aN s a l)(h65:l.length<=65)(hwo:dA l l.length<=3600000000000):bX Tryz.prog (bZ cB) X (n+200) 189 [.slice a l.length cap] s (fun v A=>v = .bool true/\A=[]):=by
 refine enter K3 rfl hs ?_;unfold GB;have hlen:=hl.len;refine rS (kM J (Q0 (rS (kM J (Q0 (rQ (rS (kM J (aJ J hl.spot (kM J (Q0 (W1 (U4 (fun j e A=>∃(k:Nat),e=[(3,.int .i64 (dA l k)),(6,.slice a l.length cap),(7,.int .i64 (l.length:Int)),(8,.int .i64 (k:Int))]/\A=[]/\j=l.length-k/\k<=l.length/\0<=dA l k) 120 0 281474976710656 ?_ (j:=_) (env2:=_) (A2:=_) ?_ ?_ ?_ ?_ ⟨0,rfl,rfl,rfl,Nat.zero_le _,(by show(0:Int)<=0;decide)⟩)))))))))))))
 rotate_left
 ·omega
 ·omega
 ·exact lL
 ·exact .slnil
 rintro n hn j _ _ ⟨k,rfl,rfl,rfl,hk,hb⟩;have htk:=CT (w:=l) (a:=k) (b:=l.length) hk;refine rS (dB J J (fun h1=>?_) (fun h1=>?_))
 ·have hbk:=qO hwo (i:=k)
  have htk1:=CT (w:=l) (a:=k+1) (b:=l.length) oM;have htk2:dA l (k+1)=dA l k+max (l.getD k 0) (-(l.getD k 0)):=rfl;refine Q0 (rQ (Y0 J (Q1 (W0 (rQ (W1 (rS (kO (Q7 (j:=k) hl rfl rfl oM (by first|rfl|omega) oM (fun _ _ a2=>(kO (W6 J (hl.at a2 oM) (kM J (Q0 (rQ (rS (kM J (dB J J (fun h3=>?_) (fun h3=>?_)))))))))))))))))))
  ·exfalso;omega
  ·refine kM J (kG (U2 J (kG (dR J J (fun h4=>?_) (fun h4=>?_)))))
   ·exfalso;omega
   ·refine bK J J J (Q0 (U0 J (Q1 (W0 (rS (kM J (kM J (kM J (kO (xQ J oM (kO (Dx J (aX J J oM (kM J (Q0 (rS (kM J (kO (dR J J (fun h5=>?_) (fun h5=>?_))))))))))))))))))))
    ·exfalso;omega
    ·refine Q0 (U0 J (Q1 (Z1 (W0 (rI (aX J J oM (kM J (Q0 (W0 ?_)))))))))
     exact⟨rfl,_,_,_,(show l.length-(k+1)<l.length-k from oM),(lc 3 J (lc 6 J (lc 7 J (lc 8 J fF.nil)))),.slnil,⟨k+1,(by rw[show(dA l (k+1):Int)=dA l k+max (l.getD k 0) (-(l.getD k 0)) from rfl];rfl),rfl,rfl,oM,(by have:=Fc (x:=l.getD k 0);show 0<=dA l k+pN (l.getD k 0);omega)⟩⟩
 ·refine Q0 (rQ (U0 J (Y4 (Z2 (Z2 (Q3 (W0 (rS (kM J (Q0 (V2 ?_)))))))))))
  exact aO J ⟨rfl,rfl⟩
set_option maxHeartbeats 4000000 in
theorem Fg(n:Nat)(m:Int)(al:Option Addr)(cl:Nat)(ls:List (List Int))(aw:Option Addr)(cw:Nat)(w:List Int)(N:Nat)(s:St)(hs:Wf s)(hn:562949953421312<=n)(hW:aN s aw w)(hN:(N:Int)=m+1)(hN66:N<=65)(hN0:0<N)(hLg:Bo N ls)(h400:ls.length<=400)(hwl:w.length=N)(hwo:dA w w.length<=3600000000000):bX Tryz.prog (bZ cB) X (n+300) 155 [.agg ⟨[.int .i64 m,.slice al ls.length cl]⟩,.slice aw w.length cw] s (fun v A=>v = .bool true/\A=[]):=by
 refine enter KO rfl hs ?_;unfold Gm;have hlenW:=hW.len;refine rS (aZ J J J (fun b1=>(kM J (Q0 (rS (kM J (aJ J hW.spot (aH J (aL J .here rfl (aX J J oM (kO (bV J J (fun h2=>?_) (fun h2=>?_)))))))))))))
 ·refine kM J (kG (U2 J (kG (aI J J (fun s1 h1=>P6 _ _ _ _ s1 h1.wf oM (hW.ext hs h1.2.1) oM hwo) (cA J J J (kM J (Q0 (V2 ?_))))))))
  exact aO J ⟨rfl,rfl⟩
 ·exfalso;omega
set_option maxHeartbeats 4000000 in
theorem Ie(n:Nat)(m:Int)(al:Option Addr)(cl:Nat)(ls:List (List Int))(s:St)(hs:Wf s)(hn:281474976710656<=n)(hL:RowsE s 4 al ls)(hsys:fR m ls=0):bX Tryz.prog (bZ cB) X (n+400) 154 [.agg ⟨[.int .i64 m,.slice al ls.length cl]⟩] s (fun v A=>v = .int .i64 0/\A=[]):=by
 have h:=BV n m al cl ls s hs hn hL (X:=X);rw[hsys] at h;exact h
set_option maxHeartbeats 4000000 in
theorem If(n:Nat)(m:Int)(al:Option Addr)(cl:Nat)(ls:List (List Int))(aw:Option Addr)(cw:Nat)(w:List Int)(N:Nat)(s:St)(hs:Wf s)(hn:844424930131968<=n)(hL:RowsE s 4 al ls)(hW:aN s aw w)(hsys:fR m ls=0)(hN:(N:Int)=m+1)(hN66:N<=65)(hN0:0<N)(hLg:Bo N ls)(h400:ls.length<=400)(hwl:w.length=N)(hwo:dA w w.length<=3600000000000):bX Tryz.prog (bZ cB) X (n+500) 110 [.agg ⟨[.int .i64 m,.slice al ls.length cl]⟩,.slice aw w.length cw] s (fun v A=>v = .int .i64 0/\A=[]):=by
 refine enter Kr rfl hs ?_;unfold FZ;have hlen:=hL.len;have hlenW:=hW.len;refine rS (aZ J J J (fun b1=>(kM J (Q0 (rS (dD J dE .here rfl (kO (aI J J (fun s1 h1=>Ie _ _ _ _ _ s1 h1.wf oM (hL.ext hs h1.2.1) hsys) (kM J (Q0 (rQ (rS (kM J (kO (bV J J (fun _=>(kM J (kG (V4 J dE .here rfl (kG (U2 J (kG (aI J J (fun s1 h1=>Fg _ _ _ _ _ _ _ _ _ s1 h1.wf oM (hW.ext hs h1.2.1) hN hN66 hN0 hLg h400 hwl hwo) (kG (U6 J (cA J J J (Q0 (U0 J (Q1 (W0 (rS ?_)))))))))))))))) (fun h=>absurd h dE))))))))))))))));refine kM J (kM J (Q0 (V2 ?_)));exact aO J ⟨rfl,rfl⟩
set_option maxHeartbeats 4000000 in
theorem A7(n:Nat)(m:Int)(al:Option Addr)(cl:Nat)(ls:List (List Int))(aw:Option Addr)(cw:Nat)(w:List Int)(ap:Option Addr)(cp:Nat)(us:List (List Int))(bd:Int)(N:Nat)(s:St)(hs:Wf s)(hn:1688849860263936<=n)(hL:RowsE s 4 al ls)(hW:aN s aw w)(hU:RowsE s 2 ap us)(hsys:fR m ls=0)(hN:(N:Int)=m+1)(hN66:N<=65)(hN0:0<N)(hLg:Bo N ls)(h400:ls.length<=400)(hwl:w.length=N)(hwo:dA w w.length<=3600000000000):bX Tryz.prog (bZ cB) X (n+1500) 64 [.agg ⟨[.int .i64 m,.slice al ls.length cl]⟩,.slice aw w.length cw,.agg ⟨[.int .i64 bd,.slice ap us.length cp]⟩] s (fun v A=>((us.length<=400/\D9 ls us w N bd)/\v = .int .i64 0/\A=[])∨(¬(us.length<=400/\D9 ls us w N bd)/\v = .int .i64 24/\A=[])):=by
 refine enter O8 rfl hs ?_;unfold N0;have hlen:=hL.len;have hlenW:=hW.len;have hlenU:=hU.len;have hwb:∀v,v<N->-3600000000000<=w.getD v 0/\w.getD v 0<=3600000000000:=fun v hv=>qO hwo
 refine rS (aZ J J J (fun b1=>(aZ J J J (fun b2=>(kM J (Q0 (rS (dD J dE .h1 J (kM J (kO (aI J J (fun s1 h1=>If _ _ _ _ _ _ _ _ _ s1 h1.wf oM (hL.ext hs h1.2.1) (hW.ext hs h1.2.1) hsys hN hN66 hN0 hLg h400 hwl hwo) (kM J (Q0 (rQ (rS (kM J (kO (V3 J J (fun h=>absurd h dE) (fun _=>(Q0 (U0 J (Q1 (W0 (rQ (rS (aH J (aL J .here rfl (aJ J (by first|exact hL.spot|exact hU.spot|exact hW.spot) ?_))))))))))))))))))))))))))));refine kO (dR J J (fun h4=>?_) (fun h4=>?_))
 ·refine Q0 (Y0 J (rS (kM J (Q0 (V2 (W3 ?_))))))
  exact aO J (.inr ⟨(by first|exact(fun q=>by have:=q.1;omega)|exact(fun q=>absurd q.2.2.1 oM)|exact(fun q=>qP hLg hwl hU9 hu1 oM oM q.2)|exact(fun q=>(fun q=>by have q1:=q.1 k oM;have e9:bW (pn us) (k+1)=bW (pn us) k+pn us k:=rfl;omega) q.2)),rfl,rfl⟩)
 ·refine Q0 (U0 J (Q1 (W0 (rS (aH J (aL J .h1 J (aX J J oM (kO (Li (m:=N) J J oM oM oM (fun b5=>(kM J (Q0 (rS (kM J (Q0 (rS (kM J (Q0 (rQ (rS (aH J (aL J .h1 J (aJ J (by first|exact hL.spot|exact hU.spot|exact hW.spot) (kM J (Q0 ?_)))))))))))))))))))))))))
  refine W1 (U4 (fun j e A=>∃(k:Nat),e=[(1,.slice aw w.length cw),(3,.pointer (some ⟨b1,0,none⟩)),(5,.pointer (some ⟨b2,0,none⟩)),(8,.slice (some ⟨b5,0,none⟩) N N),(9,.int .i64 (bW (pn us) k)),(10,.int .i64 (bW (fun j=>pn us j*lw ls (pf us j)) k)),(30,.slice ap us.length cp),(31,.int .i64 (us.length:Int)),(32,.int .i64 (k:Int))]/\A=(.row b5 3 false (ints (uC ls us N k))::(.row b2 (62) false ([.int .i64 bd,.slice ap us.length cp])::(.row b1 45 false ([.int .i64 m,.slice al ls.length cl])::[])))/\j=us.length-k/\k<=us.length/\wZ ls us k) 400 281474976710656 281474976710656 ?_ (j:=_) (env2:=_) (A2:=_) ?_ ?_ ?_ ?_ ⟨0,rfl,rfl,rfl,Nat.zero_le _,(fun j hj=>absurd hj (Nat.not_lt_zero j))⟩)
  rotate_left
  ·omega
  ·omega
  ·exact lL
  ·exact(.q (.q (.q .slnil)))
  rintro n hn j _ _ ⟨k,rfl,rfl,rfl,hk,hUk⟩;have hbe:=hUk.bef;have hto:=hUk.tot;have hil:(uC ls us N k).length=N:=qN;have hib:=AZ hLg hUk;have hus:=Hv hLg hUk;refine rS (dB J J (fun h6=>?_) (fun h6=>?_))
  ·obtain⟨q5,o5,z0,z1,ahU,hux,huat,j0,j1⟩:=hU.row2 (k:=k) oM
   obtain⟨ur1,ur2⟩:=oD hux;have:=j0.lo;have:=j0.hi;have:=j1.lo;have:=j1.hi;refine Q0 (rQ (Y0 J (Q1 (W0 (rQ (W1 (rS (kM J (kO (cM (j:=k) ahU rfl rfl (by first|rfl|omega) (by first|decide|omega) (kO (dU J dE aM J (aY J J (fun b7=>(kM J (kZ (Q6 J J .here rfl rfl rfl rfl (Q0 (rQ (rS (aH J (aL J .here rfl (aH J (aL J .h3 J (aJ J (by first|exact hL.spot|exact hU.spot|exact hW.spot) (kO (bN J J oM (kO (bB J J (fun s1 h1=>iV _ _ _ _ s1 h1.wf) (fun h8=>?_) (fun h8=>?_))))))))))))))))))))))))))))))
   ·have hin1:=h8
    obtain⟨li,rfl⟩:∃q:Nat,z0=(q:Int):=⟨z0.toNat,oM⟩;refine eP J (kM J (kG (U2 J (kG (dR J J (fun h9=>?_) (fun h9=>?_))))))
    ·obtain⟨q6,o6,x0,x1,ahV,huw,huat2,jj0,jj1⟩:=hU.row2 (k:=k-1) oM
     rw[ahU] at ahV;simp only[Option.some.injEq,Addr.mk.injEq,and_true] at ahV;obtain⟨e91,e92⟩:=ahV;subst e91 e92;obtain⟨huat3,_⟩:=huat2;have:=jj0.lo;have:=jj0.hi;have hbf9:bef us k=x0:=by have:=TH huw;rw[show k-1+1=k by omega] at this;exact this
     refine kG (U2 J (kG (Q2 J (kG (Y1 J .h2 J (kG (U2 J (kG (bN J J oM (kG (cM (j:=(k-1)) ahU rfl rfl (by first|rfl|omega) (by first|decide|omega) (kG (Q2 J (kG (W6 J aM (kG (Q2 J (kG (Y1 J .here rfl (kG (xP J J (fun h10=>?_) (fun h10=>?_))))))))))))))))))))))
     ·refine kG (W2 J J J (bK J J J (kM J (V0 (V0 (V0 (V0 (cA J J J (Q0 (Y0 J (rS (kM J (Q0 (V2 (W3 (Y6 (W3 (W3 (Y6 (W3 ?_))))))))))))))))))))
      exact aO J (.inr ⟨(by first|exact(fun q=>by have:=q.1;omega)|exact(fun q=>absurd q.2.2.1 oM)|exact(fun q=>qP hLg hwl hU9 hu1 oM oM q.2)|exact(fun q=>(fun q=>by have q1:=q.1 k oM;have e9:bW (pn us) (k+1)=bW (pn us) k+pn us k:=rfl;omega) q.2)),rfl,rfl⟩)
     ·have hbf:bef us k+1<=(li:Int):=oM
      refine kG (W2 J J J (bK J J J (kM J (kG (Q2 J (kG (Y1 J .here rfl (kG (bB J J (fun s1 h1=>iV _ _ _ _ s1 h1.wf) (fun h11=>?_) (fun h11=>?_))))))))))
      ·have hin2:=h11
       refine kG (U6 J (bK J J J (Q0 (U0 J (Q1 (W0 (rS (kM J (aH J (aL J .here rfl (aX J J oM (kM J (Q0 (rQ (rS (kM J (kO (dR J J (fun h12=>?_) (fun h12=>?_)))))))))))))))))))
       ·refine Q0 (Y0 J (rS (kM J (Q0 (V2 (W3 (Y6 (W3 (W3 (Y6 (W3 ?_)))))))))))
        exact aO J (.inr ⟨(by first|exact(fun q=>by have:=q.1;omega)|exact(fun q=>absurd q.2.2.1 oM)|exact(fun q=>qP hLg hwl hU9 hu1 oM oM q.2)|exact(fun q=>(fun q=>by have q1:=q.1 k oM;have e9:bW (pn us) (k+1)=bW (pn us) k+pn us k:=rfl;omega) q.2)),rfl,rfl⟩)
       ·have hUk2:wZ ls us (k+1):=Qv hUk (fun e=>oM) (fun e=>by first|omega) oM oM oM
        refine Q0 (U0 J (Q1 (W0 (rS (aH J (aL J .h3 J (aH J (aL J .here rfl ?_))))))));obtain⟨q4,o4,y0,y1,y2,y3,ahL,hx,hat,i0,i1,i2,i3⟩:=hL.row4 (k:=li) oM;have hat2:=hat;have:=i0.lo;have:=i0.hi;have:=i1.lo;have:=i1.hi;have:=i2.lo;have:=i2.hi;have:=i3.lo;have:=i3.hi;obtain⟨hg1,hg2,hg3,hg4,hg5,y9,hx9⟩:=hLg li oM;rw[hx] at hx9;simp only[Option.some.injEq,List.cons.injEq,and_true] at hx9;obtain⟨e0,e1,e2,e3⟩:=hx9;subst e0 e1 e2;have:=hib _ hg1;have:=hib _ hg2;refine kO (cM (j:=li) ahL rfl rfl (by first|rfl|omega) (by first|decide|omega) (kO (dU J dE aM J (aY J J (fun b13=>(kZ (Q6 J J .here rfl rfl rfl rfl (Q0 (rS (kM J (aH J (aL J .here rfl (cN (j:=(lb ls li)) J J oM oM (kO (dM J .h2 (by first|omega|(simp;done)|(simp;omega)) (aH J (aL J .h1 J (aX J J oM (cN (j:=(lb ls li)) J J oM oM (kZ (W7 J J .h2 (by first|omega|(simp;done)|(simp[cI];omega)|(simp;omega)) (Q0 (rS (kM J (aH J (aL J .here rfl ?_))))))))))))))))))))))))));have hud:∀z:Int,((uC ls us N k).set (lb ls li) z).getD (la ls li) 0=(uC ls us N k).getD (la ls li) 0:=fun z=>getD_set_ne (fun e=>hg3 e.symm)
        have hud2:=hud ((uC ls us N k).getD (lb ls li) 0+z1);refine cN (j:=(la ls li)) J J oM oM (kO (dM J .h2 (by first|omega|(simp;done)|(simp;omega)) (aH J (aL J .h1 J (kO (bN J J oM (cN (j:=(la ls li)) J J oM oM (kZ (W7 J J .h2 (by first|omega|(simp;done)|(simp[cI];omega)|(simp;omega)) (Q0 (rI (kM J (aH J (aL J .h1 J (aH J (aL J .here rfl ?_))))))))))))))));have hpr:=CX (t:=z1) (z:=lw ls li) oM ⟨oM,oM⟩;refine aV J J oM (aX J J oM (kM J (Q0 (Z1 (W0 (rI (aX J J oM (kM J (Q0 (W0 ?_))))))))));exact⟨rfl,_,_,_,(show us.length-(k+1)<us.length-k from oM),(lc 1 J (lc 3 J (lc 5 J (lc 8 J (lc 9 (by show some (Value.int .i64 (bW (pn us) k+z1))=some (Value.int .i64 (bW (pn us) k+pn us k));rw[(oD hux).2]) (lc 10 (by show some (Value.int .i64 (_+z1*lw ls li))=some (Value.int .i64 (bW (fun j=>pn us j*lw ls (pf us j)) k+pn us k*lw ls (pf us k)));rw[(oD hux).2,Id hux]) (lc 30 J (lc 31 J (lc 32 J fF.nil))))))))),(.cons _ (.cons _ (.q (.q (.q .slnil))))),⟨k+1,rfl,(by rw[show uC ls us N (k+1)=((uC ls us N k).set (lb ls li) ((uC ls us N k).getD (lb ls li) 0+z1)).set (la ls li) (((uC ls us N k).set (lb ls li) ((uC ls us N k).getD (lb ls li) 0+z1)).getD (la ls li) 0-z1) from by rw[getD_set_ne (fun e=>hg3 e.symm),<-Id hux,<-(oD hux).2];rfl]),rfl,oM,hUk2⟩⟩
      ·refine kG (U6 J (bK J J J (Q0 (Y0 J (rS (kM J (Q0 (V2 (W3 (Y6 (W3 (W3 (Y6 (W3 ?_))))))))))))))
       exact aO J (.inr ⟨(by first|exact(fun q=>by have:=q.1;omega)|exact(fun q=>absurd q.2.2.1 oM)|exact(fun q=>qP hLg hwl hU9 hu1 oM oM q.2)|exact(fun q=>(fun q=>by have q1:=q.1 k oM;have e9:bW (pn us) (k+1)=bW (pn us) k+pn us k:=rfl;omega) q.2)),rfl,rfl⟩)
    ·have hk0:k=0:=oM
     refine kG (U2 J (V0 (V0 (V0 (V0 (V0 (V0 (V0 (V0 (V0 (V0 (kG (U1 J J J (bK J J J (kM J (kG (Q2 J (kG (Y1 J .here rfl (kG (bB J J (fun s1 h1=>iV _ _ _ _ s1 h1.wf) (fun h14=>?_) (fun h14=>?_))))))))))))))))))))))
     ·have hin2:=h14
      refine kG (U6 J (bK J J J (Q0 (U0 J (Q1 (W0 (rS (kM J (aH J (aL J .here rfl (aX J J oM (kM J (Q0 (rQ (rS (kM J (kO (dR J J (fun h15=>?_) (fun h15=>?_)))))))))))))))))))
      ·refine Q0 (Y0 J (rS (kM J (Q0 (V2 (W3 (Y6 (W3 (W3 (Y6 (W3 ?_)))))))))))
       exact aO J (.inr ⟨(by first|exact(fun q=>by have:=q.1;omega)|exact(fun q=>absurd q.2.2.1 oM)|exact(fun q=>qP hLg hwl hU9 hu1 oM oM q.2)|exact(fun q=>(fun q=>by have q1:=q.1 k oM;have e9:bW (pn us) (k+1)=bW (pn us) k+pn us k:=rfl;omega) q.2)),rfl,rfl⟩)
      ·have hUk2:wZ ls us (k+1):=Qv hUk (fun e=>oM) (fun e=>by first|omega) oM oM oM
       refine Q0 (U0 J (Q1 (W0 (rS (aH J (aL J .h3 J (aH J (aL J .here rfl ?_))))))));obtain⟨q4,o4,y0,y1,y2,y3,ahL,hx,hat,i0,i1,i2,i3⟩:=hL.row4 (k:=li) oM;have hat2:=hat;have:=i0.lo;have:=i0.hi;have:=i1.lo;have:=i1.hi;have:=i2.lo;have:=i2.hi;have:=i3.lo;have:=i3.hi;obtain⟨hg1,hg2,hg3,hg4,hg5,y9,hx9⟩:=hLg li oM;rw[hx] at hx9;simp only[Option.some.injEq,List.cons.injEq,and_true] at hx9;obtain⟨e0,e1,e2,e3⟩:=hx9;subst e0 e1 e2;have:=hib _ hg1;have:=hib _ hg2;refine kO (cM (j:=li) ahL rfl rfl (by first|rfl|omega) (by first|decide|omega) (kO (dU J dE aM J (aY J J (fun b16=>(kZ (Q6 J J .here rfl rfl rfl rfl (Q0 (rS (kM J (aH J (aL J .here rfl (cN (j:=(lb ls li)) J J oM oM (kO (dM J .h2 (by first|omega|(simp;done)|(simp;omega)) (aH J (aL J .h1 J (aX J J oM (cN (j:=(lb ls li)) J J oM oM (kZ (W7 J J .h2 (by first|omega|(simp;done)|(simp[cI];omega)|(simp;omega)) (Q0 (rS (kM J (aH J (aL J .here rfl ?_))))))))))))))))))))))))));have hud:∀z:Int,((uC ls us N k).set (lb ls li) z).getD (la ls li) 0=(uC ls us N k).getD (la ls li) 0:=fun z=>getD_set_ne (fun e=>hg3 e.symm)
       have hud2:=hud ((uC ls us N k).getD (lb ls li) 0+z1);refine cN (j:=(la ls li)) J J oM oM (kO (dM J .h2 (by first|omega|(simp;done)|(simp;omega)) (aH J (aL J .h1 J (kO (bN J J oM (cN (j:=(la ls li)) J J oM oM (kZ (W7 J J .h2 (by first|omega|(simp;done)|(simp[cI];omega)|(simp;omega)) (Q0 (rI (kM J (aH J (aL J .h1 J (aH J (aL J .here rfl ?_))))))))))))))));have hpr:=CX (t:=z1) (z:=lw ls li) oM ⟨oM,oM⟩;refine aV J J oM (aX J J oM (kM J (Q0 (Z1 (W0 (rI (aX J J oM (kM J (Q0 (W0 ?_))))))))));exact⟨rfl,_,_,_,(show us.length-(k+1)<us.length-k from oM),(lc 1 J (lc 3 J (lc 5 J (lc 8 J (lc 9 (by show some (Value.int .i64 (bW (pn us) k+z1))=some (Value.int .i64 (bW (pn us) k+pn us k));rw[(oD hux).2]) (lc 10 (by show some (Value.int .i64 (_+z1*lw ls li))=some (Value.int .i64 (bW (fun j=>pn us j*lw ls (pf us j)) k+pn us k*lw ls (pf us k)));rw[(oD hux).2,Id hux]) (lc 30 J (lc 31 J (lc 32 J fF.nil))))))))),(.cons _ (.cons _ (.q (.q (.q .slnil))))),⟨k+1,rfl,(by rw[show uC ls us N (k+1)=((uC ls us N k).set (lb ls li) ((uC ls us N k).getD (lb ls li) 0+z1)).set (la ls li) (((uC ls us N k).set (lb ls li) ((uC ls us N k).getD (lb ls li) 0+z1)).getD (la ls li) 0-z1) from by rw[getD_set_ne (fun e=>hg3 e.symm),<-Id hux,<-(oD hux).2];rfl]),rfl,oM,hUk2⟩⟩
     ·refine kG (U6 J (bK J J J (Q0 (Y0 J (rS (kM J (Q0 (V2 (W3 (Y6 (W3 (W3 (Y6 (W3 ?_))))))))))))))
      exact aO J (.inr ⟨(by first|exact(fun q=>by have:=q.1;omega)|exact(fun q=>absurd q.2.2.1 oM)|exact(fun q=>qP hLg hwl hU9 hu1 oM oM q.2)|exact(fun q=>(fun q=>by have q1:=q.1 k oM;have e9:bW (pn us) (k+1)=bW (pn us) k+pn us k:=rfl;omega) q.2)),rfl,rfl⟩)
   ·refine eP J (kM J (V0 (V0 (V0 (V0 (V0 (V0 (V0 (V0 (V0 (V0 (V0 (V0 (V0 (V0 (cA J J J (kM J (V0 (V0 (V0 (V0 (cA J J J (Q0 ?_)))))))))))))))))))))))
    refine Y0 J (rS (kM J (Q0 (V2 (W3 (Y6 (W3 (W3 (Y6 (W3 ?_))))))))));exact aO J (.inr ⟨(by first|exact(fun q=>by have:=q.1;omega)|exact(fun q=>absurd q.2.2.1 oM)|exact(fun q=>qP hLg hwl hU9 hu1 oM oM q.2)|exact(fun q=>(fun q=>by have q1:=q.1 k oM;have e9:bW (pn us) (k+1)=bW (pn us) k+pn us k:=rfl;omega) q.2)),rfl,rfl⟩)
  ·have hku:k=us.length:=oM
   subst hku;have hU9:=hUk;refine Q0 (rQ (U0 J (Y4 (Z2 (Z2 (Q3 (W0 (rQ (rS (kM J (Q0 (W1 (U4 (fun j e A=>∃(u:Nat),e=[(1,.slice aw w.length cw),(3,.pointer (some ⟨b1,0,none⟩)),(5,.pointer (some ⟨b2,0,none⟩)),(8,.slice (some ⟨b5,0,none⟩) N N),(10,.int .i64 (bW (fun j=>pn us j*lw ls (pf us j)) us.length)),(14,.int .i64 (u:Int))]/\A=(.row b5 3 false (ints (uC ls us N us.length))::(.row b2 (62) false ([.int .i64 bd,.slice ap us.length cp])::(.row b1 45 false ([.int .i64 m,.slice al ls.length cl])::[])))/\j=N-u/\1<=u/\u<=N/\∀v,1<=v->v<u->(uC ls us N us.length).getD v 0=w.getD v 0) 200 0 281474976710656 ?_ (j:=_) (env2:=_) (A2:=_) ?_ ?_ ?_ ?_ ⟨1,rfl,rfl,rfl,Nat.le_refl _,hN0,(fun v h1 h2=>absurd h1 oM)⟩)))))))))))))
   rotate_left
   ·omega
   ·omega
   ·exact lL
   ·exact(.q (.q (.q .slnil)))
   rintro n hn j _ _ ⟨u,rfl,rfl,rfl,hu1,hu2,hue⟩;have hil9:(uC ls us N us.length).length=N:=qN;refine rQ (rS (kM J (aH J (aL J .h2 J (kO (eV J J (fun h17=>?_) (fun h17=>?_)))))))
   ·refine Q0 (Y0 J (Q1 (W0 (rQ (W1 (rS (kM J (kM J (cN (j:=u) J J oM oM (kO (dM J .here (by first|omega|(simp;done)|(simp;omega)) (kM J (kM J (kO (Q7 (j:=u) hW rfl rfl oM (by first|rfl|omega) oM (fun _ _ a18=>(kO (W6 J (hW.at a18 oM) (kO (V3 J J (fun h19=>?_) (fun h19=>?_)))))))))))))))))))))
    ·refine Q0 (Y0 J (rS (kM J (Q0 (V2 (Y6 (W3 (W3 (Y6 (W3 ?_))))))))))
     exact aO J (.inr ⟨(by first|exact(fun q=>by have:=q.1;omega)|exact(fun q=>absurd q.2.2.1 oM)|exact(fun q=>qP hLg hwl hU9 hu1 oM oM q.2)|exact(fun q=>(fun q=>by have q1:=q.1 k oM;have e9:bW (pn us) (k+1)=bW (pn us) k+pn us k:=rfl;omega) q.2)),rfl,rfl⟩)
    ·refine Q0 (U0 J (Q1 (Z1 (W0 (rI (kM J (aX J J oM (kM J (Q0 (W0 ?_))))))))))
     exact⟨rfl,_,_,_,(show N-(u+1)<N-u from oM),lL,(.q (.q (.q .slnil))),⟨u+1,rfl,rfl,rfl,oM,oM,(fun v h1 h2=>by by_cases e:v=u;(subst e;omega);exact hue v h1 oM)⟩⟩
   ·refine Q0 (U0 J (Y4 (Z2 (Z2 (Q3 (W0 (rQ (rS (kM J (aH J (aL J .h1 J (kO (V3 J J (fun h20=>?_) (fun h20=>?_))))))))))))))
    ·refine Q0 (Y0 J (rS (kM J (Q0 (V2 (W3 ?_))))))
     exact aO J (.inr ⟨(by first|exact(fun q=>by have:=q.1;omega)|exact(fun q=>absurd q.2.2.1 oM)|exact(fun q=>qP hLg hwl hU9 hu1 oM oM q.2)|exact(fun q=>(fun q=>by have q1:=q.1 k oM;have e9:bW (pn us) (k+1)=bW (pn us) k+pn us k:=rfl;omega) q.2)),rfl,rfl⟩)
    ·refine Q0 (U0 J (Q1 (W0 (rS (kM J (Q0 (V2 ?_)))))))
     exact aO J (.inl ⟨⟨oM,R7 hLg hwl hU9 oM (fun v h1 h2=>hue v h1 oM)⟩,rfl,rfl⟩)
end
end Ev
end Go.Proofs.YtjkdkpckjgaplaaGreat
