import Derived.Test.YtjkdkpckjgaplaaGreatZl05
set_option linter.unusedVariables false
set_option linter.unusedSimpArgs false
namespace Go.Proofs.YtjkdkpckjgaplaaGreat.Ev
open Go Go.RowKit
noncomputable section
variable{s s' s0:St}{base c o d m off t:Nat}{op:Bool}{l l' vs:List Value}{v u:Value}{a x y:Ev.X}{g:Option (Nat×Bool)}{k:IntKind}
inductive Ob where
 |row (b e:Nat) (op:Bool) (l:List Value)
 | loop (b : Nat) (st : LoopState) (pend : iH) (nt : Nat) (env : List (Nat × Value)) (ps : List Nat) (a c : CC) (q : Nat)   -- a loop over a function's calls
 | dfr (b : Nat)   -- what is deferred, and not yet done
 | imap (b : Nat) (es : List (Int × Value))   -- a small map
variable{A A':List Ob}
def Ob.b:Ob->Nat
 | .row b _ _ _=>b
 | .loop b _ _ _ _ _ _ _ _=>b
 | .dfr b=>b
 | .imap b _=>b
def Ob.Is(s:St):Ob->Prop
 | .row b e op l=>Obj s b e op l
 | .loop b st pend nt env ps a c q=>∃T,s.h.get b=some (.loop st pend T ps a c q)/\yB nt T env
 | .dfr b=>s.h.get b=some (.deferred true)
 | .imap b es=>s.h.get b=some (.imap es)
theorem Ob.Is.same{x:Ob}(h:x.Is s)(hb:s'.h.get x.b=s.h.get x.b):x.Is s':=by
 cases x with
 |row b e op l=>exact Obj.same h hb
 |loop b st pend nt env ps a c q=>obtain⟨T,h1,h2⟩:=h;exact⟨T,hb.trans h1,h2⟩
 |dfr b=>exact hb.trans h
 |imap b es=>exact hb.trans h
theorem Ob.Is.lt(hw:Wf s){x:Ob}(h:x.Is s):x.b<s.n:=by
 cases x with
 |row b e op l=>exact Obj.lt hw h
 |loop b st pend nt env ps a c q=>obtain⟨T,h1,h2⟩:=h;exact eE.lt hw h1
 |dfr b=>exact eE.lt hw h
 |imap b es=>exact eE.lt hw h
theorem Ob.Is.ext(hw:Wf s){y:Ob}(h:y.Is s)(x:sX s s'):y.Is s':=h.same (x.2.2 _ (h.lt hw))
theorem Ob.Is.mod(hw:Wf s){y:Ob}(h:y.Is s){ch:List Nat}(x:HS s s' ch)(hb:y.b∉ch):y.Is s':=h.same (x.2.2 _ (h.lt hw) hb)
def pZ(base:Nat)(s:St):List Ob->Prop
 |[]=>True
 |x::A=>base<=x.b/\x.Is s/\(∀y∈A,y.b≠x.b)/\pZ base s A
def iP(s0:St)(A:List Ob)(s:St):Prop:=Wf s0/\sX s0 s/\pZ s0.n s A
theorem pZ.lt(hw:Wf s):∀{A:List Ob},pZ base s A->∀y∈A,y.b<s.n/\base<=y.b
 |[],_,y,hy=>by cases hy
 |x::A,⟨h1,h2,_,h4⟩,y,hy=>by
  rcases List.mem_cons.1 hy with rfl|hy
  ·exact⟨h2.lt hw,h1⟩
  ·exact h4.lt hw y hy
theorem pZ.ext(hw:Wf s)(x:sX s s'):∀{A:List Ob},pZ base s A->pZ base s' A
 |[],_=>trivial
 |_::_,⟨h1,h2,h3,h4⟩=>⟨h1,h2.ext hw x,h3,h4.ext hw x⟩
theorem pZ.mod{base b:Nat}(hw:Wf s)(x:HS s s' [b]):∀{A:List Ob},pZ base s A->(∀y∈A,y.b≠b)->pZ base s' A
 |[],_,_=>trivial
 |y::_,⟨h1,h2,h3,h4⟩,hb=>⟨h1,h2.mod hw x (by simpa using hb y sM),h3,h4.mod hw x (fun z hz=>hb z (by simp[hz]))⟩
theorem iP.wf(h:iP s0 A s):Wf s:=h.2.1.1
theorem iP.start(h:Wf s):iP s [] s:=⟨h,sX.refl h,trivial⟩
theorem iP.ext(h:iP s0 A s)(x:sX s s'):iP s0 A s':=⟨h.1,h.2.1.trans x,h.2.2.ext h.wf x⟩
theorem iP.new(h:iP s0 A s)(x:sX s s'){e:Nat}(ho:Obj s' s.n e op l):iP s0 (.row s.n e op l::A) s':=
 ⟨h.1,h.2.1.trans x,h.2.1.2.1,ho,fun y hy=>by have:=(h.2.2.lt h.wf y hy).1;show y.b≠s.n;omega,h.2.2.ext h.wf x⟩
inductive lK:List Ob->Nat->Nat->Bool->List Value->Prop where
 |here {b e:Nat} {op:Bool} {l:List Value} {A:List Ob}:lK (.row b e op l::A) b e op l
 |next {x:Ob} {b e:Nat} {op:Bool} {l:List Value} {A:List Ob} (h:lK A b e op l):lK (x::A) b e op l
section
variable{x0 x1 x2 x3 x4 x5 x6 x7 x8:Ob}{b e:Nat}{op:Bool}{l:List Value}{A:List Ob}
theorem lK.h1:lK (x0::.row b e op l::A) b e op l:=.next .here
theorem lK.h2:lK (x0::x1::.row b e op l::A) b e op l:=.next .h1
theorem lK.h3:lK (x0::x1::x2::.row b e op l::A) b e op l:=.next .h2
theorem lK.h4:lK (x0::x1::x2::x3::.row b e op l::A) b e op l:=.next .h3
theorem lK.h5:lK (x0::x1::x2::x3::x4::.row b e op l::A) b e op l:=.next .h4
theorem lK.h6:lK (x0::x1::x2::x3::x4::x5::.row b e op l::A) b e op l:=.next .h5
theorem lK.h7:lK (x0::x1::x2::x3::x4::x5::x6::.row b e op l::A) b e op l:=.next .h6
theorem lK.h8:lK (x0::x1::x2::x3::x4::x5::x6::x7::.row b e op l::A) b e op l:=.next .h7
theorem lK.h9:lK (x0::x1::x2::x3::x4::x5::x6::x7::x8::.row b e op l::A) b e op l:=.next .h8
end
theorem lK.mem{b e:Nat}(h:lK A b e op l):(.row b e op l:Ob)∈A:=by
 induction h with
 |here=>simp
 |next _ ih=>simp[ih]
theorem pZ.own{b e:Nat}(h:lK A b e op l):pZ base s A->Obj s b e op l:=by
 induction h with
 |here=>exact fun h=>h.2.1
 |next _ ih=>exact fun h=>ih h.2.2.2
theorem iP.own{b e:Nat}(h:iP s0 A s)(o:lK A b e op l):Obj s b e op l:=h.2.2.own o
inductive pL:List Ob->Nat->Nat->Bool->List Value->List Value->List Ob->Prop where
 |here {b e:Nat} {op:Bool} {l l':List Value} {A:List Ob}:pL (.row b e op l::A) b e op l l' (.row b e op l'::A)
 |next {x:Ob} {b e:Nat} {op:Bool} {l l':List Value} {A A':List Ob} (h:pL A b e op l l' A'):pL (x::A) b e op l l' (x::A')
section
variable{x0 x1 x2 x3 x4 x5 x6 x7 x8:Ob}{b e:Nat}{op:Bool}{l l':List Value}{A:List Ob}
theorem pL.h1:pL (x0::.row b e op l::A) b e op l l' (x0::.row b e op l'::A):=.next .here
theorem pL.h2:pL (x0::x1::.row b e op l::A) b e op l l' (x0::x1::.row b e op l'::A):=.next .h1
theorem pL.h3:pL (x0::x1::x2::.row b e op l::A) b e op l l' (x0::x1::x2::.row b e op l'::A):=.next .h2
theorem pL.h4:pL (x0::x1::x2::x3::.row b e op l::A) b e op l l' (x0::x1::x2::x3::.row b e op l'::A):=.next .h3
theorem pL.h5:pL (x0::x1::x2::x3::x4::.row b e op l::A) b e op l l' (x0::x1::x2::x3::x4::.row b e op l'::A):=.next .h4
theorem pL.h6:pL (x0::x1::x2::x3::x4::x5::.row b e op l::A) b e op l l' (x0::x1::x2::x3::x4::x5::.row b e op l'::A):=.next .h5
theorem pL.h7:pL (x0::x1::x2::x3::x4::x5::x6::.row b e op l::A) b e op l l' (x0::x1::x2::x3::x4::x5::x6::.row b e op l'::A):=.next .h6
theorem pL.h8:pL (x0::x1::x2::x3::x4::x5::x6::x7::.row b e op l::A) b e op l l' (x0::x1::x2::x3::x4::x5::x6::x7::.row b e op l'::A):=.next .h7
theorem pL.h9:pL (x0::x1::x2::x3::x4::x5::x6::x7::x8::.row b e op l::A) b e op l l' (x0::x1::x2::x3::x4::x5::x6::x7::x8::.row b e op l'::A):=.next .h8
end
theorem pL.own{b e:Nat}(h:pL A b e op l l' A'):lK A b e op l:=by
 induction h with
 |here=>exact .here
 |next _ ih=>exact .next ih
theorem pL.blocks{b e:Nat}(h:pL A b e op l l' A'):A'.map (·.b)=A.map (·.b):=by
 induction h with
 |here=>rfl
 |next _ ih=>simp[ih]
theorem BL(h:A'.map (·.b)=A.map (·.b))(hA:∀y∈A,y.b≠c):∀y∈A',y.b≠c:=by
 intro y hy hc;have:c∈A'.map (·.b):=List.mem_map.2 ⟨y,hy,hc⟩;rw[h] at this;obtain⟨z,hz,hzc⟩:=List.mem_map.1 this;exact hA z hz hzc
theorem pZ.upd(hw:Wf s){b e:Nat}(h:pL A b e op l l' A')(x:HS s s' [b])(ho:Obj s' b e op l'):pZ base s A->pZ base s' A':=by
 induction h with
 |here=>exact fun ⟨h1,h2,h3,h4⟩=>⟨h1,ho,h3,h4.mod hw x h3⟩
 |next hu ih=>
  rintro⟨h1,h2,h3,h4⟩;refine⟨h1,h2.mod hw x ?_,BL hu.blocks h3,ih x ho h4⟩;have:=h3 _ hu.own.mem;simpa [Ob.b] using Ne.symm this
theorem iP.upd{b e:Nat}(h:iP s0 A s)(u:pL A b e op l l' A')(x:HS s s' [b])(ho:Obj s' b e op l'):iP s0 A' s':=
 ⟨h.1,h.2.1.mod x (by
  intro i hi;have:i=b:=by simpa using hi
  subst this;exact(h.2.2.lt h.wf _ u.own.mem).2),h.2.2.upd h.wf u x ho⟩
theorem pZ.sub(h:A'.Sublist A):pZ base s A->pZ base s A':=by
 induction h with
 |slnil=>exact id
 |cons _ _ ih=>exact fun h=>ih h.2.2.2
 |cons_cons _ hs ih=>exact fun ⟨h1,h2,h3,h4⟩=>⟨h1,h2,fun y hy=>h3 y (hs.subset hy),ih h4⟩
theorem iP.sub(h:iP s0 A s)(x:A'.Sublist A):iP s0 A' s:=⟨h.1,h.2.1,h.2.2.sub x⟩
theorem pZ.append{base b2:Nat}(hw:Wf s)(x:sX s s')(h:pZ base s A)(hb:base<=b2)(hs:s.n=b2)(hw':Wf s'):∀{A':List Ob},pZ b2 s' A'->pZ base s' (A'++A)
 |[],_=>h.ext hw x
 |y::A',⟨h1,h2,h3,h4⟩=>by
  refine⟨oM,h2,fun z hz=>?_,pZ.append hw x h hb hs hw' h4⟩;rcases List.mem_append.1 hz with hz|hz
  ·exact h3 z hz
  ·have:=(h.lt hw z hz).1;omega
theorem iP.call(h:iP s0 A s)(k:iP s A' s'):iP s0 (A'++A) s':=⟨h.1,h.2.1.trans k.2.1,h.2.2.append h.wf k.2.1 h.2.1.2.1 rfl k.wf k.2.2⟩
theorem iP.at(h:iP s0 A s){b o:Nat}(a:At s0 b o v):At s b o v:=a.ext h.1 h.2.1
theorem iP.ats(h:iP s0 A s){b o:Nat}(a:pK s0 b o l):pK s b o l:=a.ext h.1 h.2.1
section
variable(P:Program)(C:Nat->(CF->Bool)->Bool)(X:FuncId->List Value->St->(Value->St->Bool)->Bool)(s0:St)
structure fC(n nt:Nat)(r:Option Nat)(c:CC)(env:List (Nat×Value))(D:List Nat)(A:List Ob)(Q:iH->List (Nat×Value)->List Nat->List Ob->Prop):Prop where
 go:∀s,iP s0 A s->mD P C X n nt r c env D s (fun x e D s'=>∃A',iP s0 A' s'/\Q x e D A')
structure lW(n nt:Nat)(l:List Item)(env:List (Nat×Value))(A:List Ob)(Q:List (Nat×Value)->List Ob->Prop):Prop where
 go:∀s,iP s0 A s->M5 P C X n nt l env s (fun e s'=>∃A',iP s0 A' s'/\Q e A')
structure fT(n nt:Nat)(c:COp)(env:List (Nat×Value))(A:List Ob)(R:Value->List Ob->Prop):Prop where
 go:∀s,iP s0 A s->rC P C X n nt c env s (fun v s'=>∃A',iP s0 A' s'/\R v A')
def bX(n:Nat)(f:FuncId)(vs:List Value)(s:St)(Q:Value->List Ob->Prop):Prop:=Ar P C X n f vs s (fun v s'=>∃A,iP s A s'/\Q v A)
end
def xN(N:List (Nat×Value)->List Nat->List Ob->Prop)(Q:iH->List (Nat×Value)->List Nat->List Ob->Prop):iH->List (Nat×Value)->List Nat->List Ob->Prop
 | .normal,e,D,s=>N e D s
 | .ret,e,D,s=>Q .ret e D s
 | .exit i,e,D,s=>Q (.exit i) e D s
 | .goto i,e,D,s=>Q (.goto i) e D s
def Cr(id:Nat)(Q:iH->List (Nat×Value)->List Nat->List Ob->Prop):iH->List (Nat×Value)->List Nat->List Ob->Prop
 | .exit j,e,D,s=>sel (Nat.beq j id) (Q .normal e D s) (Q (.exit j) e D s)
 | .normal,e,D,s=>Q .normal e D s
 | .ret,e,D,s=>Q .ret e D s
 | .goto i,e,D,s=>Q (.goto i) e D s
section
variable{N:List (Nat×Value)->List Nat->List Ob->Prop}{Q:iH->List (Nat×Value)->List Nat->List Ob->Prop}{e:List (Nat×Value)}{D:List Nat}{A:List Ob}{i j:Nat}
theorem W0(h:N e D A):xN N Q .normal e D A:=h
theorem W3(h:Q .ret e D A):xN N Q .ret e D A:=h
theorem Z2(h:Q (.exit i) e D A):xN N Q (.exit i) e D A:=h
theorem Z1(h:Q .normal e D A):Cr i Q .normal e D A:=h
theorem Y6(h:Q .ret e D A):Cr i Q .ret e D A:=h
theorem Q3(h:Q .normal e D A):Cr i Q (.exit i) e D A:=by
 show sel (Nat.beq i i) _ _;rw[show Nat.beq i i=true from by rw[Nat.beq_eq]];exact h
end
section
variable{P:Program}{C:Nat->(CF->Bool)->Bool}{X:FuncId->List Value->St->(Value->St->Bool)->Bool}{s0:St}{n nt:Nat}{r:Option Nat}{env:List (Nat×Value)}{D:List Nat}{A:List Ob}
section
variable{Q:iH->List (Nat×Value)->List Nat->List Ob->Prop}
theorem Q1(h:Q .normal env D A):fC P C X s0 (n+1) nt r .skip env D A Q:=.mk fun s hs=>IZ ⟨A,hs,h⟩
theorem V2(h:Q .ret env D A):fC P C X s0 (n+1) nt r .ret env D A Q:=.mk fun s hs=>M6 ⟨A,hs,h⟩
theorem Y4{i:Nat}(h:Q (.exit i) env D A):fC P C X s0 (n+1) nt r (.exit i) env D A Q:=.mk fun s hs=>I0 ⟨A,hs,h⟩
theorem Ql{a b:CC}(h:fC P C X s0 n nt r a env D A (xN (fun e D A=>fC P C X s0 n nt r b e D A Q) Q)):fC P C X s0 (n+1) nt r (.seq a b) env D A Q:=.mk fun s hs=>
 FK ((h.go s hs).mono (fun x e D s' hq=>by
  obtain⟨A',h1,h2⟩:=hq;cases x with
  |normal=>exact h2.go s' h1
  |ret=>exact⟨A',h1,h2⟩
  |exit i=>exact⟨A',h1,h2⟩
  |goto i=>exact⟨A',h1,h2⟩))
theorem W1{id:Nat}{b:CC}(h:fC P C X s0 n nt r b env D A (Cr id Q)):fC P C X s0 (n+1) nt r (.block id b) env D A Q:=.mk fun s hs=>
 HT ((h.go s hs).mono (fun x e D s' hq=>by
  obtain⟨A',h1,h2⟩:=hq;cases x with
  |normal=>exact⟨A',h1,h2⟩
  |ret=>exact⟨A',h1,h2⟩
  |goto i=>exact⟨A',h1,h2⟩
  |exit j=>
   have h2':sel (Nat.beq j id) (Q .normal e D A') (Q (.exit j) e D A'):=h2;show sel (Nat.beq j id) (∃A',iP s0 A' s'/\Q .normal e D A') (∃A',iP s0 A' s'/\Q (.exit j) e D A');cases hb:Nat.beq j id with
   |true=>rw[hb] at h2';exact⟨A',h1,h2'⟩
   |false=>rw[hb] at h2';exact⟨A',h1,h2'⟩))
theorem Y0{a b:CC}(hx:xv env x=some (.bool true))(h:fC P C X s0 n nt r a env D A Q):fC P C X s0 (n+1) nt r (.cond x a b) env D A Q:=.mk fun s hs=>EO hx (h.go s hs)
theorem U0{a b:CC}(hx:xv env x=some (.bool false))(h:fC P C X s0 n nt r b env D A Q):fC P C X s0 (n+1) nt r (.cond x a b) env D A Q:=.mk fun s hs=>EP hx (h.go s hs)
theorem FN{l:List Item}(h:lW P C X s0 n nt l env A (fun e A=>Q .normal e D A)):fC P C X s0 (n+1) nt r (.items l) env D A Q:=.mk fun s hs=>HU (h.go s hs)
theorem fC.less{c:CC}{env':List (Nat×Value)}(hl:fF env env')(ha:A'.Sublist A)(h:fC P C X s0 n nt r c env' D A' Q):fC P C X s0 n nt r c env D A Q:=.mk fun s hs=>(h.go s (hs.sub ha)).less hl
theorem U4{b:CC}(I:Nat->List (Nat×Value)->List Ob->Prop)(c K L:Nat)(hb:∀n,K<=n->∀j e A,I j e A->fC P C X s0 (n+c) nt r b e D A (xN (fun e' D' A'=>D'=D/\∃j' e2 A2,j'<j/\fF e' e2/\A2.Sublist A'/\I j' e2 A2) Q))
 {j:Nat} {env2:List (Nat×Value)} {A2:List Ob} (hn:K+L<=n) (hj:j<=L) (hl:fF env env2) (ha:A2.Sublist A) (hI:I j env2 A2):fC P C X s0 (n+c+1) nt r (.loop b) env D A Q:=.mk fun s hs=>by
 refine Dr (env2:=env2) (fun j e s=>∃A,iP s0 A s/\I j e A) c K L (fun n hK j e s hI=>?_) hn hj hl ⟨A2,hs.sub ha,hI⟩;obtain⟨A1,h1,h2⟩:=hI;refine((hb n hK j e A1 h2).go s h1).mono (fun x e D' s' hq=>?_);obtain⟨A',h3,h4⟩:=hq;cases x with
 |normal=>
  obtain⟨h5,j',e2,A2,h6,h7,h8,h9⟩:=h4;exact⟨h5,j',e2,h6,h7,A2,h3.sub h8,h9⟩
 |ret=>exact⟨A',h3,h4⟩
 |exit i=>exact⟨A',h3,h4⟩
 |goto i=>exact⟨A',h3,h4⟩
end
section
variable{Q:List (Nat×Value)->List Ob->Prop}
theorem Q0(h:Q env A):lW P C X s0 n nt [] env A Q:=.mk fun s hs=>Rs ⟨A,hs,h⟩
theorem Rw{c:COp}{l:List Item}(h:fT P C X s0 n nt c env A (fun v A'=>lW P C X s0 n nt l ((d,v)::env) A' Q))(hg:oZ env g=some true)(hd:yC (some d) nt=true):lW P C X s0 n nt (⟨g,some d,c⟩::l) env A Q:=.mk fun s hs=>
 S6 hg hd (fun T hT k hk=>h.go s hs T hT k (fun v s' hq=>hk v s' (by obtain⟨A',h1,h2⟩:=hq;exact h2.go s' h1)))
theorem Tt{c:COp}{l:List Item}(h:fT P C X s0 n nt c env A (fun _ A'=>lW P C X s0 n nt l env A' Q))(hg:oZ env g=some true):lW P C X s0 n nt (⟨g,none,c⟩::l) env A Q:=.mk fun s hs=>
 Ru hg (fun T hT k hk=>h.go s hs T hT k (fun v s' hq=>hk v s' (by obtain⟨A',h1,h2⟩:=hq;exact h2.go s' h1)))
theorem V0{c:COp}{l:List Item}(h:lW P C X s0 n nt l ((d,undef)::env) A Q)(hg:oZ env g=some false:=by exact rfl)(hd:yC (some d) nt=true:=by exact rfl):lW P C X s0 n nt (⟨g,some d,c⟩::l) env A Q:=.mk fun s hs=>S7 hg hd (h.go s hs)
end
section
variable{R:Value->List Ob->Prop}
theorem U2(hx:xv env x=some v)(h:R v A):fT P C X s0 n nt (.mov x) env A R:=.mk fun s hs=>S8 hx ⟨A,hs,h⟩
theorem W2{c a b:Ev.X}(hc:xv env c=some (.bool true))(ha:xv env a=some v)(hb:xv env b=some u)(h:R v A):fT P C X s0 n nt (.pick c a b) env A R:=.mk fun s hs=>I4 hc ha hb ⟨A,hs,h⟩
theorem U1{c a b:Ev.X}(hc:xv env c=some (.bool false))(ha:xv env a=some v)(hb:xv env b=some u)(h:R u A):fT P C X s0 n nt (.pick c a b) env A R:=.mk fun s hs=>I5 hc ha hb ⟨A,hs,h⟩
theorem Tu{e m:Nat}{z:BT Value}(hf:xM z m=true)(hz:wM z 0 m=some l)(h:∀b,R (.pointer (some ⟨b,0,none⟩)) (.row b e false l::A)):fT P C X s0 n nt (.new e m z) env A R:=.mk fun s hs=>
 S9 hs.wf hf hz (fun s' x _ ho=>⟨_,hs.new x ho,h s.n⟩)
theorem Tv{e:Nat}(hx:xv env x=some v)(hc:v.cells=⟨l⟩)(h1:eZ l=true)(h:∀b,R (.pointer (some ⟨b,0,none⟩)) (.row b e false l::A)):fT P C X s0 n nt (.box e x) env A R:=.mk fun s hs=>
 Ta hs.wf hx hc h1 (fun s' x _ ho=>⟨_,hs.new x ho,h s.n⟩)
theorem Y1{b off e:Nat}(ha:xv env a=some (.pointer (some ⟨b,off,none⟩)))(ho:lK A b e op l)(hv:l[off]? = some v)(h:R v A):fT P C X s0 n nt (.ld a none) env A R:=.mk fun s hs=>
 Tb ha ((hs.own ho).at hv) ⟨A,hs,h⟩
theorem W6{b off:Nat}(ha:xv env a=some (.pointer (some ⟨b,off,none⟩)))(hv:At s0 b off v)(h:R v A):fT P C X s0 n nt (.ld a none) env A R:=.mk fun s hs=>
 Tb ha (hs.at hv) ⟨A,hs,h⟩
def jD{α:Type}(l:List α):Nat->Nat->Option (List α)
 |_,0=>some []
 |i,n+1=>match l[i]?,jD l (i+1) n with
  |some v,some r=>some (v::r)
  |_,_=>none
theorem jP{α:Type}{l:List α}:∀{n i:Nat} {r:List α},jD l i n=some r->r.length=n/\∀j,j<r.length->l[i+j]? = r[j]?
 |0,i,r,h=>by cases h;exact⟨rfl,fun j hj=>absurd hj (Nat.not_lt_zero j)⟩
 |n+1,i,r,h=>by
  simp only[jD] at h;split at h
  ·rename_i v r' h1 h2
   cases h;obtain⟨h3,h4⟩:=jP h2;refine⟨by simp[h3],fun j hj=>?_⟩;cases j with
   |zero=>exact h1
   |succ j=>rw[List.getElem?_cons_succ,<-h4 j (by simp at hj;omega)];congr 1;omega
  ·cases h
theorem V4{b off e m:Nat}{l r:List Value}(ha:xv env a=some (.pointer (some ⟨b,off,none⟩)))(h0:m≠0)(ho:lK A b e op l)(hv:jD l off m=some r)(h:R (.agg ⟨r⟩) A):fT P C X s0 n nt (.ld a (some m)) env A R:=.mk fun s hs=>
 Qj ha ((hs.own ho).ats (jP hv).2) (jP hv).1 h0 ⟨A,hs,h⟩
theorem dU{b off m:Nat}(ha:xv env a=some (.pointer (some ⟨b,off,none⟩)))(h0:m≠0)(hv:pK s0 b off l)(hm:l.length=m)(h:R (.agg ⟨l⟩) A):fT P C X s0 n nt (.ld a (some m)) env A R:=.mk fun s hs=>
 Qj ha (hs.ats hv) hm h0 ⟨A,hs,h⟩
theorem cY{b off e:Nat}(ha:xv env a=some (.pointer (some ⟨b,off,none⟩)))(hx:xv env x=some v)(hu:pL A b e op l (l.set off v) A')(hlt:Nat.blt off l.length=true)(h1:oneCell v=true)(h:R undef A'):fT P C X s0 n nt (.st a x none) env A R:=.mk fun s hs=>
 Ur hs.wf ha hx (hs.own hu.own) (by rw[Nat.blt_eq] at hlt;exact hlt) h1 (fun s' m _ ho=>⟨_,hs.upd hu m ho,h⟩)
def Du:List Value->Nat->List Value->Option (List Value)
 |l,_,[]=>some l
 |l,i,v::r=>match l[i]? with
  |some _=>Du (l.set i v) (i+1) r
  |none=>none
theorem Au:∀{r l l':List Value} {i:Nat},Du l i r=some l'->i<=l.length->l'=over l i r/\i+r.length<=l.length
 |[],l,l',i,h,hi=>by
  cases h;refine⟨?_,by simpa using hi⟩;unfold over;simp
 |v::r,l,l',i,h,hi=>by
  simp only[Du] at h;split at h
  ·rename_i u hu
   have hlt:i<l.length:=(List.getElem?_eq_some_iff.1 hu).1;obtain⟨h1,h2⟩:=Au h (by rw[List.length_set];omega);rw[List.length_set] at h2;refine⟨?_,by simp;omega⟩;rw[h1];refine List.ext_getElem? (fun j=>?_);rw[oX (by rw[List.length_set];exact h2),oX (by simp;omega)];by_cases h3:i+1<=j/\j<i+1+r.length
   ·rw[if_pos h3,if_pos (by simp;omega)]
    obtain⟨q,hq⟩:∃q,j-i=q+1:=⟨j-i-1,oM⟩;rw[hq,List.getElem?_cons_succ];congr 1;omega
   ·rw[if_neg h3,List.getElem?_set]
    by_cases h4:j=i
    ·subst h4;rw[if_pos rfl,if_pos hlt,if_pos sM];simp
    ·rw[if_neg (Ne.symm h4),if_neg (by simp;omega)]
  ·cases h
theorem Q6{b off e m:Nat}{r l l':List Value}(ha:xv env a=some (.pointer (some ⟨b,off,none⟩)))(hx:xv env x=some (.agg ⟨r⟩))(hu:pL A b e op l l' A')(hv:Du l off r=some l')(hle:Nat.ble off l.length=true)(hm:Nat.beq r.length m=true)(h1:eZ r=true)(h:R undef A'):fT P C X s0 n nt (.st a x (some m)) env A R:=.mk fun s hs=>by
 obtain⟨h2,h3⟩:=Au hv (by simpa using hle);have hm':r.length=m:=by simpa using hm
 subst h2;exact Tc hs.wf ha hx (hs.own hu.own) oM hm' h1 (fun s' m _ ho=>⟨_,hs.upd hu m ho,h⟩)
theorem aK{d b off e:Nat}(ha:xv env a=some (.pointer (some ⟨b,off,none⟩)))(hd:look env d=some v)(ho:lK A b e op l)(hv:l[off]? = some v)(he:eqV v v=true)(h:R undef A):fT P C X s0 n nt (.again a none d) env A R:=.mk fun s hs=>
 FM ha hd ((hs.own ho).at hv) he ⟨A,hs,h⟩
theorem lX{d b off:Nat}(ha:xv env a=some (.pointer (some ⟨b,off,none⟩)))(hd:look env d=some v)(hv:At s0 b off v)(he:eqV v v=true)(h:R undef A):fT P C X s0 n nt (.again a none d) env A R:=.mk fun s hs=>
 FM ha hd (hs.at hv) he ⟨A,hs,h⟩
theorem eJ{d b off e m:Nat}{l r:List Value}(ha:xv env a=some (.pointer (some ⟨b,off,none⟩)))(hd:look env d=some (.agg ⟨r⟩))(h0:m≠0)(ho:lK A b e op l)(hv:jD l off m=some r)(he:eqL r r=true)(h:R undef A):fT P C X s0 n nt (.again a (some m) d) env A R:=.mk fun s hs=>
 I6 ha hd ((hs.own ho).ats (jP hv).2) (jP hv).1 h0 he ⟨A,hs,h⟩
theorem Q2{b o off:Nat}(hx:xv env x=some (.pointer (some ⟨b,o,none⟩)))(h:R (.pointer (some ⟨b,o+off,none⟩)) A):fT P C X s0 n nt (.fa x off) env A R:=.mk fun s hs=>Us hx ⟨A,hs,h⟩
theorem Z3{x i:Ev.X}{b o m c j size:Nat}{ik:IntKind}{z:Int}(hx:xv env x=some (.slice (some ⟨b,o,none⟩) m c))(hi:xv env i=some (.int ik z))(hz:z=(j:Int))(hj:j<m)(h:R (.pointer (some ⟨b,o+j*size,none⟩)) A):fT P C X s0 n nt (.ia x i size) env A R:=.mk fun s hs=>Ut hx hi hz hj ⟨A,hs,h⟩
theorem dK{x i:Ev.X}{b o m j size:Nat}{ik:IntKind}{z:Int}(hx:xv env x=some (.pointer (some ⟨b,o,none⟩)))(hi:xv env i=some (.int ik z))(hz:z=(j:Int))(hj:j<m)(h:R (.pointer (some ⟨b,o+j*size,none⟩)) A):fT P C X s0 n nt (.iaa x i m size) env A R:=.mk fun s hs=>Td hx hi hz hj ⟨A,hs,h⟩
theorem W4{a:Addr}(hx:xv env x=some (.pointer (some a)))(h:R (.pointer (some a)) A):fT P C X s0 n nt (.nilc x) env A R:=.mk fun s hs=>Rv hx ⟨A,hs,h⟩
theorem cK{b o m c:Nat}(hx:xv env x=some (.slice (some ⟨b,o,none⟩) m c))(h:R (.int .i64 (m:Int)) A):fT P C X s0 n nt (.len x) env A R:=.mk fun s hs=>I7 hx (fun b hb=>by cases hb;rfl) ⟨A,hs,h⟩
theorem rO(hx:xv env x=some (.slice none m c))(h:R (.int .i64 (m:Int)) A):fT P C X s0 n nt (.len x) env A R:=.mk fun s hs=>I7 hx (fun b hb=>by cases hb) ⟨A,hs,h⟩
theorem oH{a:Option Addr}(hx:xv env x=some (.slice a m c))(ha:∀b,a=some b->b.spot=none)(h:R (.int .i64 (m:Int)) A):fT P C X s0 n nt (.len x) env A R:=.mk fun s hs=>I7 hx ha ⟨A,hs,h⟩
theorem V1{i:Nat}(hx:xv env x=some (.tuple ⟨l⟩))(hi:l[i]? = some v)(h:R v A):fT P C X s0 n nt (.ext x i) env A R:=.mk fun s hs=>Te hx hi ⟨A,hs,h⟩
theorem lF{f:Nat}{p c:List Ev.X}{ps cs:List Value}(hp:Cq env p=some ps)(hc:Cq env c=some cs)(h:R (.func (.func f) ⟨ps⟩ ⟨cs⟩) A):fT P C X s0 n nt (.fn f p c) env A R:=.mk fun s hs=>Uu hp hc ⟨A,hs,h⟩
theorem I9{b:BinOp}{u v r:Value}(hx:xv env x=some u)(hy:xv env y=some v)(hr:evBin P b t d u v=some r)(h:R r A):fT P C X s0 n nt (.bin b t d x y) env A R:=.mk fun s hs=>lA hx hy hr ⟨A,hs,h⟩
theorem Y3{a b:Int}(hx:xv env x=some (.int .i64 a))(hy:xv env y=some (.int .i64 b))(hr:-9223372036854775808<=a+b/\a+b<9223372036854775808)(h:R (.int .i64 (a+b)) A):fT P C X s0 n nt (.bin .add t d x y) env A R:=.mk fun s hs=>Tf hx hy hr ⟨A,hs,h⟩
theorem bN{a b:Int}(hx:xv env x=some (.int .i64 a))(hy:xv env y=some (.int .i64 b))(hr:-9223372036854775808<=a-b/\a-b<9223372036854775808)(h:R (.int .i64 (a-b)) A):fT P C X s0 n nt (.bin .sub t d x y) env A R:=.mk fun s hs=>Tg hx hy hr ⟨A,hs,h⟩
theorem FO{a b:Int}(hx:xv env x=some (.int .i64 a))(hy:xv env y=some (.int .i64 b))(hr:-9223372036854775808<=a*b/\a*b<9223372036854775808)(h:R (.int .i64 (a*b)) A):fT P C X s0 n nt (.bin .mul t d x y) env A R:=.mk fun s hs=>Th hx hy hr ⟨A,hs,h⟩
theorem qR{a b:Int}(hx:xv env x=some (.int .i64 a))(hy:xv env y=some (.int .i64 b))(h0:b≠0)(hr:-9223372036854775808<=a.tdiv b/\a.tdiv b<9223372036854775808)(h:R (.int .i64 (a.tdiv b)) A):fT P C X s0 n nt (.bin .quo t d x y) env A R:=.mk fun s hs=>Tk hx hy h0 hr ⟨A,hs,h⟩
theorem xO{a b:Int}(hx:xv env x=some (.int .i64 a))(hy:xv env y=some (.int .i64 b))(h0:b≠0)(h:R (.int .i64 (a.tmod b)) A):fT P C X s0 n nt (.bin .rem t d x y) env A R:=.mk fun s hs=>Tl hx hy h0 ⟨A,hs,h⟩
theorem W5{a b:Int}(hx:xv env x=some (.int k a))(hy:xv env y=some (.int k b))(h1:a<b->R (.bool true) A)(h2:¬a<b->R (.bool false) A):fT P C X s0 n nt (.bin .lss t d x y) env A R:=.mk fun s hs=>Tm hx hy (fun h=>⟨A,hs,h1 h⟩) (fun h=>⟨A,hs,h2 h⟩)
theorem dR{a b:Int}(hx:xv env x=some (.int k a))(hy:xv env y=some (.int k b))(h1:b<a->R (.bool true) A)(h2:¬b<a->R (.bool false) A):fT P C X s0 n nt (.bin .gtr t d x y) env A R:=.mk fun s hs=>Tn hx hy (fun h=>⟨A,hs,h1 h⟩) (fun h=>⟨A,hs,h2 h⟩)
theorem eV{a b:Int}(hx:xv env x=some (.int k a))(hy:xv env y=some (.int k b))(h1:a<=b->R (.bool true) A)(h2:¬a<=b->R (.bool false) A):fT P C X s0 n nt (.bin .leq t d x y) env A R:=.mk fun s hs=>To hx hy (fun h=>⟨A,hs,h1 h⟩) (fun h=>⟨A,hs,h2 h⟩)
theorem xP{a b:Int}(hx:xv env x=some (.int k a))(hy:xv env y=some (.int k b))(h1:b<=a->R (.bool true) A)(h2:¬b<=a->R (.bool false) A):fT P C X s0 n nt (.bin .geq t d x y) env A R:=.mk fun s hs=>Tp hx hy (fun h=>⟨A,hs,h1 h⟩) (fun h=>⟨A,hs,h2 h⟩)
theorem bV{a b:Int}(hx:xv env x=some (.int k a))(hy:xv env y=some (.int k b))(h1:a=b->R (.bool true) A)(h2:¬a=b->R (.bool false) A):fT P C X s0 n nt (.bin .eql t d x y) env A R:=.mk fun s hs=>Tq hx hy (fun h=>⟨A,hs,h1 h⟩) (fun h=>⟨A,hs,h2 h⟩)
theorem V3{a b:Int}(hx:xv env x=some (.int k a))(hy:xv env y=some (.int k b))(h1:¬a=b->R (.bool true) A)(h2:a=b->R (.bool false) A):fT P C X s0 n nt (.bin .neq t d x y) env A R:=.mk fun s hs=>Tr hx hy (fun h=>⟨A,hs,h1 h⟩) (fun h=>⟨A,hs,h2 h⟩)
theorem Uw{u:UnOp}{v r:Value}(hx:xv env x=some v)(hr:ev1 P (Op.unary u) v=some r)(h:R r A):fT P C X s0 n nt (.un u x) env A R:=.mk fun s hs=>Ts hx hr ⟨A,hs,h⟩
theorem U6{b:Bool}(hx:xv env x=some (.bool b))(h:R (.bool (!b)) A):fT P C X s0 n nt (.un .not x) env A R:=.mk fun s hs=>Ts hx rfl ⟨A,hs,h⟩
theorem Tw{b:Builtin}{ts:Array Nat}{l:List Ev.X}{r:Value}(hx:Cq env l=some vs)(hr:evBi P b ts t vs=some r)(h:R r A):fT P C X s0 n nt (.bi b ts t l) env A R:=.mk fun s hs=>Uv hx hr ⟨A,hs,h⟩
theorem Z4{f:Ev.X}{l:List Ev.X}{g:Nat}{p c vs:List Value}{Qg:Value->List Ob->Prop}(hf:xv env f=some (.func (.func g) ⟨p⟩ ⟨c⟩))(hl:Cq env l=some vs)(hg:∀s,iP s0 A s->bX P C X n g (p++(vs++c)) s Qg)(h:∀v A',Qg v A'->R v (A'++A)):fT P C X s0 n nt (.call f l) env A R:=.mk fun s hs=>
 I8 hf hl ((hg s hs).mono (fun v s' hq=>by obtain⟨A',h1,h2⟩:=hq;exact⟨_,hs.call h1,h v A' h2⟩))
end
/-! Results. -/
def Av(s0:St):List CRes->List (Nat×Value)->List Ob->List Value->Prop
 |[],_,_,vs=>vs=[]
 | .tmp t::l,env,A,vs=>∃v vs',vs=v::vs'/\look env t=some v/\Av s0 l env A vs'
 | .cell a none::l,env,A,vs=>∃b o v vs',vs=v::vs'/\look env a=some (.pointer (some ⟨b,o,none⟩))/\(∃e op l,lK A b e op l/\l[o]? = some v)/\Av s0 l env A vs'
 | .cell a (some n)::l,env,A,vs=>∃b o r vs',vs = .agg ⟨r⟩::vs'/\look env a=some (.pointer (some ⟨b,o,none⟩))/\n≠0/\(∃e op l,lK A b e op l/\jD l o n=some r)/\Av s0 l env A vs'
theorem Av.e{s:St}(hs:iP s0 A s):∀{l:List CRes} {vs:List Value},Av s0 l env A vs->Ds l env s vs
 |[],_,h=>h
 | .tmp t::l,_,h=>by
  obtain⟨v,vs',h1,h2,h3⟩:=h;exact⟨v,vs',h1,h2,h3.e hs⟩
 | .cell a none::l,_,h=>by
  obtain⟨b,o,v,vs',h1,h2,⟨e,op,l',h4,h5⟩,h3⟩:=h;exact⟨b,o,v,vs',h1,h2,(hs.own h4).at h5,h3.e hs⟩
 | .cell a (some n)::l,_,h=>by
  obtain⟨b,o,v,vs',h1,h2,h0,⟨e,op,l',h4,h5⟩,h3⟩:=h;exact⟨b,o,v,vs',h1,h2,(jP h5).1,h0,(hs.own h4).ats (jP h5).2,h3.e hs⟩
def ES(s0:St)(res:List CRes)(Q:Value->List Ob->Prop):iH->List (Nat×Value)->List Nat->List Ob->Prop
 | .normal,e,D,A=>D=[]/\∃vs A',Av s0 res e A vs/\A'.Sublist A/\Q (one vs) A'
 | .ret,e,D,A=>D=[]/\∃vs A',Av s0 res e A vs/\A'.Sublist A/\Q (one vs) A'
 |_,_,_,_=>False
theorem enter{f:FuncId}{Q:Value->List Ob->Prop}{body:CC}{res:List CRes}(hC:∀k,k ⟨body,nt,res⟩=true->C f k=true)(hl:Nat.ble vs.length nt=true)(hw:Wf s)
 (h:fC P C X s n nt none body (rN 0 vs) [] [] (ES s res Q)):bX P C X (n+1) f vs s Q:=by
 refine EQ hC (by simpa using hl) ((h.go s (iP.start hw)).mono (fun x e D s' hq=>?_));obtain⟨A,h1,h2⟩:=hq;cases x with
 |normal=>obtain⟨hD,vs,A',h3,h4,h5⟩:=h2;exact⟨hD,vs,h3.e h1,A',h1.sub h4,h5⟩
 |ret=>obtain⟨hD,vs,A',h3,h4,h5⟩:=h2;exact⟨hD,vs,h3.e h1,A',h1.sub h4,h5⟩
 |exit i=>exact h2
 |goto i=>exact h2
theorem aO{Q:Value->List Ob->Prop}(ht:look env t=some v)(hq:Q v []):ES s0 [.tmp t] Q .ret env [] A:=⟨rfl,[v],[],⟨v,[],rfl,ht,rfl⟩,List.nil_sublist _,hq⟩
theorem HV{t u:Nat}{Q:Value->List Ob->Prop}{v w:Value}(ht:look env t=some v)(hu:look env u=some w)(hq:Q (.tuple #[v,w]) []):ES s0 [.tmp t,.tmp u] Q .ret env [] A:=⟨rfl,[v,w],[],⟨v,[w],rfl,ht,w,[],rfl,hu,rfl⟩,List.nil_sublist _,hq⟩
end
end
end Go.Proofs.YtjkdkpckjgaplaaGreat.Ev
