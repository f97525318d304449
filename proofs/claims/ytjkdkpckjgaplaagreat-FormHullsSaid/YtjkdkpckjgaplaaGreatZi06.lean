import Derived.Test.YtjkdkpckjgaplaaGreatZi05
set_option linter.unusedVariables false
set_option linter.unusedSimpArgs false
namespace Go.Proofs.YtjkdkpckjgaplaaGreat.Ev
open Go Go.RowKit
noncomputable section
variable{s s' s0:St}{base c o d m off t:Nat}{op:Bool}{l l' vs:List Value}{v u:Value}{a x y:Ev.X}{g:Option (Nat×Bool)}{k:IntKind}
inductive Ob where
 |row (b e:Nat) (op:Bool) (l:List Value)
 | loop (b : Nat) (st : LoopState) (pend : iL) (nt : Nat) (env : List (Nat × Value)) (ps : List Nat) (a c : CC) (q : Nat)   -- a loop over a function's calls
 | dfr (b : Nat)   -- what is deferred, and not yet done
 | imap (b : Nat) (es : List (Int × Value))   -- a small map
variable{A A':List Ob}
def Ob.b:Ob->Nat
 | .row b _ _ _=>b
 | .loop b _ _ _ _ _ _ _ _=>b
 | .dfr b=>b
 | .imap b _=>b
def Ob.Is(s:St):Ob->Prop
 | .row b e op l=>Obj s b e op l
 | .loop b st pend nt env ps a c q=>∃T,s.h.get b=some (.loop st pend T ps a c q)/\zO nt T env
 | .dfr b=>s.h.get b=some (.deferred true)
 | .imap b es=>s.h.get b=some (.imap es)
theorem Ob.Is.same{x:Ob}(h:x.Is s)(hb:s'.h.get x.b=s.h.get x.b):x.Is s':=by
 cases x with
 |row b e op l=>exact Obj.same h hb
 |loop b st pend nt env ps a c q=>obtain⟨T,h1,h2⟩:=h;exact⟨T,hb.trans h1,h2⟩
 |dfr b=>exact hb.trans h
 |imap b es=>exact hb.trans h
theorem Ob.Is.lt(hw:Wf s){x:Ob}(h:x.Is s):x.b<s.n:=by
 cases x with
 |row b e op l=>exact Obj.lt hw h
 |loop b st pend nt env ps a c q=>obtain⟨T,h1,h2⟩:=h;exact eB.lt hw h1
 |dfr b=>exact eB.lt hw h
 |imap b es=>exact eB.lt hw h
theorem Ob.Is.ext(hw:Wf s){y:Ob}(h:y.Is s)(x:uB s s'):y.Is s':=h.same (x.2.2 _ (h.lt hw))
theorem Ob.Is.mod(hw:Wf s){y:Ob}(h:y.Is s){ch:List Nat}(x:Ij s s' ch)(hb:y.b∉ch):y.Is s':=h.same (x.2.2 _ (h.lt hw) hb)
def rP(base:Nat)(s:St):List Ob->Prop
 |[]=>True
 |x::A=>base<=x.b/\x.Is s/\(∀y∈A,y.b≠x.b)/\rP base s A
def iK(s0:St)(A:List Ob)(s:St):Prop:=Wf s0/\uB s0 s/\rP s0.n s A
theorem rP.lt(hw:Wf s):∀{A:List Ob},rP base s A->∀y∈A,y.b<s.n/\base<=y.b
 |[],_,y,hy=>by cases hy
 |x::A,⟨h1,h2,_,h4⟩,y,hy=>by
  rcases List.mem_cons.1 hy with rfl|hy
  ·exact⟨h2.lt hw,h1⟩
  ·exact h4.lt hw y hy
theorem rP.ext(hw:Wf s)(x:uB s s'):∀{A:List Ob},rP base s A->rP base s' A
 |[],_=>trivial
 |_::_,⟨h1,h2,h3,h4⟩=>⟨h1,h2.ext hw x,h3,h4.ext hw x⟩
theorem rP.mod{base b:Nat}(hw:Wf s)(x:Ij s s' [b]):∀{A:List Ob},rP base s A->(∀y∈A,y.b≠b)->rP base s' A
 |[],_,_=>trivial
 |y::_,⟨h1,h2,h3,h4⟩,hb=>⟨h1,h2.mod hw x (by simpa using hb y sM),h3,h4.mod hw x (fun z hz=>hb z (by simp[hz]))⟩
theorem iK.wf(h:iK s0 A s):Wf s:=h.2.1.1
theorem iK.start(h:Wf s):iK s [] s:=⟨h,uB.refl h,trivial⟩
theorem iK.ext(h:iK s0 A s)(x:uB s s'):iK s0 A s':=⟨h.1,h.2.1.trans x,h.2.2.ext h.wf x⟩
theorem iK.new(h:iK s0 A s)(x:uB s s'){e:Nat}(ho:Obj s' s.n e op l):iK s0 (.row s.n e op l::A) s':=
 ⟨h.1,h.2.1.trans x,h.2.1.2.1,ho,fun y hy=>by have:=(h.2.2.lt h.wf y hy).1;show y.b≠s.n;omega,h.2.2.ext h.wf x⟩
inductive lK:List Ob->Nat->Nat->Bool->List Value->Prop where
 |here {b e:Nat} {op:Bool} {l:List Value} {A:List Ob}:lK (.row b e op l::A) b e op l
 |next {x:Ob} {b e:Nat} {op:Bool} {l:List Value} {A:List Ob} (h:lK A b e op l):lK (x::A) b e op l
section
variable{x0 x1 x2 x3 x4 x5 x6 x7 x8:Ob}{b e:Nat}{op:Bool}{l:List Value}{A:List Ob}
theorem lK.h1:lK (x0::.row b e op l::A) b e op l:=.next .here
theorem lK.h2:lK (x0::x1::.row b e op l::A) b e op l:=.next .h1
theorem lK.h3:lK (x0::x1::x2::.row b e op l::A) b e op l:=.next .h2
theorem lK.h4:lK (x0::x1::x2::x3::.row b e op l::A) b e op l:=.next .h3
theorem lK.h5:lK (x0::x1::x2::x3::x4::.row b e op l::A) b e op l:=.next .h4
theorem lK.h6:lK (x0::x1::x2::x3::x4::x5::.row b e op l::A) b e op l:=.next .h5
theorem lK.h7:lK (x0::x1::x2::x3::x4::x5::x6::.row b e op l::A) b e op l:=.next .h6
theorem lK.h8:lK (x0::x1::x2::x3::x4::x5::x6::x7::.row b e op l::A) b e op l:=.next .h7
theorem lK.h9:lK (x0::x1::x2::x3::x4::x5::x6::x7::x8::.row b e op l::A) b e op l:=.next .h8
end
theorem lK.mem{b e:Nat}(h:lK A b e op l):(.row b e op l:Ob)∈A:=by
 induction h with
 |here=>simp
 |next _ ih=>simp[ih]
theorem rP.own{b e:Nat}(h:lK A b e op l):rP base s A->Obj s b e op l:=by
 induction h with
 |here=>exact fun h=>h.2.1
 |next _ ih=>exact fun h=>ih h.2.2.2
theorem iK.own{b e:Nat}(h:iK s0 A s)(o:lK A b e op l):Obj s b e op l:=h.2.2.own o
inductive oS:List Ob->Nat->Nat->Bool->List Value->List Value->List Ob->Prop where
 |here {b e:Nat} {op:Bool} {l l':List Value} {A:List Ob}:oS (.row b e op l::A) b e op l l' (.row b e op l'::A)
 |next {x:Ob} {b e:Nat} {op:Bool} {l l':List Value} {A A':List Ob} (h:oS A b e op l l' A'):oS (x::A) b e op l l' (x::A')
section
variable{x0 x1 x2 x3 x4 x5 x6 x7 x8:Ob}{b e:Nat}{op:Bool}{l l':List Value}{A:List Ob}
theorem oS.h1:oS (x0::.row b e op l::A) b e op l l' (x0::.row b e op l'::A):=.next .here
theorem oS.h2:oS (x0::x1::.row b e op l::A) b e op l l' (x0::x1::.row b e op l'::A):=.next .h1
theorem oS.h3:oS (x0::x1::x2::.row b e op l::A) b e op l l' (x0::x1::x2::.row b e op l'::A):=.next .h2
theorem oS.h4:oS (x0::x1::x2::x3::.row b e op l::A) b e op l l' (x0::x1::x2::x3::.row b e op l'::A):=.next .h3
theorem oS.h5:oS (x0::x1::x2::x3::x4::.row b e op l::A) b e op l l' (x0::x1::x2::x3::x4::.row b e op l'::A):=.next .h4
theorem oS.h6:oS (x0::x1::x2::x3::x4::x5::.row b e op l::A) b e op l l' (x0::x1::x2::x3::x4::x5::.row b e op l'::A):=.next .h5
theorem oS.h7:oS (x0::x1::x2::x3::x4::x5::x6::.row b e op l::A) b e op l l' (x0::x1::x2::x3::x4::x5::x6::.row b e op l'::A):=.next .h6
theorem oS.h8:oS (x0::x1::x2::x3::x4::x5::x6::x7::.row b e op l::A) b e op l l' (x0::x1::x2::x3::x4::x5::x6::x7::.row b e op l'::A):=.next .h7
theorem oS.h9:oS (x0::x1::x2::x3::x4::x5::x6::x7::x8::.row b e op l::A) b e op l l' (x0::x1::x2::x3::x4::x5::x6::x7::x8::.row b e op l'::A):=.next .h8
end
theorem oS.own{b e:Nat}(h:oS A b e op l l' A'):lK A b e op l:=by
 induction h with
 |here=>exact .here
 |next _ ih=>exact .next ih
theorem oS.blocks{b e:Nat}(h:oS A b e op l l' A'):A'.map (·.b)=A.map (·.b):=by
 induction h with
 |here=>rfl
 |next _ ih=>simp[ih]
theorem Cb(h:A'.map (·.b)=A.map (·.b))(hA:∀y∈A,y.b≠c):∀y∈A',y.b≠c:=by
 intro y hy hc;have:c∈A'.map (·.b):=List.mem_map.2 ⟨y,hy,hc⟩;rw[h] at this;obtain⟨z,hz,hzc⟩:=List.mem_map.1 this;exact hA z hz hzc
theorem rP.upd(hw:Wf s){b e:Nat}(h:oS A b e op l l' A')(x:Ij s s' [b])(ho:Obj s' b e op l'):rP base s A->rP base s' A':=by
 induction h with
 |here=>exact fun ⟨h1,h2,h3,h4⟩=>⟨h1,ho,h3,h4.mod hw x h3⟩
 |next hu ih=>
  rintro⟨h1,h2,h3,h4⟩;refine⟨h1,h2.mod hw x ?_,Cb hu.blocks h3,ih x ho h4⟩;have:=h3 _ hu.own.mem;simpa [Ob.b] using Ne.symm this
theorem iK.upd{b e:Nat}(h:iK s0 A s)(u:oS A b e op l l' A')(x:Ij s s' [b])(ho:Obj s' b e op l'):iK s0 A' s':=
 ⟨h.1,h.2.1.mod x (by
  intro i hi;have:i=b:=by simpa using hi
  subst this;exact(h.2.2.lt h.wf _ u.own.mem).2),h.2.2.upd h.wf u x ho⟩
theorem rP.sub(h:A'.Sublist A):rP base s A->rP base s A':=by
 induction h with
 |slnil=>exact id
 |cons _ _ ih=>exact fun h=>ih h.2.2.2
 |cons_cons _ hs ih=>exact fun ⟨h1,h2,h3,h4⟩=>⟨h1,h2,fun y hy=>h3 y (hs.subset hy),ih h4⟩
theorem iK.sub(h:iK s0 A s)(x:A'.Sublist A):iK s0 A' s:=⟨h.1,h.2.1,h.2.2.sub x⟩
theorem rP.append{base b2:Nat}(hw:Wf s)(x:uB s s')(h:rP base s A)(hb:base<=b2)(hs:s.n=b2)(hw':Wf s'):∀{A':List Ob},rP b2 s' A'->rP base s' (A'++A)
 |[],_=>h.ext hw x
 |y::A',⟨h1,h2,h3,h4⟩=>by
  refine⟨oM,h2,fun z hz=>?_,rP.append hw x h hb hs hw' h4⟩;rcases List.mem_append.1 hz with hz|hz
  ·exact h3 z hz
  ·have:=(h.lt hw z hz).1;omega
theorem iK.call(h:iK s0 A s)(k:iK s A' s'):iK s0 (A'++A) s':=⟨h.1,h.2.1.trans k.2.1,h.2.2.append h.wf k.2.1 h.2.1.2.1 rfl k.wf k.2.2⟩
theorem iK.at(h:iK s0 A s){b o:Nat}(a:At s0 b o v):At s b o v:=a.ext h.1 h.2.1
theorem iK.ats(h:iK s0 A s){b o:Nat}(a:pR s0 b o l):pR s b o l:=a.ext h.1 h.2.1
section
variable(P:Program)(C:Nat->(CF->Bool)->Bool)(X:FuncId->List Value->St->(Value->St->Bool)->Bool)(s0:St)
structure eY(n nt:Nat)(r:Option Nat)(c:CC)(env:List (Nat×Value))(D:List Nat)(A:List Ob)(Q:iL->List (Nat×Value)->List Nat->List Ob->Prop):Prop where
 go:∀s,iK s0 A s->mP P C X n nt r c env D s (fun x e D s'=>∃A',iK s0 A' s'/\Q x e D A')
structure lH(n nt:Nat)(l:List Item)(env:List (Nat×Value))(A:List Ob)(Q:List (Nat×Value)->List Ob->Prop):Prop where
 go:∀s,iK s0 A s->N0 P C X n nt l env s (fun e s'=>∃A',iK s0 A' s'/\Q e A')
structure fU(n nt:Nat)(c:COp)(env:List (Nat×Value))(A:List Ob)(R:Value->List Ob->Prop):Prop where
 go:∀s,iK s0 A s->rV P C X n nt c env s (fun v s'=>∃A',iK s0 A' s'/\R v A')
def bS(n:Nat)(f:FuncId)(vs:List Value)(s:St)(Q:Value->List Ob->Prop):Prop:=vX P C X n f vs s (fun v s'=>∃A,iK s A s'/\Q v A)
end
def zB(N:List (Nat×Value)->List Nat->List Ob->Prop)(Q:iL->List (Nat×Value)->List Nat->List Ob->Prop):iL->List (Nat×Value)->List Nat->List Ob->Prop
 | .normal,e,D,s=>N e D s
 | .ret,e,D,s=>Q .ret e D s
 | .exit i,e,D,s=>Q (.exit i) e D s
 | .goto i,e,D,s=>Q (.goto i) e D s
def CO(id:Nat)(Q:iL->List (Nat×Value)->List Nat->List Ob->Prop):iL->List (Nat×Value)->List Nat->List Ob->Prop
 | .exit j,e,D,s=>sel (Nat.beq j id) (Q .normal e D s) (Q (.exit j) e D s)
 | .normal,e,D,s=>Q .normal e D s
 | .ret,e,D,s=>Q .ret e D s
 | .goto i,e,D,s=>Q (.goto i) e D s
section
variable{N:List (Nat×Value)->List Nat->List Ob->Prop}{Q:iL->List (Nat×Value)->List Nat->List Ob->Prop}{e:List (Nat×Value)}{D:List Nat}{A:List Ob}{i j:Nat}
theorem W0(h:N e D A):zB N Q .normal e D A:=h
theorem W3(h:Q .ret e D A):zB N Q .ret e D A:=h
theorem Z2(h:Q (.exit i) e D A):zB N Q (.exit i) e D A:=h
theorem Z1(h:Q .normal e D A):CO i Q .normal e D A:=h
theorem Y6(h:Q .ret e D A):CO i Q .ret e D A:=h
theorem Q3(h:Q .normal e D A):CO i Q (.exit i) e D A:=by
 show sel (Nat.beq i i) _ _;rw[show Nat.beq i i=true from by rw[Nat.beq_eq]];exact h
end
section
variable{P:Program}{C:Nat->(CF->Bool)->Bool}{X:FuncId->List Value->St->(Value->St->Bool)->Bool}{s0:St}{n nt:Nat}{r:Option Nat}{env:List (Nat×Value)}{D:List Nat}{A:List Ob}
section
variable{Q:iL->List (Nat×Value)->List Nat->List Ob->Prop}
theorem Q1(h:Q .normal env D A):eY P C X s0 (n+1) nt r .skip env D A Q:=.mk fun s hs=>Jv ⟨A,hs,h⟩
theorem V2(h:Q .ret env D A):eY P C X s0 (n+1) nt r .ret env D A Q:=.mk fun s hs=>N1 ⟨A,hs,h⟩
theorem Y4{i:Nat}(h:Q (.exit i) env D A):eY P C X s0 (n+1) nt r (.exit i) env D A Q:=.mk fun s hs=>Jw ⟨A,hs,h⟩
theorem RM{a b:CC}(h:eY P C X s0 n nt r a env D A (zB (fun e D A=>eY P C X s0 n nt r b e D A Q) Q)):eY P C X s0 (n+1) nt r (.seq a b) env D A Q:=.mk fun s hs=>
 Ga ((h.go s hs).mono (fun x e D s' hq=>by
  obtain⟨A',h1,h2⟩:=hq;cases x with
  |normal=>exact h2.go s' h1
  |ret=>exact⟨A',h1,h2⟩
  |exit i=>exact⟨A',h1,h2⟩
  |goto i=>exact⟨A',h1,h2⟩))
theorem W1{id:Nat}{b:CC}(h:eY P C X s0 n nt r b env D A (CO id Q)):eY P C X s0 (n+1) nt r (.block id b) env D A Q:=.mk fun s hs=>
 Ik ((h.go s hs).mono (fun x e D s' hq=>by
  obtain⟨A',h1,h2⟩:=hq;cases x with
  |normal=>exact⟨A',h1,h2⟩
  |ret=>exact⟨A',h1,h2⟩
  |goto i=>exact⟨A',h1,h2⟩
  |exit j=>
   have h2':sel (Nat.beq j id) (Q .normal e D A') (Q (.exit j) e D A'):=h2;show sel (Nat.beq j id) (∃A',iK s0 A' s'/\Q .normal e D A') (∃A',iK s0 A' s'/\Q (.exit j) e D A');cases hb:Nat.beq j id with
   |true=>rw[hb] at h2';exact⟨A',h1,h2'⟩
   |false=>rw[hb] at h2';exact⟨A',h1,h2'⟩))
theorem Y0{a b:CC}(hx:xv env x=some (.bool true))(h:eY P C X s0 n nt r a env D A Q):eY P C X s0 (n+1) nt r (.cond x a b) env D A Q:=.mk fun s hs=>Fm hx (h.go s hs)
theorem U0{a b:CC}(hx:xv env x=some (.bool false))(h:eY P C X s0 n nt r b env D A Q):eY P C X s0 (n+1) nt r (.cond x a b) env D A Q:=.mk fun s hs=>Fo hx (h.go s hs)
theorem Gd{l:List Item}(h:lH P C X s0 n nt l env A (fun e A=>Q .normal e D A)):eY P C X s0 (n+1) nt r (.items l) env D A Q:=.mk fun s hs=>Il (h.go s hs)
theorem eY.less{c:CC}{env':List (Nat×Value)}(hl:eU env env')(ha:A'.Sublist A)(h:eY P C X s0 n nt r c env' D A' Q):eY P C X s0 n nt r c env D A Q:=.mk fun s hs=>(h.go s (hs.sub ha)).less hl
theorem U4{b:CC}(I:Nat->List (Nat×Value)->List Ob->Prop)(c K L:Nat)(hb:∀n,K<=n->∀j e A,I j e A->eY P C X s0 (n+c) nt r b e D A (zB (fun e' D' A'=>D'=D/\∃j' e2 A2,j'<j/\eU e' e2/\A2.Sublist A'/\I j' e2 A2) Q))
 {j:Nat} {env2:List (Nat×Value)} {A2:List Ob} (hn:K+L<=n) (hj:j<=L) (hl:eU env env2) (ha:A2.Sublist A) (hI:I j env2 A2):eY P C X s0 (n+c+1) nt r (.loop b) env D A Q:=.mk fun s hs=>by
 refine DW (env2:=env2) (fun j e s=>∃A,iK s0 A s/\I j e A) c K L (fun n hK j e s hI=>?_) hn hj hl ⟨A2,hs.sub ha,hI⟩;obtain⟨A1,h1,h2⟩:=hI;refine((hb n hK j e A1 h2).go s h1).mono (fun x e D' s' hq=>?_);obtain⟨A',h3,h4⟩:=hq;cases x with
 |normal=>
  obtain⟨h5,j',e2,A2,h6,h7,h8,h9⟩:=h4;exact⟨h5,j',e2,h6,h7,A2,h3.sub h8,h9⟩
 |ret=>exact⟨A',h3,h4⟩
 |exit i=>exact⟨A',h3,h4⟩
 |goto i=>exact⟨A',h3,h4⟩
end
section
variable{Q:List (Nat×Value)->List Ob->Prop}
theorem Q0(h:Q env A):lH P C X s0 n nt [] env A Q:=.mk fun s hs=>SV ⟨A,hs,h⟩
theorem SZ{c:COp}{l:List Item}(h:fU P C X s0 n nt c env A (fun v A'=>lH P C X s0 n nt l ((d,v)::env) A' Q))(hg:pT env g=some true)(hd:xM (some d) nt=true):lH P C X s0 n nt (⟨g,some d,c⟩::l) env A Q:=.mk fun s hs=>
 US hg hd (fun T hT k hk=>h.go s hs T hT k (fun v s' hq=>hk v s' (by obtain⟨A',h1,h2⟩:=hq;exact h2.go s' h1)))
theorem Vl{c:COp}{l:List Item}(h:fU P C X s0 n nt c env A (fun _ A'=>lH P C X s0 n nt l env A' Q))(hg:pT env g=some true):lH P C X s0 n nt (⟨g,none,c⟩::l) env A Q:=.mk fun s hs=>
 SW hg (fun T hT k hk=>h.go s hs T hT k (fun v s' hq=>hk v s' (by obtain⟨A',h1,h2⟩:=hq;exact h2.go s' h1)))
theorem V0{c:COp}{l:List Item}(h:lH P C X s0 n nt l ((d,undef)::env) A Q)(hg:pT env g=some false:=by exact rfl)(hd:xM (some d) nt=true:=by exact rfl):lH P C X s0 n nt (⟨g,some d,c⟩::l) env A Q:=.mk fun s hs=>UU hg hd (h.go s hs)
end
section
variable{R:Value->List Ob->Prop}
theorem U2(hx:xv env x=some v)(h:R v A):fU P C X s0 n nt (.mov x) env A R:=.mk fun s hs=>UV hx ⟨A,hs,h⟩
theorem W2{c a b:Ev.X}(hc:xv env c=some (.bool true))(ha:xv env a=some v)(hb:xv env b=some u)(h:R v A):fU P C X s0 n nt (.pick c a b) env A R:=.mk fun s hs=>Jz hc ha hb ⟨A,hs,h⟩
theorem U1{c a b:Ev.X}(hc:xv env c=some (.bool false))(ha:xv env a=some v)(hb:xv env b=some u)(h:R u A):fU P C X s0 n nt (.pick c a b) env A R:=.mk fun s hs=>JA hc ha hb ⟨A,hs,h⟩
theorem Vm{e m:Nat}{z:BT Value}(hf:zA z m=true)(hz:xN z 0 m=some l)(h:∀b,R (.pointer (some ⟨b,0,none⟩)) (.row b e false l::A)):fU P C X s0 n nt (.new e m z) env A R:=.mk fun s hs=>
 UW hs.wf hf hz (fun s' x _ ho=>⟨_,hs.new x ho,h s.n⟩)
theorem Vn{e:Nat}(hx:xv env x=some v)(hc:v.cells=⟨l⟩)(h1:eV l=true)(h:∀b,R (.pointer (some ⟨b,0,none⟩)) (.row b e false l::A)):fU P C X s0 n nt (.box e x) env A R:=.mk fun s hs=>
 UX hs.wf hx hc h1 (fun s' x _ ho=>⟨_,hs.new x ho,h s.n⟩)
theorem Y1{b off e:Nat}(ha:xv env a=some (.pointer (some ⟨b,off,none⟩)))(ho:lK A b e op l)(hv:l[off]? = some v)(h:R v A):fU P C X s0 n nt (.ld a none) env A R:=.mk fun s hs=>
 UY ha ((hs.own ho).at hv) ⟨A,hs,h⟩
theorem W6{b off:Nat}(ha:xv env a=some (.pointer (some ⟨b,off,none⟩)))(hv:At s0 b off v)(h:R v A):fU P C X s0 n nt (.ld a none) env A R:=.mk fun s hs=>
 UY ha (hs.at hv) ⟨A,hs,h⟩
def iA{α:Type}(l:List α):Nat->Nat->Option (List α)
 |_,0=>some []
 |i,n+1=>match l[i]?,iA l (i+1) n with
  |some v,some r=>some (v::r)
  |_,_=>none
theorem gO{α:Type}{l:List α}:∀{n i:Nat} {r:List α},iA l i n=some r->r.length=n/\∀j,j<r.length->l[i+j]? = r[j]?
 |0,i,r,h=>by cases h;exact⟨rfl,fun j hj=>absurd hj (Nat.not_lt_zero j)⟩
 |n+1,i,r,h=>by
  simp only[iA] at h;split at h
  ·rename_i v r' h1 h2
   cases h;obtain⟨h3,h4⟩:=gO h2;refine⟨by simp[h3],fun j hj=>?_⟩;cases j with
   |zero=>exact h1
   |succ j=>rw[List.getElem?_cons_succ,<-h4 j (by simp at hj;omega)];congr 1;omega
  ·cases h
theorem V4{b off e m:Nat}{l r:List Value}(ha:xv env a=some (.pointer (some ⟨b,off,none⟩)))(h0:m≠0)(ho:lK A b e op l)(hv:iA l off m=some r)(h:R (.agg ⟨r⟩) A):fU P C X s0 n nt (.ld a (some m)) env A R:=.mk fun s hs=>
 RL ha ((hs.own ho).ats (gO hv).2) (gO hv).1 h0 ⟨A,hs,h⟩
theorem eF{b off m:Nat}(ha:xv env a=some (.pointer (some ⟨b,off,none⟩)))(h0:m≠0)(hv:pR s0 b off l)(hm:l.length=m)(h:R (.agg ⟨l⟩) A):fU P C X s0 n nt (.ld a (some m)) env A R:=.mk fun s hs=>
 RL ha (hs.ats hv) hm h0 ⟨A,hs,h⟩
theorem cW{b off e:Nat}(ha:xv env a=some (.pointer (some ⟨b,off,none⟩)))(hx:xv env x=some v)(hu:oS A b e op l (l.set off v) A')(hlt:Nat.blt off l.length=true)(h1:oneCell v=true)(h:R undef A'):fU P C X s0 n nt (.st a x none) env A R:=.mk fun s hs=>
 We hs.wf ha hx (hs.own hu.own) (by rw[Nat.blt_eq] at hlt;exact hlt) h1 (fun s' m _ ho=>⟨_,hs.upd hu m ho,h⟩)
def DZ:List Value->Nat->List Value->Option (List Value)
 |l,_,[]=>some l
 |l,i,v::r=>match l[i]? with
  |some _=>DZ (l.set i v) (i+1) r
  |none=>none
theorem AY:∀{r l l':List Value} {i:Nat},DZ l i r=some l'->i<=l.length->l'=over l i r/\i+r.length<=l.length
 |[],l,l',i,h,hi=>by
  cases h;refine⟨?_,by simpa using hi⟩;unfold over;simp
 |v::r,l,l',i,h,hi=>by
  simp only[DZ] at h;split at h
  ·rename_i u hu
   have hlt:i<l.length:=(List.getElem?_eq_some_iff.1 hu).1;obtain⟨h1,h2⟩:=AY h (by rw[List.length_set];omega);rw[List.length_set] at h2;refine⟨?_,by simp;omega⟩;rw[h1];refine List.ext_getElem? (fun j=>?_);rw[oA (by rw[List.length_set];exact h2),oA (by simp;omega)];by_cases h3:i+1<=j/\j<i+1+r.length
   ·rw[if_pos h3,if_pos (by simp;omega)]
    obtain⟨q,hq⟩:∃q,j-i=q+1:=⟨j-i-1,oM⟩;rw[hq,List.getElem?_cons_succ];congr 1;omega
   ·rw[if_neg h3,List.getElem?_set]
    by_cases h4:j=i
    ·subst h4;rw[if_pos rfl,if_pos hlt,if_pos sM];simp
    ·rw[if_neg (Ne.symm h4),if_neg (by simp;omega)]
  ·cases h
theorem Q6{b off e m:Nat}{r l l':List Value}(ha:xv env a=some (.pointer (some ⟨b,off,none⟩)))(hx:xv env x=some (.agg ⟨r⟩))(hu:oS A b e op l l' A')(hv:DZ l off r=some l')(hle:Nat.ble off l.length=true)(hm:Nat.beq r.length m=true)(h1:eV r=true)(h:R undef A'):fU P C X s0 n nt (.st a x (some m)) env A R:=.mk fun s hs=>by
 obtain⟨h2,h3⟩:=AY hv (by simpa using hle);have hm':r.length=m:=by simpa using hm
 subst h2;exact UZ hs.wf ha hx (hs.own hu.own) oM hm' h1 (fun s' m _ ho=>⟨_,hs.upd hu m ho,h⟩)
theorem aL{d b off e:Nat}(ha:xv env a=some (.pointer (some ⟨b,off,none⟩)))(hd:look env d=some v)(ho:lK A b e op l)(hv:l[off]? = some v)(he:eqV v v=true)(h:R undef A):fU P C X s0 n nt (.again a none d) env A R:=.mk fun s hs=>
 Gc ha hd ((hs.own ho).at hv) he ⟨A,hs,h⟩
theorem mE{d b off:Nat}(ha:xv env a=some (.pointer (some ⟨b,off,none⟩)))(hd:look env d=some v)(hv:At s0 b off v)(he:eqV v v=true)(h:R undef A):fU P C X s0 n nt (.again a none d) env A R:=.mk fun s hs=>
 Gc ha hd (hs.at hv) he ⟨A,hs,h⟩
theorem eZ{d b off e m:Nat}{l r:List Value}(ha:xv env a=some (.pointer (some ⟨b,off,none⟩)))(hd:look env d=some (.agg ⟨r⟩))(h0:m≠0)(ho:lK A b e op l)(hv:iA l off m=some r)(he:eqL r r=true)(h:R undef A):fU P C X s0 n nt (.again a (some m) d) env A R:=.mk fun s hs=>
 JB ha hd ((hs.own ho).ats (gO hv).2) (gO hv).1 h0 he ⟨A,hs,h⟩
theorem Q2{b o off:Nat}(hx:xv env x=some (.pointer (some ⟨b,o,none⟩)))(h:R (.pointer (some ⟨b,o+off,none⟩)) A):fU P C X s0 n nt (.fa x off) env A R:=.mk fun s hs=>Wg hx ⟨A,hs,h⟩
theorem Z3{x i:Ev.X}{b o m c j size:Nat}{ik:IntKind}{z:Int}(hx:xv env x=some (.slice (some ⟨b,o,none⟩) m c))(hi:xv env i=some (.int ik z))(hz:z=(j:Int))(hj:j<m)(h:R (.pointer (some ⟨b,o+j*size,none⟩)) A):fU P C X s0 n nt (.ia x i size) env A R:=.mk fun s hs=>Wh hx hi hz hj ⟨A,hs,h⟩
theorem dB{x i:Ev.X}{b o m j size:Nat}{ik:IntKind}{z:Int}(hx:xv env x=some (.pointer (some ⟨b,o,none⟩)))(hi:xv env i=some (.int ik z))(hz:z=(j:Int))(hj:j<m)(h:R (.pointer (some ⟨b,o+j*size,none⟩)) A):fU P C X s0 n nt (.iaa x i m size) env A R:=.mk fun s hs=>U7 hx hi hz hj ⟨A,hs,h⟩
theorem W4{a:Addr}(hx:xv env x=some (.pointer (some a)))(h:R (.pointer (some a)) A):fU P C X s0 n nt (.nilc x) env A R:=.mk fun s hs=>SX hx ⟨A,hs,h⟩
theorem cO{b o m c:Nat}(hx:xv env x=some (.slice (some ⟨b,o,none⟩) m c))(h:R (.int .i64 (m:Int)) A):fU P C X s0 n nt (.len x) env A R:=.mk fun s hs=>JC hx (fun b hb=>by cases hb;rfl) ⟨A,hs,h⟩
theorem sO(hx:xv env x=some (.slice none m c))(h:R (.int .i64 (m:Int)) A):fU P C X s0 n nt (.len x) env A R:=.mk fun s hs=>JC hx (fun b hb=>by cases hb) ⟨A,hs,h⟩
theorem pE{a:Option Addr}(hx:xv env x=some (.slice a m c))(ha:∀b,a=some b->b.spot=none)(h:R (.int .i64 (m:Int)) A):fU P C X s0 n nt (.len x) env A R:=.mk fun s hs=>JC hx ha ⟨A,hs,h⟩
theorem V1{i:Nat}(hx:xv env x=some (.tuple ⟨l⟩))(hi:l[i]? = some v)(h:R v A):fU P C X s0 n nt (.ext x i) env A R:=.mk fun s hs=>U8 hx hi ⟨A,hs,h⟩
theorem nD{f:Nat}{p c:List Ev.X}{ps cs:List Value}(hp:B5 env p=some ps)(hc:B5 env c=some cs)(h:R (.func (.func f) ⟨ps⟩ ⟨cs⟩) A):fU P C X s0 n nt (.fn f p c) env A R:=.mk fun s hs=>Wi hp hc ⟨A,hs,h⟩
theorem lM{b:BinOp}{u v r:Value}(hx:xv env x=some u)(hy:xv env y=some v)(hr:evBin P b t d u v=some r)(h:R r A):fU P C X s0 n nt (.bin b t d x y) env A R:=.mk fun s hs=>lJ hx hy hr ⟨A,hs,h⟩
theorem Y3{a b:Int}(hx:xv env x=some (.int .i64 a))(hy:xv env y=some (.int .i64 b))(hr:-9223372036854775808<=a+b/\a+b<9223372036854775808)(h:R (.int .i64 (a+b)) A):fU P C X s0 n nt (.bin .add t d x y) env A R:=.mk fun s hs=>U9 hx hy hr ⟨A,hs,h⟩
theorem bN{a b:Int}(hx:xv env x=some (.int .i64 a))(hy:xv env y=some (.int .i64 b))(hr:-9223372036854775808<=a-b/\a-b<9223372036854775808)(h:R (.int .i64 (a-b)) A):fU P C X s0 n nt (.bin .sub t d x y) env A R:=.mk fun s hs=>Va hx hy hr ⟨A,hs,h⟩
theorem Ge{a b:Int}(hx:xv env x=some (.int .i64 a))(hy:xv env y=some (.int .i64 b))(hr:-9223372036854775808<=a*b/\a*b<9223372036854775808)(h:R (.int .i64 (a*b)) A):fU P C X s0 n nt (.bin .mul t d x y) env A R:=.mk fun s hs=>Vb hx hy hr ⟨A,hs,h⟩
theorem pU{a b:Int}(hx:xv env x=some (.int .i64 a))(hy:xv env y=some (.int .i64 b))(h0:b≠0)(hr:-9223372036854775808<=a.tdiv b/\a.tdiv b<9223372036854775808)(h:R (.int .i64 (a.tdiv b)) A):fU P C X s0 n nt (.bin .quo t d x y) env A R:=.mk fun s hs=>Vc hx hy h0 hr ⟨A,hs,h⟩
theorem vZ{a b:Int}(hx:xv env x=some (.int .i64 a))(hy:xv env y=some (.int .i64 b))(h0:b≠0)(h:R (.int .i64 (a.tmod b)) A):fU P C X s0 n nt (.bin .rem t d x y) env A R:=.mk fun s hs=>Vd hx hy h0 ⟨A,hs,h⟩
theorem W5{a b:Int}(hx:xv env x=some (.int k a))(hy:xv env y=some (.int k b))(h1:a<b->R (.bool true) A)(h2:¬a<b->R (.bool false) A):fU P C X s0 n nt (.bin .lss t d x y) env A R:=.mk fun s hs=>Ve hx hy (fun h=>⟨A,hs,h1 h⟩) (fun h=>⟨A,hs,h2 h⟩)
theorem dL{a b:Int}(hx:xv env x=some (.int k a))(hy:xv env y=some (.int k b))(h1:b<a->R (.bool true) A)(h2:¬b<a->R (.bool false) A):fU P C X s0 n nt (.bin .gtr t d x y) env A R:=.mk fun s hs=>Vf hx hy (fun h=>⟨A,hs,h1 h⟩) (fun h=>⟨A,hs,h2 h⟩)
theorem fA{a b:Int}(hx:xv env x=some (.int k a))(hy:xv env y=some (.int k b))(h1:a<=b->R (.bool true) A)(h2:¬a<=b->R (.bool false) A):fU P C X s0 n nt (.bin .leq t d x y) env A R:=.mk fun s hs=>Vg hx hy (fun h=>⟨A,hs,h1 h⟩) (fun h=>⟨A,hs,h2 h⟩)
theorem zD{a b:Int}(hx:xv env x=some (.int k a))(hy:xv env y=some (.int k b))(h1:b<=a->R (.bool true) A)(h2:¬b<=a->R (.bool false) A):fU P C X s0 n nt (.bin .geq t d x y) env A R:=.mk fun s hs=>Vh hx hy (fun h=>⟨A,hs,h1 h⟩) (fun h=>⟨A,hs,h2 h⟩)
theorem bJ{a b:Int}(hx:xv env x=some (.int k a))(hy:xv env y=some (.int k b))(h1:a=b->R (.bool true) A)(h2:¬a=b->R (.bool false) A):fU P C X s0 n nt (.bin .eql t d x y) env A R:=.mk fun s hs=>Vi hx hy (fun h=>⟨A,hs,h1 h⟩) (fun h=>⟨A,hs,h2 h⟩)
theorem V3{a b:Int}(hx:xv env x=some (.int k a))(hy:xv env y=some (.int k b))(h1:¬a=b->R (.bool true) A)(h2:a=b->R (.bool false) A):fU P C X s0 n nt (.bin .neq t d x y) env A R:=.mk fun s hs=>Vj hx hy (fun h=>⟨A,hs,h1 h⟩) (fun h=>⟨A,hs,h2 h⟩)
theorem Wk{u:UnOp}{v r:Value}(hx:xv env x=some v)(hr:ev1 P (Op.unary u) v=some r)(h:R r A):fU P C X s0 n nt (.un u x) env A R:=.mk fun s hs=>Vk hx hr ⟨A,hs,h⟩
theorem U6{b:Bool}(hx:xv env x=some (.bool b))(h:R (.bool (!b)) A):fU P C X s0 n nt (.un .not x) env A R:=.mk fun s hs=>Vk hx rfl ⟨A,hs,h⟩
theorem xO{a b:Nat}{v r:Value}(hx:xv env x=some v)(hr:ev1 P (convert a b) v=some r)(h:R r A):fU P C X s0 n nt (.conv a b x) env A R:=.mk fun s hs=>SY hx hr ⟨A,hs,h⟩
theorem Vo{b:Builtin}{ts:Array Nat}{l:List Ev.X}{r:Value}(hx:B5 env l=some vs)(hr:evBi P b ts t vs=some r)(h:R r A):fU P C X s0 n nt (.bi b ts t l) env A R:=.mk fun s hs=>Wj hx hr ⟨A,hs,h⟩
theorem Z4{f:Ev.X}{l:List Ev.X}{g:Nat}{p c vs:List Value}{Qg:Value->List Ob->Prop}(hf:xv env f=some (.func (.func g) ⟨p⟩ ⟨c⟩))(hl:B5 env l=some vs)(hg:∀s,iK s0 A s->bS P C X n g (p++(vs++c)) s Qg)(h:∀v A',Qg v A'->R v (A'++A)):fU P C X s0 n nt (.call f l) env A R:=.mk fun s hs=>
 JE hf hl ((hg s hs).mono (fun v s' hq=>by obtain⟨A',h1,h2⟩:=hq;exact⟨_,hs.call h1,h v A' h2⟩))
end
/-! Results. -/
def AZ(s0:St):List CRes->List (Nat×Value)->List Ob->List Value->Prop
 |[],_,_,vs=>vs=[]
 | .tmp t::l,env,A,vs=>∃v vs',vs=v::vs'/\look env t=some v/\AZ s0 l env A vs'
 | .cell a none::l,env,A,vs=>∃b o v vs',vs=v::vs'/\look env a=some (.pointer (some ⟨b,o,none⟩))/\(∃e op l,lK A b e op l/\l[o]? = some v)/\AZ s0 l env A vs'
 | .cell a (some n)::l,env,A,vs=>∃b o r vs',vs = .agg ⟨r⟩::vs'/\look env a=some (.pointer (some ⟨b,o,none⟩))/\n≠0/\(∃e op l,lK A b e op l/\iA l o n=some r)/\AZ s0 l env A vs'
theorem AZ.e{s:St}(hs:iK s0 A s):∀{l:List CRes} {vs:List Value},AZ s0 l env A vs->DX l env s vs
 |[],_,h=>h
 | .tmp t::l,_,h=>by
  obtain⟨v,vs',h1,h2,h3⟩:=h;exact⟨v,vs',h1,h2,h3.e hs⟩
 | .cell a none::l,_,h=>by
  obtain⟨b,o,v,vs',h1,h2,⟨e,op,l',h4,h5⟩,h3⟩:=h;exact⟨b,o,v,vs',h1,h2,(hs.own h4).at h5,h3.e hs⟩
 | .cell a (some n)::l,_,h=>by
  obtain⟨b,o,v,vs',h1,h2,h0,⟨e,op,l',h4,h5⟩,h3⟩:=h;exact⟨b,o,v,vs',h1,h2,(gO h5).1,h0,(hs.own h4).ats (gO h5).2,h3.e hs⟩
def Im(s0:St)(res:List CRes)(Q:Value->List Ob->Prop):iL->List (Nat×Value)->List Nat->List Ob->Prop
 | .normal,e,D,A=>D=[]/\∃vs A',AZ s0 res e A vs/\A'.Sublist A/\Q (one vs) A'
 | .ret,e,D,A=>D=[]/\∃vs A',AZ s0 res e A vs/\A'.Sublist A/\Q (one vs) A'
 |_,_,_,_=>False
theorem enter{f:FuncId}{Q:Value->List Ob->Prop}{body:CC}{res:List CRes}(hC:∀k,k ⟨body,nt,res⟩=true->C f k=true)(hl:Nat.ble vs.length nt=true)(hw:Wf s)
 (h:eY P C X s n nt none body (sN 0 vs) [] [] (Im s res Q)):bS P C X (n+1) f vs s Q:=by
 refine Fp hC (by simpa using hl) ((h.go s (iK.start hw)).mono (fun x e D s' hq=>?_));obtain⟨A,h1,h2⟩:=hq;cases x with
 |normal=>obtain⟨hD,vs,A',h3,h4,h5⟩:=h2;exact⟨hD,vs,h3.e h1,A',h1.sub h4,h5⟩
 |ret=>obtain⟨hD,vs,A',h3,h4,h5⟩:=h2;exact⟨hD,vs,h3.e h1,A',h1.sub h4,h5⟩
 |exit i=>exact h2
 |goto i=>exact h2
theorem aU{Q:Value->List Ob->Prop}(ht:look env t=some v)(hq:Q v []):Im s0 [.tmp t] Q .ret env [] A:=⟨rfl,[v],[],⟨v,[],rfl,ht,rfl⟩,List.nil_sublist _,hq⟩
theorem pF{t u:Nat}{Q:Value->List Ob->Prop}{v w:Value}(ht:look env t=some v)(hu:look env u=some w)(hq:Q (.tuple #[v,w]) []):Im s0 [.tmp t,.tmp u] Q .ret env [] A:=⟨rfl,[v,w],[],⟨v,[w],rfl,ht,w,[],rfl,hu,rfl⟩,List.nil_sublist _,hq⟩
end
end
end Go.Proofs.YtjkdkpckjgaplaaGreat.Ev
