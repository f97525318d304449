import Derived.Test.YtjkdkpckjgaplaaGreatZl06
import Derived.KernelRfl
import Derived.Test.YtjkdkpckjgaplaaGreatZl07
set_option linter.unusedVariables false
set_option linter.unusedSimpArgs false
namespace Go.Proofs.YtjkdkpckjgaplaaGreat.Ev
open Go Go.RowKit
noncomputable section
variable{P:Program}{C:Nat->(CF->Bool)->Bool}{s0 s:St}{n nt g e m b size:Nat}{env:List (Nat×Value)}{A A':List Ob}{R:Value->List Ob->Prop}{f x y:Ev.X}{l c vs z more:List Value}{a:Int}{op:Bool}
def BM:List Value->List (Nat×Nat×Value)->Option (List Value)
 |l,[]=>some l
 |l,(o,n,v)::ps=>match v.cells with
  |⟨r⟩=>sel (Nat.beq r.length n && eZ r && Nat.ble o l.length) (match Du l o r with|some l'=>BM l' ps|none=>none) none
theorem Ax{m:Nat}:∀{ps:List (Nat×Nat×Value)} {l l':List Value} {c:BT Value} {k:BT Value->Bool},l.length=m->eE c m->(∀j,c.get j=l[j]?)->BM l ps=some l'->(∀c',eE c' m->(∀j,c'.get j=l'[j]?)->l'.length=m->k c'=true)->nS c ps k=true
 |[],l,l',c,k,hm,hf,hc,h,hk=>by cases h;exact hk c hf hc hm
 |(o,n,v)::ps,l,l',c,k,hm,hf,hc,h,hk=>by
  simp only[BM] at h;obtain⟨h1,h2⟩:=cV h;simp only[Bool.and_eq_true] at h1;obtain⟨⟨h3,h4⟩,h5⟩:=h1;obtain⟨r,hr⟩:∃r,v.cells=⟨r⟩:=⟨v.cells.toList,rfl⟩;have hr':v.cells.toList=r:=by rw[hr]
  split at h2
  ·rename_i l1 h6
   obtain⟨h7,h8⟩:=Au h6 (by simpa using h5);show @Array.rec Value (fun _=>Bool) (fun l=>ifB (Nat.beq (mK l) n) (ifB (eZ l) (fM c o l (fun c=>nS c ps k)) false) false) v.cells=true;rw[hr];show ifB (Nat.beq (mK r) n) (ifB (eZ r) (fM c o r (fun c=>nS c ps k)) false) false=true;rw[hr'] at h3 h4 h7 h8;rw[kK,h3,h4];refine nD hf oM (fun c' hf' hg=>Ax (l:=l1) (by rw[h7,lV h8];exact hm) hf' (fun j=>?_) h2 hk);rw[hg,h7,oX h8,hc]
  ·cases h2
theorem aI{X:FuncId->List Value->St->(Value->St->Bool)->Bool}{l:List Ev.X}{p c vs:List Value}{u:Value}
 (hf:xv env f=some (.func (.func g) ⟨p⟩ ⟨c⟩)) (hl:Cq env l=some vs) (hg:∀s,iP s0 A s->bX P C X n g (p++(vs++c)) s (fun v A'=>v=u/\A'=[])) (h:R u A):fT P C X s0 n nt (.call f l) env A R:=
 Z4 hf hl hg (fun v A' hq=>by obtain⟨rfl,rfl⟩:=hq;exact h)
theorem bB{X:FuncId->List Value->St->(Value->St->Bool)->Bool}{l:List Ev.X}{pp c vs:List Value}{p:Prop}[Decidable p]
 (hf:xv env f=some (.func (.func g) ⟨pp⟩ ⟨c⟩)) (hl:Cq env l=some vs) (hg:∀s,iP s0 A s->bX P C X n g (pp++(vs++c)) s (fun v A'=>v = .bool (decide p)/\A'=[])) (h1:p->R (.bool true) A) (h2:¬p->R (.bool false) A):fT P C X s0 n nt (.call f l) env A R:=
 Z4 hf hl hg (fun v A' hq=>by
  obtain⟨rfl,rfl⟩:=hq;by_cases h:p
  ·rw[decide_eq_true h];exact h1 h
  ·rw[decide_eq_false h];exact h2 h)
theorem iQ{X:FuncId->List Value->St->(Value->St->Bool)->Bool}{l:List Ev.X}{pp c vs:List Value}{p:Prop}[Decidable p]{x y:Int}
 (hf:xv env f=some (.func (.func g) ⟨pp⟩ ⟨c⟩)) (hl:Cq env l=some vs) (hg:∀s,iP s0 A s->bX P C X n g (pp++(vs++c)) s (fun v A'=>v = .int .i64 (if p then x else y)/\A'=[])) (h1:p->R (.int .i64 x) A) (h2:¬p->R (.int .i64 y) A):fT P C X s0 n nt (.call f l) env A R:=
 Z4 hf hl hg (fun v A' hq=>by
  obtain⟨rfl,rfl⟩:=hq;by_cases h:p
  ·rw[if_pos h];exact h1 h
  ·rw[if_neg h];exact h2 h)
structure RowsE(s:St)(w:Nat)(a:Option Addr)(rs:List (List Int)):Prop where
 spot:∀b,a=some b->b.spot=none
 addr:rs≠[]->∃b o,a=some ⟨b,o,none⟩
 cells:∀b o,a=some ⟨b,o,none⟩->∀i r,rs[i]? = some r->pK s b (o+i*w) (r.map (.int .i64))
 width:∀r∈rs,r.length=w
 fit:∀r∈rs,∀x∈r,-9223372036854775808<=x/\x<9223372036854775808
 len:rs.length<140737488355328
theorem RowsE.row{w:Nat}{a:Option Addr}{rs:List (List Int)}(h:RowsE s w a rs){k:Nat}(hk:k<rs.length):∃b o r,a=some ⟨b,o,none⟩/\rs[k]? = some r/\r.length=w/\pK s b (o+k*w) (r.map (.int .i64))/\∀x∈r,-9223372036854775808<=x/\x<9223372036854775808:=by
 obtain⟨b,o,ha⟩:=h.addr (by intro e;rw[e] at hk;simp at hk);have hm:rs[k]∈rs:=List.getElem_mem hk;exact⟨b,o,rs[k],ha,List.getElem?_eq_getElem hk,h.width _ hm,h.cells b o ha k _ (List.getElem?_eq_getElem hk),h.fit _ hm⟩
theorem RowsE.ext{s s':St}{w:Nat}{a:Option Addr}{rs:List (List Int)}(h:RowsE s w a rs)(hw:Wf s)(x:sX s s'):RowsE s' w a rs:=
 ⟨h.spot,h.addr,fun b o ha i r hr=>(h.cells b o ha i r hr).ext hw x,h.width,h.fit,h.len⟩
theorem bA{α:Type}{l:List α}(h:l.length=n+1):∃x r,l=x::r/\r.length=n:=by
 cases l with
 |nil=>simp at h
 |cons x r=>exact⟨x,r,rfl,by simpa using h⟩
section
variable{P:Program}{C:Nat->(CF->Bool)->Bool}{X:FuncId->List Value->St->(Value->St->Bool)->Bool}{s0:St}{n nt:Nat}{env:List (Nat×Value)}{A:List Ob}{R:Value->List Ob->Prop}
theorem Z6{ps:List (Nat×Nat×Ev.X)}{vs:List (Nat×Nat×Value)}(hp:Sk env ps=some vs)(hf:BM z vs=some l)(h:R (.agg ⟨l⟩) A):fT P C X s0 n nt (.build z ps) env A R:=.mk fun s hs T hT k hk=>by
 refine wL hT (k:=fun ps=>rD z ps (vK s k)) hp ?_;unfold rD;refine iL (fun c hc hg=>Ax rfl hc hg hf (fun c' hc' hg' hl=>?_));exact sL (k:=fun l=>vK s k (.agg ⟨l⟩)) (l:=l) (by rw[hl,kK]) (fun j _=>by rw[Nat.zero_add];exact hg' j) (hk _ _ ⟨A,hs,h⟩)
theorem bF{e len m:Nat}{ps:List (Nat×Nat×Ev.X)}{vs:List (Nat×Nat×Value)}(hp:Sk env ps=some vs)(hf:BM z vs=some l)(hm:Nat.beq z.length m=true)(h:∀b,R (.slice (some ⟨b,0,none⟩) len len) (.row b e false l::A)):fT P C X s0 n nt (.lit e len m z ps) env A R:=.mk fun s hs T hT k hk=>by
 refine wL hT (k:=fun ps=>C6 s e len m z ps k) hp ?_;unfold C6;have hm':z.length=m:=by simpa using hm
 refine iL (fun c hc hg=>Ax rfl hc hg hf (fun c' hc' hg' hl=>kP ?_));exact gE (l:=l) (by rw[hl,hm']) hs.wf (by rw[hl];exact hc') hg' (fun s' x _ ho=>hk _ _ ⟨_,hs.new x ho,h s.n⟩)
theorem Dx{ts:Array Nat}{t:Nat}{k:IntKind}{a b:Int}(hx:Cq env [x,y]=some [.int k a,.int k b])(h:R (.int k (max a b)) A):fT P C X s0 n nt (.bi .max ts t [x,y]) env A R:=
 Tw hx (r:=.int k (max a b)) (by
  have:evBi P .max ts t [.int k a,.int k b]=some (.int k (if b>a then b else a)):=rfl;rw[this];congr 2;by_cases hab:b>a
  ·rw[if_pos hab];omega
  ·rw[if_neg hab];omega) h
theorem qS{ts:Array Nat}{t:Nat}{k:IntKind}{a b:Int}(hx:Cq env [x,y]=some [.int k a,.int k b])(h:R (.int k (min a b)) A):fT P C X s0 n nt (.bi .min ts t [x,y]) env A R:=
 Tw hx (r:=.int k (min a b)) (by
  have:evBi P .min ts t [.int k a,.int k b]=some (.int k (if b<a then b else a)):=rfl;rw[this];congr 2;by_cases hab:b<a
  ·rw[if_pos hab];omega
  ·rw[if_neg hab];omega) h
theorem xQ(hx:xv env x=some (.int .i64 a))(hr:-9223372036854775808<a/\a<9223372036854775808)(h:R (.int .i64 (-a)) A):fT P C X s0 n nt (.un .neg x) env A R:=
 Uw hx (r:=.int .i64 (-a)) (by
  have:ev1 P (Op.unary .neg) (.int .i64 a)=some (.int .i64 (IntKind.i64.wrap (0-a))):=rfl;rw[this,IntWalk.i64_in _ oM];congr 2;omega) h
theorem bM{r:Option Nat}{D:List Nat}{b:CC}{Q:iH->List (Nat×Value)->List Nat->List Ob->Prop}(h:fC P C X s0 n nt r b env D A (xN (fun e D A=>fC P C X s0 n nt r (.loop b) e D A Q) Q)):fC P C X s0 (n+1) nt r (.loop b) env D A Q:=.mk fun s hs T hT k hk=>by
 show(dJ P C X n).code r b T D s (fun x T D s=>jZ x ((dJ P C X n).code r (.loop b) T D s k) (k x T D s) (fun _=>k x T D s) (fun _=>k x T D s))=true;refine h.go s hs T hT _ (fun x e T' D' s' hT' hq=>?_);obtain⟨A',h1,h2⟩:=hq;cases x with
 |normal=>exact h2.go s' h1 T' hT' k hk
 |ret=>exact hk _ _ T' D' s' hT' ⟨A',h1,h2⟩
 |exit i=>exact hk _ _ T' D' s' hT' ⟨A',h1,h2⟩
 |goto i=>exact hk _ _ T' D' s' hT' ⟨A',h1,h2⟩
/-! Appends. -/
inductive tO:List Ob->Nat->Nat->Bool->List Value->List Ob->Prop where
 |here {b e:Nat} {op:Bool} {l:List Value} {A:List Ob}:tO (.row b e op l::A) b e op l A
 |next {x:Ob} {b e:Nat} {op:Bool} {l:List Value} {A A':List Ob} (h:tO A b e op l A'):tO (x::A) b e op l (x::A')
section
variable{x0 x1 x2 x3 x4 x5 x6 x7 x8:Ob}{b e:Nat}{op:Bool}{l:List Value}{A:List Ob}
theorem tO.h1:tO (x0::.row b e op l::A) b e op l (x0::A):=.next .here
theorem tO.h2:tO (x0::x1::.row b e op l::A) b e op l (x0::x1::A):=.next .h1
theorem tO.h3:tO (x0::x1::x2::.row b e op l::A) b e op l (x0::x1::x2::A):=.next .h2
theorem tO.h4:tO (x0::x1::x2::x3::.row b e op l::A) b e op l (x0::x1::x2::x3::A):=.next .h3
theorem tO.h5:tO (x0::x1::x2::x3::x4::.row b e op l::A) b e op l (x0::x1::x2::x3::x4::A):=.next .h4
theorem tO.h6:tO (x0::x1::x2::x3::x4::x5::.row b e op l::A) b e op l (x0::x1::x2::x3::x4::x5::A):=.next .h5
theorem tO.h7:tO (x0::x1::x2::x3::x4::x5::x6::.row b e op l::A) b e op l (x0::x1::x2::x3::x4::x5::x6::A):=.next .h6
theorem tO.h8:tO (x0::x1::x2::x3::x4::x5::x6::x7::.row b e op l::A) b e op l (x0::x1::x2::x3::x4::x5::x6::x7::A):=.next .h7
theorem tO.h9:tO (x0::x1::x2::x3::x4::x5::x6::x7::x8::.row b e op l::A) b e op l (x0::x1::x2::x3::x4::x5::x6::x7::x8::A):=.next .h8
end
theorem tO.own(h:tO A b e op l A'):lK A b e op l:=by
 induction h with
 |here=>exact .here
 |next _ ih=>exact .next ih
theorem tO.sub(h:tO A b e op l A'):A'.Sublist A:=by
 induction h with
 |here=>exact List.sublist_cons_self _ _
 |next _ ih=>exact ih.cons_cons _
theorem pZ.del{base:Nat}(h:tO A b e op l A'):pZ base s A->∀y∈A',y.b≠b:=by
 induction h with
 |here=>exact fun h=>h.2.2.1
 |next hd ih=>
  intro h y hy;rcases List.mem_cons.1 hy with rfl|hy
  ·exact Ne.symm (h.2.2.1 _ hd.own.mem)
  ·exact ih h.2.2.2 y hy
theorem Dy{e size len n:Nat}{more old:List Value}{k:Value->St->Bool}(hw:Wf s)(ho:old.length=len*size)(hm:more.length=n*size)(hk:∀s',sX s s'->s'.n=s.n+1->Obj s' s.n e true (old++more)->k (.slice (some ⟨s.n,0,none⟩) (len+n) OPEN) s'=true):tB s e size len n more old k=true:=by
 unfold tB;refine iL (fun c hc hg=>?_);refine rM (n:=len*size) (by rw[<-ho];exact hc) (fun c' hc' hg'=>kP ?_);rw[bG];have hl:(old++more).length=(len+n)*size:=by rw[List.length_append,ho,hm,Nat.add_mul]
 refine gE (l:=old++more) hl.symm hw (by rw[List.length_append,ho];exact hc') (fun j=>?_) (fun s' x hn hob=>?_)
 ·rw[hg']
  by_cases h1:len*size<=j/\j<len*size+more.length
  ·rw[if_pos h1,List.getElem?_append_right oM,ho]
  ·rw[if_neg h1,hg]
   by_cases h2:j<old.length
   ·rw[List.getElem?_append_left h2]
   ·rw[List.getElem?_eq_none oM,List.getElem?_eq_none (by simp;omega)]
 ·rw[bG];exact hk s' x hn hob
def fK(s0:St)(A:List Ob)(size n:Nat)(more:List Value)(y:Value):Prop:=
 ∃b o c,y = .slice (some ⟨b,o,none⟩) n c/\more.length=n*size/\more≠[]/\((∃e op l,lK A b e op l/\jD l o more.length=some more)∨pK s0 b o more)
theorem rR(hs:iP s0 A s){size n':Nat}{y:Value}{k:Nat->List Value->Bool}(h:fK s0 A size n' more y)(hk:k n' more=true):Fm s size z false y k=true:=by
 obtain⟨b,o,c,rfl,h1,h0,h2⟩:=h;have ha:pK s b o more:=by
  rcases h2 with ⟨e,op,l,h3,h4⟩|h3
  ·exact(hs.own h3).ats (jP h4).2
  ·exact hs.ats h3
 obtain⟨f,h5,h6⟩:=ha.see h0;have hn0:n'≠0:=fun e=>h0 (List.eq_nil_of_length_eq_zero (by rw[h1,e,Nat.zero_mul]))
 show ifB (Nat.beq n' 0) (k 0 []) (tH s b (fun c=>mJ c o (Nat.mul n' size) (fun l=>k n' l)) (fun g=>fY g o (Nat.mul n' size) (fun l=>k n' l)))=true;rw[uT hn0];show tH s b (fun c=>mJ c o (Nat.mul n' size) (fun l=>k n' l)) (fun g=>fY g o (Nat.mul n' size) (fun l=>k n' l))=true;refine Cn h5 (fun c hc=>?_) ?_
 ·subst hc;exact sL (k:=fun l=>k n' l) h1 (fun j hj=>h6 j (by rw[h1];exact hj)) hk
 ·exact tN (k:=fun l=>k n' l) h1 (fun j hj=>h6 j (by rw[h1];exact hj)) hk
theorem gZ{e size bytes m:Nat}{yv:Value}(hx:xv env x=some (.slice none 0 0))(hy:xv env y=some yv)(hsrc:fK s0 A size m more yv)(hm:m≠0)(hb1:m<=1048576)(hb2:bytes*m<=1073741824)
 (h:∀b,R (.slice (some ⟨b,0,none⟩) m OPEN) (.row b e true more::A)):fT P C X s0 n nt (.app e size bytes z false x y) env A R:=.mk fun s hs T hT k hk=>by
 refine U5 hT (k:=fun x=>bO T y (fun y=>kX s e size bytes z false x y k)) hx (U5 hT (k:=fun y=>kX s e size bytes z false _ y k) hy ?_);unfold kX;refine rR hs hsrc ?_;obtain⟨_,_,_,_,hml,_⟩:=hsrc;show ifB (Nat.beq 0 0) (ifB (Nat.beq 0 0) (ifB (Nat.beq m 0) _ (ifB (Nat.ble m 1048576) (ifB (Nat.ble (Nat.mul bytes m) 1073741824) _ false) false)) false) false=true;rw[show Nat.beq 0 0=true from rfl,uT hm,show Nat.ble m 1048576=true from by rw[Nat.ble_eq];exact hb1,show Nat.ble (Nat.mul bytes m) 1073741824=true from by rw[Nat.ble_eq];exact hb2];show eY .leaf 0 more _=true;refine iL (fun c hc hg=>kP ?_);rw[bG];exact gE (l:=more) hml.symm hs.wf hc hg (fun s' xx _ ho=>hk _ _ ⟨_,hs.new xx ho,h s.n⟩)
def xR(op:Bool)(len cap:Nat):Prop:=(op=true/\cap=OPEN)∨(op=false/\cap=len/\len<OPEN)
theorem cO{e size bytes b len cap m:Nat}{yv:Value}(hx:xv env x=some (.slice (some ⟨b,0,none⟩) len cap))(hy:xv env y=some yv)(hsrc:fK s0 A size m more yv)(hd:tO A b e op l A')(hl:l.length=len*size)(ht:xR op len cap)(hm:m≠0)(hb1:len+m<=1048576)(hb2:bytes*(len+m)<=1073741824)
 (h:∀b,R (.slice (some ⟨b,0,none⟩) (len+m) OPEN) (.row b e true (l++more)::A')):fT P C X s0 n nt (.app e size bytes z false x y) env A R:=.mk fun s hs T hT k hk=>by
 refine U5 hT (k:=fun x=>bO T y (fun y=>kX s e size bytes z false x y k)) hx (U5 hT (k:=fun y=>kX s e size bytes z false _ y k) hy ?_);unfold kX;refine rR hs hsrc ?_;obtain⟨_,_,_,_,hml,hm0,_⟩:=hsrc;have hsz:size≠0:=by
  rintro rfl
  apply hm0;exact List.eq_nil_of_length_eq_zero (by simpa using hml)
 by_cases hc0:cap=0
 ·rcases ht with ⟨_,h1⟩|⟨h1,h2,h3⟩
  ·rw[hc0] at h1;cases h1
  ·subst h1
   subst h2;subst hc0;have hl0:l=[]:=List.eq_nil_of_length_eq_zero (by rw[hl,Nat.zero_mul]);subst hl0;show ifB (Nat.beq m 0) _ (ifB (Nat.ble m 1048576) (ifB (Nat.ble (Nat.mul bytes m) 1073741824) _ false) false)=true;rw[uT hm,show Nat.ble m 1048576=true from by rw[Nat.ble_eq];omega,show Nat.ble (Nat.mul bytes m) 1073741824=true from by rw[Nat.ble_eq];rw[Nat.zero_add] at hb2;exact hb2];show eY .leaf 0 more _=true;rw[Nat.zero_add] at h;refine iL (fun c hc hg=>kP ?_);rw[bG];exact gE (l:=more) hml.symm hs.wf hc hg (fun s' xx _ ho=>hk _ _ ⟨_,(hs.sub hd.sub).new xx ho,h s.n⟩)
 show ifB (Nat.beq cap 0) _ (ifB (Nat.ble (Nat.add len m) 1048576) (ifB (Nat.ble (Nat.mul bytes (Nat.add len m)) 1073741824) (eR s e size b 0 len cap m more k) false) false)=true;rw[uT hc0];show ifB (Nat.ble (Nat.add len m) 1048576) (ifB (Nat.ble (Nat.mul bytes (Nat.add len m)) 1073741824) (eR s e size b 0 len cap m more k) false) false=true;rw[show Nat.ble (Nat.add len m) 1048576=true from by rw[Nat.ble_eq];exact hb1,show Nat.ble (Nat.mul bytes (Nat.add len m)) 1073741824=true from by rw[Nat.ble_eq];exact hb2];show eR s e size b 0 len cap m more k=true;obtain⟨c,hc,hf,hg⟩:=hs.own hd.own;unfold eR;refine fE (k:=_) hc ?_;have hee:Nat.beq e e=true:=by rw[Nat.beq_eq]
 rcases ht with ⟨rfl,rfl⟩|⟨rfl,rfl,hlt⟩
 ·show ifB (Nat.beq e e) (ifB (Nat.ble OPEN OPEN) (ifB true (ifB (Nat.beq 0 0) (ifB (Nat.beq OPEN OPEN) (ifB (Nat.ble (Nat.mul (Nat.add len m) size) l.length) _ (ifB (Nat.beq (Nat.mul len size) l.length) _ false)) false) false) false) _) false=true
  have hnot:Nat.ble (Nat.mul (Nat.add len m) size) l.length=false:=by
   cases hb:Nat.ble (Nat.mul (Nat.add len m) size) l.length with
   |false=>rfl
   |true=>
    have h1:(len+m)*size<=l.length:=by simpa using hb
    rw[hl,Nat.add_mul] at h1;have:0<m*size:=Nat.mul_pos oM oM;omega
  rw[hee,hnot,show Nat.ble OPEN OPEN=true from by rw[Nat.ble_eq];exact Nat.le_refl _,show Nat.beq 0 0=true from rfl,show Nat.beq OPEN OPEN=true from by rw[Nat.beq_eq],show Nat.beq (Nat.mul len size) l.length=true from by rw[Nat.beq_eq];exact hl.symm];show eY c (Nat.mul len size) more _=true;refine rM (n:=len*size) (by rw[<-hl];exact hf) (fun c' hc' hg'=>kP ?_);refine eX hs.wf (eE.lt hs.wf hc) (fun s1 hm1 hn1 hd1=>?_);rw[bG];have hll:(l++more).length=(len+m)*size:=by rw[List.length_append,hl,hml,Nat.add_mul]
  have hlow:=(hs.2.2.lt hs.wf _ hd.own.mem).2;have hs1:iP s0 A' s1:=⟨hs.1,hs.2.1.mod hm1 (fun i hi=>(List.mem_singleton.1 hi) ▸ hlow),(hs.2.2.sub hd.sub).mod hs.wf hm1 (pZ.del hd hs.2.2)⟩;rw[show s.n=s1.n from hn1.symm];refine gE (l:=l++more) hll.symm hm1.1 (by rw[List.length_append,hl];exact hc') (fun j=>?_) (fun s2 x2 _ ho2=>?_)
  ·rw[hg']
   by_cases h1:len*size<=j/\j<len*size+more.length
   ·rw[if_pos h1,List.getElem?_append_right oM,hl]
   ·rw[if_neg h1,hg]
    by_cases h2:j<l.length
    ·rw[List.getElem?_append_left h2]
    ·rw[List.getElem?_eq_none oM,List.getElem?_eq_none (by simp;omega)]
  ·rw[bG]
   exact hk _ _ ⟨_,hs1.new x2 ho2,h s1.n⟩
 ·show ifB (Nat.beq e e) (ifB (Nat.ble OPEN cap) _ (ifB (Nat.ble (Nat.add cap m) cap) _ (mJ c 0 (Nat.mul cap size) (fun old=>tB s e size cap m more old k)))) false=true
  rw[hee,show Nat.ble OPEN cap=false from by
   cases hb:Nat.ble OPEN cap with
   |false=>rfl
   |true=>rw[Nat.ble_eq] at hb;omega,show Nat.ble (Nat.add cap m) cap=false from by
   cases hb:Nat.ble (Nat.add cap m) cap with
   |false=>rfl
   |true=>rw[Nat.ble_eq] at hb;have:cap+m<=cap:=hb;omega]
  show mJ c 0 (Nat.mul cap size) (fun old=>tB s e size cap m more old k)=true;refine sL (l:=l) hl (fun j _=>by rw[Nat.zero_add];exact hg j) (Dy hs.wf hl hml (fun s' x2 _ ho2=>hk _ _ ⟨_,(hs.sub hd.sub).new x2 ho2,h s.n⟩))
end
end
end Go.Proofs.YtjkdkpckjgaplaaGreat.Ev
namespace Go.Proofs.YtjkdkpckjgaplaaGreat.Ev
open Go Go.RowKit
noncomputable section
variable{A A' A2:List Ob}{x y:Ob}{base g ng q l:Nat}{s s' s0:St}{T:BT Value}{res:List CRes}{vs p c:List Value}{Q R:Value->List Ob->Prop}{body b a:CC}{f:Ev.X}{v w:Value}{i:Int}{es:List (Int×Value)}{ps:List Nat}
inductive jJ:List Ob->Ob->Ob->List Ob->Prop where
 |here {x y:Ob} {A:List Ob}:jJ (x::A) x y (y::A)
 |next {x y z:Ob} {A A':List Ob} (h:jJ A x y A'):jJ (z::A) x y (z::A')
section
variable{x0 x1 x2 x3 x4 x5 x6 x7 x8:Ob}{x y:Ob}{A:List Ob}
theorem jJ.h1:jJ (x0::x::A) x y (x0::y::A):=.next .here
theorem jJ.h2:jJ (x0::x1::x::A) x y (x0::x1::y::A):=.next .h1
theorem jJ.h3:jJ (x0::x1::x2::x::A) x y (x0::x1::x2::y::A):=.next .h2
theorem jJ.h4:jJ (x0::x1::x2::x3::x::A) x y (x0::x1::x2::x3::y::A):=.next .h3
theorem jJ.h5:jJ (x0::x1::x2::x3::x4::x::A) x y (x0::x1::x2::x3::x4::y::A):=.next .h4
theorem jJ.h6:jJ (x0::x1::x2::x3::x4::x5::x::A) x y (x0::x1::x2::x3::x4::x5::y::A):=.next .h5
theorem jJ.h7:jJ (x0::x1::x2::x3::x4::x5::x6::x::A) x y (x0::x1::x2::x3::x4::x5::x6::y::A):=.next .h6
theorem jJ.h8:jJ (x0::x1::x2::x3::x4::x5::x6::x7::x::A) x y (x0::x1::x2::x3::x4::x5::x6::x7::y::A):=.next .h7
theorem jJ.h9:jJ (x0::x1::x2::x3::x4::x5::x6::x7::x8::x::A) x y (x0::x1::x2::x3::x4::x5::x6::x7::x8::y::A):=.next .h8
end
theorem jJ.mem(h:jJ A x y A'):x∈A:=by
 induction h with
 |here=>simp
 |next _ ih=>simp[ih]
theorem jJ.blocks(h:jJ A x y A')(hb:y.b=x.b):A'.map (·.b)=A.map (·.b):=by
 induction h with
 |here=>simp[hb]
 |next _ ih=>simp[ih hb]
theorem pZ.is:∀{A:List Ob},pZ base s A->∀{x:Ob},x∈A->x.Is s
 |[],_,_,h=>by cases h
 |y::A,⟨_,h2,_,h4⟩,x,h=>by
  rcases List.mem_cons.1 h with rfl|h
  ·exact h2
  ·exact h4.is h
theorem pZ.putO(hw:Wf s)(h:jJ A x y A')(hb:y.b=x.b)(m:HS s s' [x.b])(ho:y.Is s'):pZ base s A->pZ base s' A':=by
 induction h with
 |here=>exact fun ⟨h1,h2,h3,h4⟩=>⟨by rw[hb];exact h1,ho,by rw[hb];exact h3,h4.mod hw m h3⟩
 |next hu ih=>
  rintro⟨h1,h2,h3,h4⟩;refine⟨h1,h2.mod hw m ?_,BL (hu.blocks hb) h3,ih hb m ho h4⟩;have:=h3 _ hu.mem;simpa using Ne.symm this
theorem iP.putO(h:iP s0 A s)(u:jJ A x y A')(hb:y.b=x.b)(m:HS s s' [x.b])(ho:y.Is s'):iP s0 A' s':=
 ⟨h.1,h.2.1.mod m (by
  intro i hi;have:i=x.b:=by simpa using hi
  subst this;exact(h.2.2.lt h.wf _ u.mem).2),h.2.2.putO h.wf u hb m ho⟩
inductive gG:List Ob->Ob->List Ob->Prop where
 |here {x:Ob} {A:List Ob}:gG (x::A) x A
 |next {x z:Ob} {A A':List Ob} (h:gG A x A'):gG (z::A) x (z::A')
section
variable{x0 x1 x2 x3 x4 x5 x6 x7 x8:Ob}{x:Ob}{A:List Ob}
theorem gG.h1:gG (x0::x::A) x (x0::A):=.next .here
theorem gG.h2:gG (x0::x1::x::A) x (x0::x1::A):=.next .h1
theorem gG.h3:gG (x0::x1::x2::x::A) x (x0::x1::x2::A):=.next .h2
theorem gG.h4:gG (x0::x1::x2::x3::x::A) x (x0::x1::x2::x3::A):=.next .h3
theorem gG.h5:gG (x0::x1::x2::x3::x4::x::A) x (x0::x1::x2::x3::x4::A):=.next .h4
theorem gG.h6:gG (x0::x1::x2::x3::x4::x5::x::A) x (x0::x1::x2::x3::x4::x5::A):=.next .h5
theorem gG.h7:gG (x0::x1::x2::x3::x4::x5::x6::x::A) x (x0::x1::x2::x3::x4::x5::x6::A):=.next .h6
theorem gG.h8:gG (x0::x1::x2::x3::x4::x5::x6::x7::x::A) x (x0::x1::x2::x3::x4::x5::x6::x7::A):=.next .h7
theorem gG.h9:gG (x0::x1::x2::x3::x4::x5::x6::x7::x8::x::A) x (x0::x1::x2::x3::x4::x5::x6::x7::x8::A):=.next .h8
end
theorem gG.mem(h:gG A x A'):x∈A:=by
 induction h with
 |here=>simp
 |next _ ih=>simp[ih]
theorem gG.sub(h:gG A x A'):A'.Sublist A:=by
 induction h with
 |here=>exact List.sublist_cons_self _ _
 |next _ ih=>exact ih.cons_cons _
theorem pZ.delO(h:gG A x A'):pZ base s A->∀y∈A',y.b≠x.b:=by
 induction h with
 |here=>exact fun h=>h.2.2.1
 |next hd ih=>
  intro h y hy;rcases List.mem_cons.1 hy with rfl|hy
  ·exact Ne.symm (h.2.2.1 _ hd.mem)
  ·exact ih h.2.2.2 y hy
theorem iP.delO(h:iP s0 A s)(u:gG A x A')(m:HS s s' [x.b]):iP s0 A' s':=
 ⟨h.1,h.2.1.mod m (by
  intro i hi;have:i=x.b:=by simpa using hi
  subst this;exact(h.2.2.lt h.wf _ u.mem).2),(h.2.2.sub u.sub).mod h.wf m (pZ.delO u h.2.2)⟩
inductive yD:List Ob->List Nat->List Ob->Prop where
 |nil {A:List Ob}:yD A [] A
 |cons {q:Nat} {D:List Nat} {A A1 A2:List Ob} (h:gG A (.dfr q) A1) (k:yD A1 D A2):yD A (q::D) A2
theorem iP.add(h:iP s0 A s)(x:sX s s')(hb:y.b=s.n)(ho:y.Is s'):iP s0 (y::A) s':=
 ⟨h.1,h.2.1.trans x,by rw[hb];exact h.2.1.2.1,ho,fun z hz=>by have:=(h.2.2.lt h.wf z hz).1;omega,h.2.2.ext h.wf x⟩
section
variable{P:Program}{C:Nat->(CF->Bool)->Bool}{X:FuncId->List Value->St->(Value->St->Bool)->Bool}{s0:St}{n nt:Nat}{env:List (Nat×Value)}{D:List Nat}{A:List Ob}
def uV(s0:St)(res:List CRes)(Q:Value->List Ob->Prop):iH->List (Nat×Value)->List Nat->List Ob->Prop
 | .normal,e,D,A=>∃A2 vs A',yD A D A2/\Av s0 res e A2 vs/\A'.Sublist A2/\Q (one vs) A'
 | .ret,e,D,A=>∃A2 vs A',yD A D A2/\Av s0 res e A2 vs/\A'.Sublist A2/\Q (one vs) A'
 |_,_,_,_=>False
theorem EV{e:List (Nat×Value)}{k:Value->St->Bool}(hT:yB nt T e)(hd:yD A D A2)(hr:Av s0 res e A2 vs)(hk:∀s',iP s0 A2 s'->k (one vs) s'=true) :
 ∀{s:St},iP s0 A s->gR res T D s k=true:=by
 induction hd with
 |nil=>exact fun {s} hs=>uU hT (k:=fun l=>B9 l (fun v=>k v s)) (hr.e hs) (FL (hk _ hs))
 | @cons q D A A1 A2 h hk' ih=>
  intro s hs;have hq:s.h.get q=some (.deferred true):=hs.2.2.is h.mem;show qW s q _=true;refine fE hq ?_;show dI s q (.deferred false) (fun s=>gR res T D s k)=true;exact eX hs.wf (eE.lt hs.wf hq) (fun s1 hm _ _=>ih hr hk (hs.delO h hm))
theorem rT{f:FuncId}(hC:∀k,k ⟨body,nt,res⟩=true->C f k=true)(hl:Nat.ble vs.length nt=true)(hs:iP s0 A s)
 (h:fC P C X s0 n nt none body (rN 0 vs) [] A (uV s0 res Q)):Ar P C X (n+1) f vs s (fun v s'=>∃A',iP s0 A' s'/\Q v A'):=fun k hk=>by
 have key:xC C (dJ P C X n) f vs s k=true:=by
  refine hC _ ?_;show ifB (Nat.ble (mK vs) nt) (fM (full nt) 0 vs (fun T=>(dJ P C X n).code none body T [] s (fun x T D s=>jZ x (gR res T D s k) (gR res T D s k) (fun _=>false) (fun _=>false)))) false=true;rw[kK,hl];have hl':vs.length<=nt:=by simpa using hl
  refine nD (BI nt) oM (fun T hf hg=>(h.go s hs) T ⟨hf,fun t v hv=>?_⟩ _ (fun x e T' D' s' hT' hq=>?_))
  ·obtain⟨h1,h2,h3⟩:=BG hv
   rw[hg,if_pos ⟨h1,h2⟩];exact h3
  ·obtain⟨A1,hs1,hq⟩:=hq
   have fin:(∃A2 vs A',yD A1 D' A2/\Av s0 res e A2 vs/\A'.Sublist A2/\Q (one vs) A')->gR res T' D' s' k=true:=by
    rintro⟨A2,vs,A',h1,h2,h3,h4⟩;exact EV hT' h1 h2 (fun s2 hs2=>hk _ _ ⟨A',hs2.sub h3,h4⟩) hs1
   cases x with
   |normal=>exact fin hq
   |ret=>exact fin hq
   |exit i=>exact hq.elim
   |goto i=>exact hq.elim
 show(X f vs s k || xC C (dJ P C X n) f vs s k)=true;rw[key,Bool.or_true]
theorem RB{f:FuncId}(hC:∀k,k ⟨body,nt,res⟩=true->C f k=true)(hl:Nat.ble vs.length nt=true)(hw:Wf s)
 (h:fC P C X s n nt none body (rN 0 vs) [] [] (uV s res Q)):bX P C X (n+1) f vs s Q:=rT hC hl (iP.start hw) h
theorem bI{l:List Ev.X}(hf:xv env f=some (.func (.func g) ⟨p⟩ ⟨c⟩))(hl:Cq env l=some vs)(hC:∀k,k ⟨body,ng,res⟩=true->C g k=true)(hn:Nat.ble (p++(vs++c)).length ng=true)
 (h:fC P C X s0 n ng none body (rN 0 (p++(vs++c))) [] A (uV s0 res R)):fT P C X s0 (n+1) nt (.call f l) env A R:=.mk fun s hs=>I8 hf hl (rT hC hn hs h)
theorem eO{t:Nat}(ht:look env t=some v)(hd:yD A D A2)(hq:Q v A2):uV s0 [.tmp t] Q .ret env D A:=⟨A2,[v],A2,hd,⟨v,[],rfl,ht,rfl⟩,List.Sublist.refl _,hq⟩
theorem bH(hd:yD A D A2)(hq:Q (.tuple ⟨[]⟩) A2):uV s0 [] Q .normal env D A:=⟨A2,[],A2,hd,rfl,List.Sublist.refl _,hq⟩
theorem nW{a u b o m e:Nat}{op:Bool}{l r:List Value}(ha:look env a=some (.pointer (some ⟨b,o,none⟩)))(h0:m≠0)(hd:yD A D A2)(ho:lK A2 b e op l)(hv:jD l o m=some r)(hu:look env u=some w)(hq:Q (.tuple #[.agg ⟨r⟩,w]) A2):uV s0 [.cell a (some m),.tmp u] Q .ret env D A:=
 ⟨A2,[.agg ⟨r⟩,w],A2,hd,⟨b,o,r,[w],rfl,ha,h0,⟨e,op,l,ho,hv⟩,w,[],rfl,hu,rfl⟩,List.Sublist.refl _,hq⟩
theorem pZ.front(h:gG A x A')(hA:pZ base s A):pZ base s (x::A'):=by
 refine⟨?_,hA.is h.mem,pZ.delO h hA,hA.sub h.sub⟩
 induction h with
 |here=>exact hA.1
 |next hd ih=>exact ih hA.2.2.2
theorem iP.front(h:gG A x A')(hs:iP s0 A s):iP s0 (x::A') s:=⟨hs.1,hs.2.1,hs.2.2.front h⟩
theorem kQ{r:Option Nat}{c:CC}{Q:iH->List (Nat×Value)->List Nat->List Ob->Prop}(hd:gG A x A')(h:fC P C X s0 n nt r c env D (x::A') Q):fC P C X s0 n nt r c env D A Q:=.mk fun s hs=>h.go s (hs.front hd)
theorem lG{t u x:Nat}{v w y:Value}(ht:look env t=some v)(hu:look env u=some w)(hx:look env x=some y)(hd:yD A D A2)(hs:A'.Sublist A2)(hq:Q (.tuple #[v,w,y]) A'):uV s0 [.tmp t,.tmp u,.tmp x] Q .ret env D A:=⟨A2,[v,w,y],A',hd,⟨v,[w,y],rfl,ht,w,[y],rfl,hu,y,[],rfl,hx,rfl⟩,hs,hq⟩
/-! Small maps. -/
def Tx(z:Value):Option Value->Value
 |none=> .tuple #[z,.bool false]
 |some v=> .tuple #[v,.bool true]
theorem Pp{a b:List (Int×Value)}:Mw a b=a++b:=by
 induction a with
 |nil=>rfl
 |cons v a ih=>exact congrArg (v::·) ih
theorem Pq(h:∀b,R (.map (some b)) (.imap b []::A)):fT P C X s0 n nt .mkmap env A R:=.mk fun s hs T hT k hk=>by
 show C1 s (fun g=>jY s (.imap []) (k (.map (some g))))=true;refine kP ?_;show jY s (.imap []) (k (.map (some s.n)))=true;exact yN hs.wf (fun s1 hx _ hg=>hk _ _ ⟨_,hs.add hx (y:=.imap s.n []) J hg,h s.n⟩)
theorem GU{m x v:Ev.X}{b:Nat}(hm:xv env m=some (.map (some b)))(hx:xv env x=some (.int .i64 i))(hv:xv env v=some w)(hf:lN i es=none)(hp:jJ A (.imap b es) (.imap b (es++[(i,w)])) A')(h:R undef A'):fT P C X s0 n nt (.ins m x v) env A R:=.mk fun s hs T hT k hk=>by
 refine U5 hT (k:=fun m=>bO T x (fun x=>bO T v (fun v=>Im s m x v (k undef)))) hm (U5 hT (k:=fun x=>bO T v (fun v=>Im s _ x v (k undef))) hx (U5 hT (k:=fun v=>Im s _ _ v (k undef)) hv ?_));have hg:s.h.get b=some (.imap es):=hs.2.2.is hp.mem;show qW s b _=true;refine fE hg ?_;show @Option.rec Value (fun _=>Bool) (dI s b (.imap (Mw es [(i,w)])) (k undef)) (fun _=>false) (lN i es)=true;rw[hf,Pp];exact eX hs.wf (eE.lt hs.wf hg) (fun s1 hm1 _ hg1=>hk _ _ ⟨_,hs.putO hp rfl hm1 hg1,h⟩)
theorem RC{m x:Ev.X}{z:Value}{b:Nat}(hm:xv env m=some (.map (some b)))(hx:xv env x=some (.int .i64 i))(ho:Ob.imap b es∈A)(h:R (Tx z (lN i es)) A):fT P C X s0 n nt (.look m x z true) env A R:=.mk fun s hs T hT k hk=>by
 refine U5 hT (k:=fun m=>bO T x (fun x=>Fj s z true m x k)) hm (U5 hT (k:=fun x=>Fj s z true _ x k) hx ?_);have hg:s.h.get b=some (.imap es):=hs.2.2.is ho;show qW s b _=true;refine fE hg ?_;show @Option.rec Value (fun _=>Bool) (k (xA true z false) s) (fun v=>k (xA true v true) s) (lN i es)=true;cases hf:lN i es with
 |none=>rw[hf] at h;exact hk _ _ ⟨A,hs,h⟩
 |some v=>rw[hf] at h;exact hk _ _ ⟨A,hs,h⟩
theorem Ld:lN i es=(es.find? fun e=>e.1 == i).map (·.2):=by
 induction es with
 |nil=>rfl
 |cons e es ih=>
  show @Bool.rec (fun _=>Option Value) (lN i es) (some e.2) (intEq e.1 i)=_;rw[aB,List.find?_cons];cases h:e.1 == i with
  |true=>rfl
  |false=>exact ih
/-! Loops over a function's calls. -/
def GV(Q:iH->List (Nat×Value)->List Nat->List Ob->Prop)(nt:Nat)(env:List (Nat×Value))(D:List Nat)(ps:List Nat)(a b:CC)(q l:Nat):Value->List Ob->Prop:=fun _ A'=>
 ∃st pend A'',gG A' (.loop l st pend nt env ps a b q) A''/\st≠.busy/\Q pend env D A''
theorem Dz{Q:iH->List (Nat×Value)->List Nat->List Ob->Prop}{k:iH->BT Value->List Nat->St->Bool}(hT:yB nt T env)(hs:iP s0 A s)(h:GV Q nt env D ps a b q l v A)
 (hk:∀x env' T' D' s',yB nt T' env'->(∃A',iP s0 A' s'/\Q x env' D' A')->k x T' D' s'=true):sC l T D s k=true:=by
 obtain⟨st,pend,A'',h1,h2,h3⟩:=h;obtain⟨T',h4,h5⟩:=hs.2.2.is h1.mem;have fin:dI s l (.loop .exhausted pend T' ps a b q) (k pend T D)=true:=eX hs.wf (eE.lt hs.wf h4) (fun s1 hm _ _=>hk _ _ _ _ _ hT ⟨A'',hs.delO h1 hm,h3⟩);show qW s l _=true;refine fE h4 ?_;cases st with
 |busy=>exact absurd rfl h2
 |ready=>exact fin
 |done=>exact fin
 |exhausted=>exact fin
theorem EW{Q:iH->List (Nat×Value)->List Nat->List Ob->Prop}{k:iH->BT Value->List Nat->St->Bool}(hT:yB nt T env)(hs:iP s0 A s)
 (hC:∀k,k ⟨body,ng,res⟩=true->C g k=true) (hn:∀l,Nat.ble (p++(.func (.yield l) ⟨[]⟩ ⟨[]⟩::c)).length ng=true)
 (h:∀l,fC P C X s0 n ng none body (rN 0 (p++(.func (.yield l) ⟨[]⟩ ⟨[]⟩::c))) [] (.loop l .ready .normal nt env ps a b q::A) (uV s0 res (GV Q nt env D ps a b q l)))
 (hk:∀x env' T' D' s',yB nt T' env'->(∃A',iP s0 A' s'/\Q x env' D' A')->k x T' D' s'=true):lO (dJ P C X (n+1)) (.func (.func g) ⟨p⟩ ⟨c⟩) ps a b T D q s k=true:=by
 refine kP ?_;show jY s (.loop .ready .normal T ps a b q) (fun s'=>(dJ P C X (n+1)).call g (Be p (.func (.yield s.n) #[] #[]::c)) s' (fun _ s'=>sC s.n T D s' k))=true;refine yN hs.wf (fun s1 hx _ hg=>?_);have ha:∀l r:List Value,Be l r=l++r:=fun l r=>by
  induction l with
  |nil=>rfl
  |cons v l ih=>exact congrArg (v::·) ih
 rw[ha];exact rT hC (hn s.n) (hs.add hx (y:=.loop s.n .ready .normal nt env ps a b q) J ⟨T,hg,hT⟩) (h s.n) _ (fun v s2 ⟨A2,hs2,hq⟩=>Dz hT hs2 hq hk)
theorem Pr{Q:iH->List (Nat×Value)->List Nat->List Ob->Prop}(hf:xv env f=some (.func (.func g) ⟨p⟩ ⟨c⟩))(hC:∀k,k ⟨body,ng,res⟩=true->C g k=true)(hn:Nat.ble (p.length+1+c.length) ng=true)
 (h:∀q l,fC P C X s0 n ng none body (rN 0 (p++(.func (.yield l) ⟨[]⟩ ⟨[]⟩::c))) [] (.loop l .ready .normal nt env ps a b q::.dfr q::A) (uV s0 res (GV Q nt env (q::D) ps a b q l))):fC P C X s0 (n+2) nt none (.range f ps a b) env D A Q:=.mk fun s hs T hT k hk=>by
 refine U5 hT (k:=fun f=>B8 (dJ P C X (n+1)) none f ps a b T D s k) hf ?_;show C1 s (fun q=>jY s (.deferred true) (fun s'=>lO (dJ P C X (n+1)) (.func (.func g) ⟨p⟩ ⟨c⟩) ps a b T (q::D) q s' k))=true;refine kP ?_;show jY s (.deferred true) (fun s'=>lO (dJ P C X (n+1)) _ ps a b T (s.n::D) s.n s' k)=true;refine yN hs.wf (fun s1 hx _ hg=>?_);exact EW hT (hs.add hx (y:=.dfr s.n) J hg) hC (fun l=>by rw[<-hn];congr 1;simp;omega) (h s.n) hk
def Cs(Q:iH->List (Nat×Value)->List Nat->List Ob->Prop)(nt:Nat)(env:List (Nat×Value))(D:List Nat)(ps:List Nat)(a b:CC)(q l:Nat)(LO:Ob):Value->List Ob->Prop:=fun _ A'=>
 (∃A'',gG A' LO A''/\Q .normal env D A'')∨∃x A'',gG A' (.loop l .done x nt env ps a b q) A''/\Q x env D A''
theorem uV.mono{Q Q':Value->List Ob->Prop}(h:∀v A,Q' v A->Q v A):∀{x:iH} {e:List (Nat×Value)} {D:List Nat} {A:List Ob},uV s0 res Q' x e D A->uV s0 res Q x e D A:=by
 intro x e D A hq;cases x with
 |normal=>obtain⟨A2,vs,A',h1,h2,h3,h4⟩:=hq;exact⟨A2,vs,A',h1,h2,h3,h _ _ h4⟩
 |ret=>obtain⟨A2,vs,A',h1,h2,h3,h4⟩:=hq;exact⟨A2,vs,A',h1,h2,h3,h _ _ h4⟩
 |exit i=>exact hq
 |goto i=>exact hq
theorem fC.mono{r:Option Nat}{c:CC}{Q Q':iH->List (Nat×Value)->List Nat->List Ob->Prop}(h:fC P C X s0 n nt r c env D A Q')(hq:∀x e D A,Q' x e D A->Q x e D A):fC P C X s0 n nt r c env D A Q:=.mk fun s hs=>
 (h.go s hs).mono (fun x e D s' hh=>by obtain⟨A',h1,h2⟩:=hh;exact⟨A',h1,hq _ _ _ _ h2⟩)
theorem Cs.to{Q:iH->List (Nat×Value)->List Nat->List Ob->Prop}(h:Cs Q nt env D ps a b q l (.loop l .ready .normal nt env ps a b q) v A):GV Q nt env D ps a b q l v A:=by
 rcases h with ⟨A',h1,h2⟩|⟨x,A',h1,h2⟩
 ·exact⟨_,_,A',h1,(fun h=>by cases h),h2⟩
 ·exact⟨_,_,A',h1,(fun h=>by cases h),h2⟩
theorem jM{Q:iH->List (Nat×Value)->List Nat->List Ob->Prop}(hf:xv env f=some (.func (.func g) ⟨p⟩ ⟨c⟩))(hC:∀k,k ⟨body,ng,res⟩=true->C g k=true)(hn:Nat.ble (p.length+1+c.length) ng=true)
 (h:∀q l LO BO,LO=Ob.loop l .ready .normal nt env ps a b q->BO=Ob.loop l .busy .normal nt env ps a b q->fC P C X s0 n ng none body (rN 0 (p++(.func (.yield l) ⟨[]⟩ ⟨[]⟩::c))) [] (LO::.dfr q::A) (uV s0 res (Cs Q nt env (q::D) ps a b q l LO))):fC P C X s0 (n+2) nt none (.range f ps a b) env D A Q:=
 Pr hf hC hn (fun q l=>(h q l _ _ rfl rfl).mono (fun _ _ _ _ hq=>hq.mono (fun _ _=>Cs.to)))
def RD:List Nat->List Value->List (Nat×Value)->Option (List (Nat×Value))
 |[],[],e=>some e
 |t::ps,v::vs,e=>RD ps vs ((t,v)::e)
 |_,_,_=>none
theorem DA:∀{ps:List Nat} {vs:List Value} {T:BT Value} {env env':List (Nat×Value)} {k:BT Value->Bool},yB nt T env->RD ps vs env=some env'->ps.all (fun t=>Nat.blt t nt)=true->(∀T',yB nt T' env'->k T'=true)->tI T ps vs k=true
 |[],[],T,env,env',k,hT,hz,_,hk=>by cases hz;exact hk T hT
 |[],_::_,_,_,_,_,_,hz,_,_=>by cases hz
 |_::_,[],_,_,_,_,_,hz,_,_=>by cases hz
 |t::ps,v::vs,T,env,env',k,hT,hz,hp,hk=>by
  rw[List.all_cons,Bool.and_eq_true] at hp;exact Aq (k:=fun T=>tI T ps vs k) hT (d:=some t) (v:=v) hp.1 (fun T' hT'=>DA hT' hz hp.2 hk)
def Uy(R:Value->List Ob->Prop)(LO BO:Ob)(DN:iH->Ob):iH->List (Nat×Value)->List Nat->List Ob->Prop
 | .normal,_,_,A=>∃A',jJ A BO LO A'/\R (.bool true) A'
 |x,_,_,A=>∃A',jJ A BO (DN x) A'/\R (.bool false) A'
def Uz(P:Program)(C:Nat->(CF->Bool)->Bool)(X:FuncId->List Value->St->(Value->St->Bool)->Bool)(s0:St)(n:Nat)(R:Value->List Ob->Prop)(l nt:Nat)(c:CC)(LO BO:Ob)(DN:iH->Ob):iH->List (Nat×Value)->List Nat->List Ob->Prop
 | .normal,e,D,A=>∃A',jJ A LO BO A'/\fC P C X s0 n nt (some l) c e D A' (Uy R LO BO DN)
 |_,_,_,_=>False
theorem fP{x:List Ev.X}{l ny q:Nat}{LO BO:Ob}{e0 e1:List (Nat×Value)}{a c:CC}(hf:xv env f=some (.func (.yield l) ⟨[]⟩ ⟨[]⟩))(hl:Cq env x=some vs)(hLO:LO = .loop l .ready .normal ny e0 ps a c q)(hBO:BO = .loop l .busy .normal ny e0 ps a c q)(h0:LO∈A)(hz:RD ps vs e0=some e1)(hp:ps.all (fun t=>Nat.blt t ny)=true)
 (h:fC P C X s0 n ny (some l) a e1 [] A (Uz P C X s0 n R l ny c LO BO (fun x=> .loop l .done x ny e0 ps a c q))):fT P C X s0 n nt (.call f x) env A R:=.mk fun s hs T hT k hk=>by
 subst hLO hBO;refine U5 hT (k:=fun f=>iZ T x (fun l=>rE (dJ P C X n) s l f k)) hf (oY hT (k:=fun l=>rE (dJ P C X n) s l _ k) hl ?_);obtain⟨T0,h1,h2⟩:=hs.2.2.is h0;show qW s l _=true;refine fE h1 ?_;show tI T0 ps vs (fun T=>(dJ P C X n).code (some l) a T [] s (fun x T D s=>jZ x (Fs (dJ P C X n) l c T D s k) false (fun _=>false) (fun _=>false)))=true;refine DA h2 hz hp (fun T1 hT1=>(h.go s hs) T1 hT1 _ (fun x e T2 D2 s2 hT2 hq=>?_));obtain⟨A2,hs2,hq⟩:=hq;cases x with
 |ret=>exact hq.elim
 |exit i=>exact hq.elim
 |goto i=>exact hq.elim
 |normal=>
  obtain⟨A3,hp3,hr⟩:=hq;obtain⟨T3,h3,h4⟩:=hs2.2.2.is hp3.mem;show qW s2 l _=true;refine fE h3 ?_;show dI s2 l (.loop .busy .normal T3 ps a c q) (fun s=>(dJ P C X n).code (some l) c T2 D2 s (fun x _ _ s=>My l x s k))=true;refine eX hs2.wf (eE.lt hs2.wf h3) (fun s3 hm3 _ hg3=>?_);refine(hr.go s3 (hs2.putO hp3 rfl hm3 ⟨T3,hg3,h4⟩)) T2 hT2 _ (fun x e T4 D4 s4 _ hq=>?_);obtain⟨A4,hs4,hq⟩:=hq;have fin:∀{st:LoopState} {y:iH} {v:Bool},(∃A',jJ A4 (.loop l .busy .normal ny e0 ps a c q) (.loop l st y ny e0 ps a c q) A'/\R (.bool v) A')->∀{T:BT Value},s4.h.get l=some (.loop .busy .normal T ps a c q)->yB ny T e0->dI s4 l (.loop st y T ps a c q) (k (.bool v))=true:=by
   rintro st y v ⟨A5,hp5,hr5⟩ T hg hc;exact eX hs4.wf (eE.lt hs4.wf hg) (fun s5 hm5 _ hg5=>hk _ _ ⟨A5,hs4.putO hp5 rfl hm5 ⟨T,hg5,hc⟩,hr5⟩)
  show qW s4 l _=true;cases x with
  |normal=>
   have hq':=hq;obtain⟨A5,hp5,_⟩:=hq';obtain⟨T5,h5,h6⟩:=hs4.2.2.is hp5.mem;exact fE h5 (fin hq h5 h6)
  |ret=>
   have hq':=hq;obtain⟨A5,hp5,_⟩:=hq';obtain⟨T5,h5,h6⟩:=hs4.2.2.is hp5.mem;exact fE h5 (fin hq h5 h6)
  |exit i=>
   have hq':=hq;obtain⟨A5,hp5,_⟩:=hq';obtain⟨T5,h5,h6⟩:=hs4.2.2.is hp5.mem;exact fE h5 (fin hq h5 h6)
  |goto i=>
   have hq':=hq;obtain⟨A5,hp5,_⟩:=hq';obtain⟨T5,h5,h6⟩:=hs4.2.2.is hp5.mem;exact fE h5 (fin hq h5 h6)
end
end
end Go.Proofs.YtjkdkpckjgaplaaGreat.Ev
namespace Go.Proofs.YtjkdkpckjgaplaaGreat.Ev
open Go Go.RowKit
variable{P:Program}{n t:Nat}{s0:St}{env:List (Nat×Value)}{A:List Ob}
theorem qA{α β:Type}:∀(x:Sem α) (f:α->Sem β),pureVal P (x >>= f)=(pureVal P x).bind fun a=>pureVal P (f a):=by
 intro x f;show pureVal P (Sem.bind x f)=_
 induction x with
 |pure a=>rfl
 |program k ih=>simpa [Sem.bind,pureVal] using ih P
 |mark m k ih=>simpa [Sem.bind,pureVal] using ih
 |_=>simp[Sem.bind,pureVal]
theorem Ct{α:Type}(a:α):pureVal P (pure a:Sem α)=some a:=rfl
theorem GW:pureVal P (program:Sem Program)=some P:=rfl
theorem RE{t:TypeId}{d:TypeDesc}(h:P.underlying t=some d):pureVal P (underlying t)=some d:=by
 unfold underlying;rw[qA,GW];show pureVal P (match P.underlying t with|some d=>pure d|none=>stuck "no such type")=some d;rw[h];rfl
theorem V5{a:Option Addr}{n c:Nat}(h:∀b,a=some b->b.spot=none):eqV (.slice a n c) (.slice a n c)=true:=by
 rcases a with _|⟨b,o,sp⟩
 ·simp[eqV]
 ·have:sp=none:=h _ rfl
  subst this;simp[eqV]
theorem HW{x y:List Value}{r:Bool}(hf:(flatL x && flatL y)=true)(h:pureVal P (Op.equal t (.agg ⟨x⟩) (.agg ⟨y⟩))=some r):evBin P .eql t 5 (.agg ⟨x⟩) (.agg ⟨y⟩)=some (.bool r):=by
 have h1:pureVal P (binOp .eql t (.agg ⟨x⟩) (.agg ⟨y⟩))=some (.bool r):=by
  show pureVal P (Op.equal t (.agg ⟨x⟩) (.agg ⟨y⟩) >>= fun b=>(pure (Value.bool b):Sem Value))=_;rw[qA,h];rfl
 show evBin2 P .eql t 5 (.agg ⟨x⟩) (.agg ⟨y⟩)=_;unfold evBin2;have h2:(flat (.agg ⟨x⟩) && flat (.agg ⟨y⟩) && noGuard 5 (.agg ⟨x⟩))=true:=by
  simp only[flat,flatA,noGuard];simp only[Bool.and_eq_true] at hf ⊢;exact⟨hf,rfl⟩
 rw[h2,h1];rfl
theorem Le{C:Nat->(CF->Bool)->Bool}{X:FuncId->List Value->St->(Value->St->Bool)->Bool}{n nt:Nat}{R:Value->List Ob->Prop}{x y:Ev.X}{u v:List Value}{r:Bool}
 (hx:xv env x=some (.agg ⟨u⟩)) (hy:xv env y=some (.agg ⟨v⟩)) (h:pureVal P (Op.equal t (.agg ⟨u⟩) (.agg ⟨v⟩))=some r/\(flatL u && flatL v)=true) (h1:r=true->R (.bool true) A) (h2:r=false->R (.bool false) A):fT P C X s0 n nt (.bin .eql t 5 x y) env A R:=by
 refine I9 hx hy (HW h.2 h.1) ?_;cases r with
 |true=>exact h1 rfl
 |false=>exact h2 rfl
theorem gH{A A':List Ob}{Q:Value->List Ob->Prop}{v:Value}(ht:look env t=some v)(hs:A'.Sublist A)(hq:Q v A'):ES s0 [.tmp t] Q .ret env [] A:=⟨rfl,[v],A',⟨v,[],rfl,ht,rfl⟩,hs,hq⟩
theorem kE{A A':List Ob}{t u:Nat}{Q:Value->List Ob->Prop}{v w:Value}(ht:look env t=some v)(hu:look env u=some w)(hs:A'.Sublist A)(hq:Q (.tuple #[v,w]) A'):ES s0 [.tmp t,.tmp u] Q .ret env [] A:=⟨rfl,[v,w],A',⟨v,[w],rfl,ht,w,[],rfl,hu,rfl⟩,hs,hq⟩
theorem Ay{l:List Value}:jD l 0 l.length=some l:=by
 have key:∀(m:List Value) (i:Nat),(∀j,j<m.length->l[i+j]? = m[j]?)->jD l i m.length=some m:=by
  intro m
  induction m with
  |nil=>intro i _;rfl
  |cons v m ih=>
   intro i h;have h0:l[i]? = some v:=by simpa using h 0 sM
   have h1:=ih (i+1) (fun j hj=>by have:=h (j+1) (by simp;omega);rw[List.getElem?_cons_succ] at this;rw[<-this];congr 1;omega);simp only[List.length_cons,jD,h0,h1]
 exact key l 0 (fun j _=>by rw[Nat.zero_add])
theorem fK.own{size n b e:Nat}{op:Bool}{l:List Value}{c:Nat}(h:lK A b e op l)(hl:Nat.beq l.length (n*size)=true)(h0:l≠[]):fK s0 A size n l (.slice (some ⟨b,0,none⟩) n c):=
 ⟨b,0,c,rfl,by simpa using hl,h0,.inl ⟨e,op,l,h,Ay⟩⟩
end Go.Proofs.YtjkdkpckjgaplaaGreat.Ev
namespace Go.Proofs.YtjkdkpckjgaplaaGreat.Ev
open Go Go.RowKit
noncomputable section
variable{l:List Int}{j b e m c bytes:Nat}{v:Int}{s:St}{a:Option Addr}{op:Bool}{x y:Ev.X}{A':List Ob}
def ints(l:List Int):List Value:=l.map (.int .i64)
theorem bU:(ints l).length=l.length:=by simp[ints]
theorem rU(h:j<l.length):(ints l)[0+j*1]? = some (.int .i64 (l.getD j 0)):=by
 rw[Nat.zero_add,Nat.mul_one];simp[ints,List.getD_eq_getElem?_getD,h]
theorem Lf:(ints l).set (0+j*1) (.int .i64 v)=ints (l.set j v):=by
 rw[Nat.zero_add,Nat.mul_one];simp[ints,List.map_set]
theorem pK.get:∀{l:List Value} {off j:Nat} {v:Value},pK s b off l->l[j]? = some v->At s b (off+j) v
 |[],_,_,_,_,h=>by simp at h
 |u::l,off,0,v,⟨h1,_⟩,h=>by simp at h;subst h;exact h1
 |u::l,off,j+1,v,⟨_,h2⟩,h=>by
  have:=pK.get (j:=j) h2 (by simpa using h)
  rwa [show off+1+j=off+(j+1) by omega] at this
structure aN(s:St)(a:Option Addr)(l:List Int):Prop where
 spot:∀b,a=some b->b.spot=none
 addr:l≠[]->∃b o,a=some ⟨b,o,none⟩
 cells:∀b o,a=some ⟨b,o,none⟩->pK s b o (ints l)
 fit:∀x∈l,-9223372036854775808<=x/\x<9223372036854775808
 len:l.length<140737488355328
theorem aN.ext{s s':St}(h:aN s a l)(hw:Wf s)(x:sX s s'):aN s' a l:=⟨h.spot,h.addr,fun b o ha=>(h.cells b o ha).ext hw x,h.fit,h.len⟩
theorem aN.at{s:St}{a:Option Addr}{l:List Int}(h:aN s a l){b o:Nat}(ha:a=some ⟨b,o,none⟩){j:Nat}(hj:j<l.length):At s b (o+j*1) (.int .i64 (l.getD j 0)):=by
 have:=rU hj;rw[Nat.zero_add] at this;exact(h.cells b o ha).get this
theorem Lg(h:j<l.length):l.getD j 0∈l:=by
 simp[List.getD_eq_getElem?_getD,h]
theorem aN.own(h:Obj s b e op (ints l))(hf:∀x∈l,-9223372036854775808<=x/\x<9223372036854775808)(hl:l.length<140737488355328):aN s (some ⟨b,0,none⟩) l:=
 ⟨fun c hc=>by cases hc;rfl,fun _=>⟨b,0,rfl⟩,fun c o hc=>by cases hc;exact h.all,hf,hl⟩
theorem aN.take(h:aN s a l)(k:Nat):aN s a (l.take k):=by
 refine⟨h.spot,fun hn=>h.addr (by rintro rfl;simp at hn),fun b o ha=>?_,fun x hx=>h.fit x (List.mem_of_mem_take hx),(by have:=h.len;rw[List.length_take];omega)⟩;have key:∀{l:List Value} {off k:Nat},pK s b off l->pK s b off (l.take k):=by
  intro l
  induction l with
  |nil=>intro off k h;simpa using h
  |cons v l ih=>
   intro off k h;cases k with
   |zero=>exact trivial
   |succ k=>exact⟨h.1,ih h.2⟩
 have:=key (k:=k) (h.cells b o ha);simpa [ints,List.map_take] using this
section
variable{P:Program}{C:Nat->(CF->Bool)->Bool}{X:FuncId->List Value->St->(Value->St->Bool)->Bool}{s0:St}{n nt:Nat}{env:List (Nat×Value)}{A:List Ob}{R:Value->List Ob->Prop}
theorem Q7{x i:Ev.X}{ik:IntKind}{z:Int}(hl:aN s0 a l)(hx:xv env x=some (.slice a m c))(hi:xv env i=some (.int ik z))(hz:z=(j:Int))(hm:m=l.length)(hj:j<l.length)(h:∀b o,a=some ⟨b,o,none⟩->R (.pointer (some ⟨b,o+j*1,none⟩)) A):fT P C X s0 n nt (.ia x i 1) env A R:=by
 obtain⟨b,o,ha⟩:=hl.addr (by rintro rfl;simp at hj);subst ha;exact Z3 hx hi hz oM (h b o rfl)
theorem dM{a:Ev.X}(ha:xv env a=some (.pointer (some ⟨b,0+j*1,none⟩)))(ho:lK A b e op (ints l))(hj:j<l.length)(h:R (.int .i64 (l.getD j 0)) A):fT P C X s0 n nt (.ld a none) env A R:=Y1 ha ho (rU hj) h
theorem Q5{a:Ev.X}{x:Int}(ha:xv env a=some (.pointer (some ⟨b,0+j*1,none⟩)))(ho:lK A b e op (ints l))(hj:j<l.length)(hx:l.getD j 0=x)(h:R (.int .i64 x) A):fT P C X s0 n nt (.ld a none) env A R:=dM ha ho hj (by rw[hx];exact h)
theorem getD_set_ne{i j:Nat}(h:i≠j):(l.set i v).getD j 0=l.getD j 0:=by
 simp[List.getD_eq_getElem?_getD,List.getElem?_set,h]
theorem W7{a x:Ev.X}(ha:xv env a=some (.pointer (some ⟨b,0+j*1,none⟩)))(hx:xv env x=some (.int .i64 v))(hu:pL A b e op (ints l) (ints (l.set j v)) A')(hj:j<l.length)(h:R undef A'):fT P C X s0 n nt (.st a x none) env A R:=
 cY ha hx (by rw[Lf];exact hu) (by rw[bU,Nat.zero_add,Nat.mul_one];simpa using hj) J h
theorem Qm{v:Value}:∀{n:Nat},repeatN [v] n=List.replicate n v
 |0=>rfl
 |n+1=>by
  show [v]++repeatN [v] n=_;rw[Qm];rfl
theorem qB{f:Ev.X}{ls:List Ev.X}{g:Nat}{pp c vs:List Value}{t:Bool}(hf:xv env f=some (.func (.func g) ⟨pp⟩ ⟨c⟩))(hl:Cq env ls=some vs)(hg:∀s,iP s0 A s->bX P C X n g (pp++(vs++c)) s (fun v A'=>v = .bool t/\A'=[]))(h1:t=true->R (.bool true) A)(h2:t=false->R (.bool false) A):fT P C X s0 n nt (.call f ls) env A R:=
 Z4 hf hl hg (fun v A' hq=>by
  obtain⟨rfl,rfl⟩:=hq;cases t with
  |true=>exact h1 rfl
  |false=>exact h2 rfl)
theorem wN{t d:Nat}{a b q:Int}(hx:xv env x=some (.int .i64 a))(hy:xv env y=some (.int .i64 b))(h0:b≠0)(hq:a.tdiv b=q)(hr:-9223372036854775808<=q/\q<9223372036854775808)(h:R (.int .i64 q) A):fT P C X s0 n nt (.bin .quo t d x y) env A R:=
 qR hx hy h0 (by rw[hq];exact hr) (by rw[hq];exact h)
theorem HX{rw:Nat->Option (Nat×Nat×Bool)}{e b o m c h:Nat}(hh:h<=c)(hc:c<OPEN):evSlc rw e 1 (.slice (some ⟨b,o,none⟩) m c) none (some (.int .i64 (h:Int))) none=some (.slice (some ⟨b,o,none⟩) h c):=by
 show sel (Nat.ble OPEN c) _ (sel (Nat.ble h c) (evSlcAt b o m c 1 0 h none) none)=_;rw[show Nat.ble OPEN c=false from by
  cases hb:Nat.ble OPEN c with
  |false=>rfl
  |true=>rw[Nat.ble_eq] at hb;omega,show Nat.ble h c=true from by rw[Nat.ble_eq];exact hh]
 show sel (Nat.ble 0 h) (some (Value.slice (some ⟨b,sel (Nat.beq c 0) o (o+0*1),none⟩) (h-0) (c-0))) none=_;rw[show Nat.ble 0 h=true from by rw[Nat.ble_eq];exact Nat.zero_le _];cases Nat.beq c 0 <;> simp[sel]
theorem EX{v:Value}(hx:xv env x=some (.int .i64 (m:Int)))(hy:xv env y=some (.int .i64 (c:Int)))(hc:m<=c)(hb1:c<=1048576)(hb2:bytes*c<=1073741824)
 (h:∀b,R (.slice (some ⟨b,0,none⟩) m c) (.row b e false (List.replicate c v)::A)):fT P C X s0 n nt (.mks e 1 bytes [v] x y) env A R:=.mk fun s hs T hT k hk=>by
 refine U5 hT (k:=fun l=>bO T y (fun c=>C7 s e 1 bytes [v] l c k)) hx (U5 hT (k:=fun c=>C7 s e 1 bytes [v] _ c k) hy ?_);show ifB true (ifB true (ifB (Nat.ble m c) (ifB (Nat.ble c 1048576) (ifB (Nat.ble (Nat.mul bytes c) 1073741824) (eY .leaf 0 (repeatN [v] c) _) false) false) false) false) false=true;rw[show Nat.ble m c=true from by rw[Nat.ble_eq];exact hc,show Nat.ble c 1048576=true from by rw[Nat.ble_eq];exact hb1,show Nat.ble (Nat.mul bytes c) 1073741824=true from by rw[Nat.ble_eq];exact hb2];show eY .leaf 0 (repeatN [v] c) _=true;rw[Qm];refine iL (fun t ht hg=>kP ?_);rw[bG];exact gE (l:=List.replicate c v) sM hs.wf ht hg (fun s' xx _ ho=>hk _ _ ⟨_,hs.new xx ho,h s.n⟩)
theorem Lh:List.replicate c (Value.int .i64 0)=ints (List.replicate c 0):=by simp[ints]
theorem oI(hx:xv env x=some (.int .i64 (m:Int)))(hy:xv env y=some (.int .i64 (c:Int)))(hc:m<=c)(hb1:c<=1048576)(hb2:bytes*c<=1073741824)
 (h:∀b,R (.slice (some ⟨b,0,none⟩) m c) (.row b e false (ints (List.replicate c 0))::A)):fT P C X s0 n nt (.mks e 1 bytes [.int .i64 0] x y) env A R:=
 EX hx hy hc hb1 hb2 (by rw[Lh];exact h)
theorem Li{z:Int}(hx:xv env x=some (.int .i64 z))(hy:xv env y=some (.int .i64 z))(hz:z=(m:Int))(hb1:m<=1048576)(hb2:bytes*m<=1073741824)
 (h:∀b,R (.slice (some ⟨b,0,none⟩) m m) (.row b e false (ints (List.replicate m 0))::A)):fT P C X s0 n nt (.mks e 1 bytes [.int .i64 0] x y) env A R:=by
 subst hz;exact oI hx hy (Nat.le_refl _) hb1 hb2 h
theorem wO{e size bytes b len cap m:Nat}{z more l:List Value}{yv:Value}(hx:xv env x=some (.slice (some ⟨b,0,none⟩) len cap))(hy:xv env y=some yv)(hsrc:fK s0 A size m more yv)(hu:pL A b e false l (over l (len*size) more) A')(hl:l.length=cap*size)(hle:len+m<=cap)(hcap:cap<OPEN)(hb1:len+m<=1048576)(hb2:bytes*(len+m)<=1073741824)
 (h:R (.slice (some ⟨b,0,none⟩) (len+m) cap) A'):fT P C X s0 n nt (.app e size bytes z false x y) env A R:=.mk fun s hs T hT k hk=>by
 refine U5 hT (k:=fun x=>bO T y (fun y=>kX s e size bytes z false x y k)) hx (U5 hT (k:=fun y=>kX s e size bytes z false _ y k) hy ?_);unfold kX;refine rR hs hsrc ?_;obtain⟨_,_,_,_,hml,hm0,_⟩:=hsrc;have hm00:m≠0:=fun e=>hm0 (List.eq_nil_of_length_eq_zero (by rw[hml,e,Nat.zero_mul]))
 show ifB (Nat.beq cap 0) _ (ifB (Nat.ble (Nat.add len m) 1048576) (ifB (Nat.ble (Nat.mul bytes (Nat.add len m)) 1073741824) (eR s e size b 0 len cap m more k) false) false)=true;rw[uT (show cap≠0 from oM)];show ifB (Nat.ble (Nat.add len m) 1048576) (ifB (Nat.ble (Nat.mul bytes (Nat.add len m)) 1073741824) (eR s e size b 0 len cap m more k) false) false=true;rw[show Nat.ble (Nat.add len m) 1048576=true from by rw[Nat.ble_eq];exact hb1,show Nat.ble (Nat.mul bytes (Nat.add len m)) 1073741824=true from by rw[Nat.ble_eq];exact hb2];show eR s e size b 0 len cap m more k=true;obtain⟨c,hc,hf,hg⟩:=hs.own hu.own;unfold eR;refine fE (k:=_) hc ?_;have hfit:(len+m)*size<=l.length:=by rw[hl];exact Nat.mul_le_mul_right _ hle
 have hfit2:len*size+more.length<=l.length:=by rw[hml,<-Nat.add_mul];exact hfit
 show ifB (Nat.beq e e) (ifB (Nat.ble OPEN cap) _ (ifB (Nat.ble (Nat.add len m) cap) (ifB (Nat.ble (Nat.add 0 (Nat.mul (Nat.add len m) size)) l.length) (fM c (Nat.add 0 (Nat.mul len size)) more _) false) _)) false=true;rw[show Nat.beq e e=true from by rw[Nat.beq_eq],show Nat.ble OPEN cap=false from by
  cases hb:Nat.ble OPEN cap with
  |false=>rfl
  |true=>rw[Nat.ble_eq] at hb;omega,show Nat.ble (Nat.add len m) cap=true from by rw[Nat.ble_eq];exact hle,show Nat.ble (Nat.add 0 (Nat.mul (Nat.add len m) size)) l.length=true from by rw[Nat.ble_eq];show 0+(len+m)*size<=l.length;omega]
 show fM c (Nat.add 0 (Nat.mul len size)) more _=true;rw[show Nat.add 0 (Nat.mul len size)=len*size from Nat.zero_add _];refine nD hf hfit2 (fun c' hc' hg'=>eX hs.wf (eE.lt hs.wf hc) (fun s1 hm1 hn1 hd1=>?_));rw[bG];have hol:(over l (len*size) more).length=l.length:=lV hfit2;refine hk _ _ ⟨_,hs.upd hu hm1 ⟨c',by rw[hol];exact hd1,by rw[hol];exact hc',fun j=>?_⟩,h⟩;rw[hg',oX hfit2];by_cases h1:len*size<=j/\j<len*size+more.length
 ·rw[if_pos h1,if_pos h1]
 ·rw[if_neg h1,if_neg h1,hg]
end
theorem lK.app{T A:List Ob}{l:List Value}(h:lK A b e op l):lK (T++A) b e op l:=by
 induction T with
 |nil=>exact h
 |cons x T ih=>exact .next ih
theorem pL.app{T A A':List Ob}{l l':List Value}(h:pL A b e op l l' A'):pL (T++A) b e op l l' (T++A'):=by
 induction T with
 |nil=>exact h
 |cons x T ih=>exact .next ih
end
end Go.Proofs.YtjkdkpckjgaplaaGreat.Ev
namespace Go.Proofs.YtjkdkpckjgaplaaGreat.Ev
open Go Go.RowKit
variable{c n b h o d m size e off t:Nat}{x y:Ev.X}{v:Value}{s:St}{a:Option Addr}{R:Value->List Ob->Prop}{z:Int}
section
variable{P:Program}{C:Nat->(CF->Bool)->Bool}{X:FuncId->List Value->St->(Value->St->Bool)->Bool}{s0:St}{n nt:Nat}{r:Option Nat}{env:List (Nat×Value)}{D:List Nat}{A:List Ob}
section
variable{Q:List (Nat×Value)->List Ob->Prop}{d:Nat}{l:List Item}
theorem kO{c:COp}(h:fT P C X s0 n nt c env A (fun v A'=>lW P C X s0 n nt l ((d,v)::env) A' Q))(hd:yC (some d) nt=true:=by exact rfl):lW P C X s0 n nt (⟨none,some d,c⟩::l) env A Q:=Rw h rfl hd
theorem kM(hx:xv env x=some v)(h:lW P C X s0 n nt l ((d,v)::env) A Q)(hd:yC (some d) nt=true:=by exact rfl):lW P C X s0 n nt (⟨none,some d,.mov x⟩::l) env A Q:=Rw (U2 hx h) J hd
theorem kG{g:Option (Nat×Bool)}{c:COp}(h:fT P C X s0 n nt c env A (fun v A'=>lW P C X s0 n nt l ((d,v)::env) A' Q))(hg:oZ env g=some true:=by exact rfl)(hd:yC (some d) nt=true:=by exact rfl):lW P C X s0 n nt (⟨g,some d,c⟩::l) env A Q:=Rw h hg hd
theorem kZ{g:Option (Nat×Bool)}{c:COp}(h:fT P C X s0 n nt c env A (fun _ A'=>lW P C X s0 n nt l env A' Q))(hg:oZ env g=some true:=by exact rfl):lW P C X s0 n nt (⟨g,none,c⟩::l) env A Q:=Tt h hg
end
variable{Q:iH->List (Nat×Value)->List Nat->List Ob->Prop}
theorem rS{l:List Item}{b:CC}(h:lW P C X s0 n nt l env A (fun e A=>fC P C X s0 (n+1) nt r b e D A Q)):fC P C X s0 (n+2) nt r (.seq (.items l) b) env D A Q:=Ql (FN h)
theorem rI{l:List Item}(h:lW P C X s0 n nt l env A (fun e A=>Q .normal e D A)):fC P C X s0 (n+1) nt r (.items l) env D A Q:=FN h
theorem rQ{a b:CC}(h:fC P C X s0 n nt r a env D A (xN (fun e D A=>fC P C X s0 n nt r b e D A Q) Q)):fC P C X s0 (n+1) nt r (.seq a b) env D A Q:=Ql h
theorem lc{env':List (Nat×Value)}(t:Nat)(h1:look env t=some v)(h:fF env env'):fF env ((t,v)::env'):=fF.cons h1 h
def UA(e:List (Nat×Value)):List (Nat×Value)->List (Option Value)
 |[]=>[]
 |p::r=>look e p.1::UA e r
def UB:List (Nat×Value)->List (Option Value)
 |[]=>[]
 |p::r=>some p.2::UB r
theorem UQ{e:List (Nat×Value)}:∀{r:List (Nat×Value)},UA e r=UB r->fF e r
 |[],_=>fF.nil
 |(_,_)::_,h=>fF.cons (List.cons.inj h).1 (UQ (List.cons.inj h).2)
theorem lL{e r:List (Nat×Value)}(h:UA e r=UB r:=by exact rfl):fF e r:=UQ h
def lB(s:St)(a:Option Addr)(n c:Nat):Prop:=(c<OPEN/\n<=c)∨(c=OPEN/\∃b t m,a=some ⟨b,0,none⟩/\s.h.get b=some (.cells m t 3 true)/\n<=m)
theorem lB.ext{s s':St}(h:lB s a n c)(hw:Wf s)(x:sX s s'):lB s' a n c:=by
 rcases h with h|⟨h1,b,t,m,h2,h3,h4⟩
 ·exact .inl h
 ·exact .inr ⟨h1,b,t,m,h2,by rw[x.2.2 b (eE.lt hw h3)];exact h3,h4⟩
theorem lB.own{l:List Value}(h:Obj s b 3 true l)(hn:n<=l.length):lB s (some ⟨b,0,none⟩) n OPEN:=by
 obtain⟨c,h1,_⟩:=h;exact .inr ⟨rfl,b,c,l.length,rfl,h1,hn⟩
theorem Lj{rw:Nat->Option (Nat×Nat×Bool)}{b n h k:Nat}(hr:rw b=some (k,3,true))(hk:h<=k):evSlc rw 3 1 (.slice (some ⟨b,0,none⟩) n OPEN) none (some (.int .i64 (h:Int))) none=some (.slice (some ⟨b,0,none⟩) h OPEN):=by
 show sel (Nat.ble OPEN OPEN) (match rw b with
  |some (k,e',op)=>sel (op && Nat.beq 3 e' && Nat.beq 0 ((OPEN-OPEN)*1) && !Nat.beq 1 0 && (Nat.beq OPEN OPEN || !Nat.beq n 0)) (evSlcOpen b 1 0 h k (OPEN-OPEN) none) none
  |none=>none) (sel (Nat.ble h OPEN) (evSlcAt b 0 n OPEN 1 0 h none) none)=_
 rw[hr,show Nat.ble OPEN OPEN=true from by rw[Nat.ble_eq];exact Nat.le_refl _];show sel (true && Nat.beq 3 3 && Nat.beq 0 ((OPEN-OPEN)*1) && !Nat.beq 1 0 && (Nat.beq OPEN OPEN || !Nat.beq n 0)) (evSlcOpen b 1 0 h k (OPEN-OPEN) none) none=_;rw[Nat.sub_self,show Nat.beq OPEN OPEN=true from by rw[Nat.beq_eq]];show sel (Nat.ble 0 h && Nat.ble ((0+h)*1) k) (some (Value.slice (some ⟨b,(0+0)*1,none⟩) (h-0) (OPEN+(0+0)))) none=_;rw[show Nat.ble 0 h=true from by rw[Nat.ble_eq];exact Nat.zero_le _,show Nat.ble ((0+h)*1) k=true from by rw[Nat.ble_eq];omega];rfl
theorem GX{s0 s:St}(hw:Wf s0)(x:sX s0 s)(ha:a=some ⟨b,o,none⟩)(hc:lB s0 a n c)(hh:h<=n):evSlc (iW s) 3 1 (.slice (some ⟨b,o,none⟩) n c) none (some (.int .i64 (h:Int))) none=some (.slice (some ⟨b,o,none⟩) h c):=by
 rcases hc with ⟨h1,h2⟩|⟨h1,b',t,m,h2,h3,h4⟩
 ·exact HX oM h1
 ·subst h1
  rw[ha] at h2;cases h2;refine Lj (k:=m) ?_ oM;unfold iW;rw[x.2.2 b (eE.lt hw h3),h3]
theorem EY{x hi:Ev.X}{l:List Int}(hl:aN s0 a l)(hx:xv env x=some (.slice a l.length c))(hi':xv env hi=some (.int .i64 z))(hz:z=(h:Int))(h0:0<l.length)(hh:h<=l.length)(hc:lB s0 a l.length c)(hR:R (.slice a h c) A):fT P C X s0 n nt (.slc 3 1 x none (some hi) none) env A R:=.mk fun s hs T hT k hk=>by
 subst hz;obtain⟨b,o,ha⟩:=hl.addr (by rintro rfl;simp at h0);have e:=GX hs.1 hs.2.1 ha hc hh;subst ha;refine U5 hT (k:=fun x=>eU T none (fun lo=>eU T (some hi) (fun hi=>eU T none (fun mx=>nO s 3 1 x lo hi mx (vK s k))))) hx ?_;refine U5 hT (k:=fun v=>nO s 3 1 _ none (some v) none (vK s k)) hi' ?_;unfold nO;rw[e];show gY (Value.slice (some ⟨b,o,none⟩) h c) (vK s k)=true;rw[eC];exact hk _ _ ⟨A,hs,hR⟩
theorem HY{x hi:Ev.X}{l:List Int}(hl:aN s0 a l)(hx:xv env x=some (.slice a l.length c))(hi':xv env hi=some (.int .i64 z))(hz:z=(h:Int))(hd:look env d=some (.slice a h c))(h0:0<l.length)(hh:h<=l.length)(hc:lB s0 a l.length c)(hR:R undef A):fT P C X s0 n nt (.againS 3 1 x none (some hi) none d) env A R:=.mk fun s hs T hT k hk=>by
 subst hz;have hsp:=hl.spot;obtain⟨b,o,ha⟩:=hl.addr (by rintro rfl;simp at h0);have e:=GX hs.1 hs.2.1 ha hc hh;subst ha;refine U5 hT (k:=fun x=>eU T none (fun lo=>eU T (some hi) (fun hi=>eU T none (fun mx=>bO T (.t d) (fun d=>nO s 3 1 x lo hi mx (fun v=>ifB (eqV v d) (k undef s) false)))))) hx ?_;refine U5 hT (k:=fun v=>bO T (.t d) (fun d=>nO s 3 1 _ none (some v) none (fun v=>ifB (eqV v d) (k undef s) false))) hi' ?_;refine U5 hT (x:=.t d) (k:=fun d=>nO s 3 1 _ none _ none (fun v=>ifB (eqV v d) (k undef s) false)) hd ?_;unfold nO;rw[e];show gY (Value.slice (some ⟨b,o,none⟩) h c) (fun v=>ifB (eqV v (.slice (some ⟨b,o,none⟩) h c)) (k undef s) false)=true;rw[eC,V5 hsp];exact hk _ _ ⟨A,hs,hR⟩
theorem cM{x i:Ev.X}{b o m c j size:Nat}{ik:IntKind}(ha:a=some ⟨b,o,none⟩)(hx:xv env x=some (.slice a m c))(hi:xv env i=some (.int ik z))(hz:z=(j:Int))(hj:j<m)(h:R (.pointer (some ⟨b,o+j*size,none⟩)) A):fT P C X s0 n nt (.ia x i size) env A R:=by
 subst ha;exact Z3 hx hi hz hj h
theorem RF{e size bytes b len:Nat}{z l:List Value}{A':List Ob}(hx:xv env x=some (.slice (some ⟨b,0,none⟩) len OPEN))(hy:xv env y=some (.slice none 0 0))(hu:pL A b e true l l A')(hl:l.length=len*size)(hb1:len<=1048576)(hb2:bytes*len<=1073741824)
 (h:R (.slice (some ⟨b,0,none⟩) len OPEN) A'):fT P C X s0 n nt (.app e size bytes z false x y) env A R:=.mk fun s hs T hT k hk=>by
 refine U5 hT (k:=fun x=>bO T y (fun y=>kX s e size bytes z false x y k)) hx (U5 hT (k:=fun y=>kX s e size bytes z false _ y k) hy ?_);unfold kX;show ifB (Nat.ble (Nat.add len 0) 1048576) (ifB (Nat.ble (Nat.mul bytes (Nat.add len 0)) 1073741824) (eR s e size b 0 len OPEN 0 [] k) false) false=true;rw[show Nat.ble (Nat.add len 0) 1048576=true from by rw[Nat.ble_eq];exact hb1,show Nat.ble (Nat.mul bytes (Nat.add len 0)) 1073741824=true from by rw[Nat.ble_eq];exact hb2];show eR s e size b 0 len OPEN 0 [] k=true;obtain⟨c,hc,hf,hg⟩:=hs.own hu.own;unfold eR;refine fE (k:=_) hc ?_;show ifB (Nat.beq e e) (ifB (Nat.ble OPEN OPEN) (ifB true (ifB (Nat.beq 0 0) (ifB (Nat.beq OPEN OPEN) (ifB (Nat.ble (Nat.mul (Nat.add len 0) size) l.length) _ _) false) false) false) _) false=true;rw[show Nat.beq e e=true from by rw[Nat.beq_eq],show Nat.ble OPEN OPEN=true from by rw[Nat.ble_eq];exact Nat.le_refl _,show Nat.beq 0 0=true from rfl,show Nat.beq OPEN OPEN=true from by rw[Nat.beq_eq],show Nat.ble (Nat.mul (Nat.add len 0) size) l.length=true from by rw[Nat.ble_eq,hl];exact Nat.le_refl _];show dI s b (eW.cells l.length c e true) (fun s=>dG (Nat.add len 0) (fun l=>k (Value.slice (some ⟨b,0,none⟩) l OPEN) s))=true;refine eX hs.wf (eE.lt hs.wf hc) (fun s1 hm hn1 hd1=>?_);rw[bG];exact hk _ _ ⟨_,hs.upd hu hm ⟨c,hd1,hf,hg⟩,h⟩
def Lk(s:St)(e:Nat)(a:Option Addr)(n c:Nat):Prop:=(a=none/\n=0/\c=0)∨∃b o,a=some ⟨b,o,none⟩/\(c<OPEN∨(c=OPEN/\o=0/\∃t m,s.h.get b=some (.cells m t e true)))
theorem Lk.ext{s s':St}(h:Lk s e a n c)(hw:Wf s)(x:sX s s'):Lk s' e a n c:=by
 rcases h with h|⟨b,o,h1,h2⟩
 ·exact .inl h
 ·refine .inr ⟨b,o,h1,?_⟩
  rcases h2 with h2|⟨h2,h3,t,m,h4⟩
  ·exact .inl h2
  ·exact .inr ⟨h2,h3,t,m,by rw[x.2.2 b (eE.lt hw h4)];exact h4⟩
theorem Ll{e size bytes m:Nat}{z more:List Value}{yv:Value}(hx:xv env x=some (.slice a 0 0))(hsp:∀b,a=some b->b.spot=none)(hy:xv env y=some yv)(hsrc:fK s0 A size m more yv)(hm:m≠0)(hb1:m<=1048576)(hb2:bytes*m<=1073741824)
 (h:∀b,R (.slice (some ⟨b,0,none⟩) m OPEN) (.row b e true more::A)):fT P C X s0 n nt (.app e size bytes z false x y) env A R:=by
 cases a with
 |none=>exact gZ hx hy hsrc hm hb1 hb2 h
 |some a=>
  obtain⟨b,o,sp⟩:=a;have:sp=none:=hsp _ rfl;subst this;refine .mk fun s hs T hT k hk=>?_
  refine U5 hT (k:=fun x=>bO T y (fun y=>kX s e size bytes z false x y k)) hx (U5 hT (k:=fun y=>kX s e size bytes z false _ y k) hy ?_);unfold kX;refine rR hs hsrc ?_;obtain⟨_,_,_,_,hml,_⟩:=hsrc;show ifB (Nat.beq m 0) _ (ifB (Nat.ble m 1048576) (ifB (Nat.ble (Nat.mul bytes m) 1073741824) _ false) false)=true;rw[uT hm,show Nat.ble m 1048576=true from by rw[Nat.ble_eq];exact hb1,show Nat.ble (Nat.mul bytes m) 1073741824=true from by rw[Nat.ble_eq];exact hb2];show eY .leaf 0 more _=true;refine iL (fun c hc hg=>kP ?_);rw[bG];exact gE (l:=more) hml.symm hs.wf hc hg (fun s' xx _ ho=>hk _ _ ⟨_,hs.new xx ho,h s.n⟩)
end
section
variable{P:Program}{C:Nat->(CF->Bool)->Bool}{X:FuncId->List Value->St->(Value->St->Bool)->Bool}{s0:St}{n nt:Nat}{env:List (Nat×Value)}{A:List Ob}{dd:Nat}{ll:List Item}{QQ:List (Nat×Value)->List Ob->Prop}
theorem aH(hx:xv env x=some (.pointer (some ⟨b,o,none⟩)))(h:lW P C X s0 n nt ll ((dd,(.pointer (some ⟨b,o+off,none⟩)))::env) A QQ)(hd9:yC (some dd) nt=true:=by exact rfl):lW P C X s0 n nt (⟨none,some dd,(.fa x off)⟩::ll) env A QQ:=kO (Q2 hx h) hd9
theorem aL{a:Ev.X}{op:Bool}{l:List Value}(ha:xv env a=some (.pointer (some ⟨b,off,none⟩)))(ho:lK A b e op l)(hv:l[off]? = some v)(h:lW P C X s0 n nt ll ((dd,v)::env) A QQ)(hd9:yC (some dd) nt=true:=by exact rfl):lW P C X s0 n nt (⟨none,some dd,(.ld a none)⟩::ll) env A QQ:=kO (Y1 ha ho hv h) hd9
theorem aX{a b:Int}(hx:xv env x=some (.int .i64 a))(hy:xv env y=some (.int .i64 b))(hr:-9223372036854775808<=a+b/\a+b<9223372036854775808)(h:lW P C X s0 n nt ll ((dd,(.int .i64 (a+b)))::env) A QQ)(hd9:yC (some dd) nt=true:=by exact rfl):lW P C X s0 n nt (⟨none,some dd,(.bin .add t d x y)⟩::ll) env A QQ:=kO (Y3 hx hy hr h) hd9
theorem bK{c a b:Ev.X}{v u:Value}(hc:xv env c=some (.bool false))(ha:xv env a=some v)(hb:xv env b=some u)(h:lW P C X s0 n nt ll ((dd,u)::env) A QQ)(hd9:yC (some dd) nt=true:=by exact rfl):lW P C X s0 n nt (⟨none,some dd,(.pick c a b)⟩::ll) env A QQ:=kO (U1 hc ha hb h) hd9
theorem cA{c a b:Ev.X}{v u:Value}(hc:xv env c=some (.bool true))(ha:xv env a=some v)(hb:xv env b=some u)(h:lW P C X s0 n nt ll ((dd,v)::env) A QQ)(hd9:yC (some dd) nt=true:=by exact rfl):lW P C X s0 n nt (⟨none,some dd,(.pick c a b)⟩::ll) env A QQ:=kO (W2 hc ha hb h) hd9
theorem cN{x i:Ev.X}{b o m c j size:Nat}{ik:IntKind}(hx:xv env x=some (.slice (some ⟨b,o,none⟩) m c))(hi:xv env i=some (.int ik z))(hz:z=(j:Int))(hj:j<m)(h:lW P C X s0 n nt ll ((dd,(.pointer (some ⟨b,o+j*size,none⟩)))::env) A QQ)(hd9:yC (some dd) nt=true:=by exact rfl):lW P C X s0 n nt (⟨none,some dd,(.ia x i size)⟩::ll) env A QQ:=kO (Z3 hx hi hz hj h) hd9
theorem dB{k:IntKind}{a b:Int}(hx:xv env x=some (.int k a))(hy:xv env y=some (.int k b))(h1:a<b->lW P C X s0 n nt ll ((dd,(.bool true))::env) A QQ)(h2:¬a<b->lW P C X s0 n nt ll ((dd,(.bool false))::env) A QQ)(hd9:yC (some dd) nt=true:=by exact rfl):lW P C X s0 n nt (⟨none,some dd,(.bin .lss t d x y)⟩::ll) env A QQ:=kO (W5 hx hy h1 h2) hd9
theorem dD{a:Ev.X}{op:Bool}{l r:List Value}(ha:xv env a=some (.pointer (some ⟨b,off,none⟩)))(h0:m≠0)(ho:lK A b e op l)(hv:jD l off m=some r)(h:lW P C X s0 n nt ll ((dd,(.agg ⟨r⟩))::env) A QQ)(hd9:yC (some dd) nt=true:=by exact rfl):lW P C X s0 n nt (⟨none,some dd,(.ld a (some m))⟩::ll) env A QQ:=kO (V4 ha h0 ho hv h) hd9
theorem aJ(hx:xv env x=some (.slice a m c))(ha:∀b,a=some b->b.spot=none)(h:lW P C X s0 n nt ll ((dd,(.int .i64 (m:Int)))::env) A QQ)(hd9:yC (some dd) nt=true:=by exact rfl):lW P C X s0 n nt (⟨none,some dd,(.len x)⟩::ll) env A QQ:=kO (oH hx ha h) hd9
theorem aV{a b:Int}(hx:xv env x=some (.int .i64 a))(hy:xv env y=some (.int .i64 b))(hr:-9223372036854775808<=a*b/\a*b<9223372036854775808)(h:lW P C X s0 n nt ll ((dd,(.int .i64 (a*b)))::env) A QQ)(hd9:yC (some dd) nt=true:=by exact rfl):lW P C X s0 n nt (⟨none,some dd,(.bin .mul t d x y)⟩::ll) env A QQ:=kO (FO hx hy hr h) hd9
theorem eG{z:List Value}{ps:List (Nat×Nat×Ev.X)}{vs:List (Nat×Nat×Value)}{l:List Value}(hp:Sk env ps=some vs)(hf:BM z vs=some l)(h:lW P C X s0 n nt ll ((dd,(.agg ⟨l⟩))::env) A QQ)(hd9:yC (some dd) nt=true:=by exact rfl):lW P C X s0 n nt (⟨none,some dd,(.build z ps)⟩::ll) env A QQ:=kO (Z6 hp hf h) hd9
theorem eK{l:List Value}{i:Nat}(hx:xv env x=some (.tuple ⟨l⟩))(hi:l[i]? = some v)(h:lW P C X s0 n nt ll ((dd,v)::env) A QQ)(hd9:yC (some dd) nt=true:=by exact rfl):lW P C X s0 n nt (⟨none,some dd,(.ext x i)⟩::ll) env A QQ:=kO (V1 hx hi h) hd9
theorem eP{b:Bool}(hx:xv env x=some (.bool b))(h:lW P C X s0 n nt ll ((dd,(.bool (!b)))::env) A QQ)(hd9:yC (some dd) nt=true:=by exact rfl):lW P C X s0 n nt (⟨none,some dd,(.un .not x)⟩::ll) env A QQ:=kO (U6 hx h) hd9
theorem aY{z:BT Value}{l:List Value}(hf:xM z m=true)(hz:wM z 0 m=some l)(h:∀b,lW P C X s0 n nt ll ((dd,(.pointer (some ⟨b,0,none⟩)))::env) (.row b e false l::A) QQ)(hd9:yC (some dd) nt=true:=by exact rfl):lW P C X s0 n nt (⟨none,some dd,(.new e m z)⟩::ll) env A QQ:=kO (Tu hf hz h) hd9
theorem eT{a:Addr}(hx:xv env x=some (.pointer (some a)))(h:lW P C X s0 n nt ll ((dd,(.pointer (some a)))::env) A QQ)(hd9:yC (some dd) nt=true:=by exact rfl):lW P C X s0 n nt (⟨none,some dd,(.nilc x)⟩::ll) env A QQ:=kO (W4 hx h) hd9
theorem aZ{l:List Value}(hx:xv env x=some v)(hc:v.cells=⟨l⟩)(h1:eZ l=true)(h:∀b,lW P C X s0 n nt ll ((dd,(.pointer (some ⟨b,0,none⟩)))::env) (.row b e false l::A) QQ)(hd9:yC (some dd) nt=true:=by exact rfl):lW P C X s0 n nt (⟨none,some dd,(.box e x)⟩::ll) env A QQ:=kO (Tv hx hc h1 h) hd9
end
end Go.Proofs.YtjkdkpckjgaplaaGreat.Ev
namespace Go.Proofs.YtjkdkpckjgaplaaGreat
open Go Go.RowKit
namespace Ev
variable{hi m:Int}{l:List Int}{k:Nat}
def qT(lo hi:Int)(l:List Int):Bool:=l.all fun x=>decide (lo<=x/\x<=hi)
theorem GY{lo hi:Int}(hk:k<l.length):qT lo hi (l.drop k)=(decide (lo<=l.getD k 0/\l.getD k 0<=hi) && qT lo hi (l.drop (k+1))):=by
 rw[List.drop_eq_getElem_cons hk,List.getD_eq_getElem?_getD,List.getElem?_eq_getElem hk];rfl
theorem nE{lo hi:Int}(hk:k<l.length)(hi':qT lo hi l=qT lo hi (l.drop k))(h:¬(lo<=l.getD k 0/\l.getD k 0<=hi)):qT lo hi l=false:=by
 rw[hi',GY hk,decide_eq_false h];rfl
theorem yR{lo hi:Int}(hk:k<l.length)(hi':qT lo hi l=qT lo hi (l.drop k))(h:lo<=l.getD k 0/\l.getD k 0<=hi):qT lo hi l=qT lo hi (l.drop (k+1)):=by
 rw[hi',GY hk,decide_eq_true h];rfl
theorem nF{lo hi:Int}(hi':qT lo hi l=qT lo hi (l.drop k))(hk:l.length<=k):qT lo hi l=true:=by
 rw[hi',List.drop_eq_nil_of_le hk];rfl
theorem Lm{lo hi:Int}(h:qT lo hi l=true)(hk:k<l.length):lo<=l.getD k 0/\l.getD k 0<=hi:=by
 have:=List.all_eq_true.1 h _ (Lg hk);simpa using this
def kS:List Int->Bool
 |a::b::l=>decide (a<b) && kS (b::l)
 |_=>true
theorem pC(hk:k+1<l.length):kS (l.drop k)=(decide (l.getD k 0<l.getD (k+1) 0) && kS (l.drop (k+1))):=by
 rw[List.drop_eq_getElem_cons (show k<l.length from oM),List.drop_eq_getElem_cons hk,List.getD_eq_getElem?_getD,List.getD_eq_getElem?_getD,List.getElem?_eq_getElem (show k<l.length from oM),List.getElem?_eq_getElem hk];rfl
theorem kU(hk:k+1<l.length)(hi:kS l=kS (l.drop k))(h:¬l.getD k 0<l.getD (k+1) 0):kS l=false:=by
 rw[hi,pC hk,decide_eq_false h];rfl
theorem Az(hk:k+1<l.length)(hi:kS l=kS (l.drop k))(h:l.getD k 0<l.getD (k+1) 0):kS l=kS (l.drop (k+1)):=by
 rw[hi,pC hk,decide_eq_true h];rfl
theorem kV(hi:kS l=kS (l.drop k))(hk:l.length<=k+1):kS l=true:=by
 rw[hi];by_cases h:k<l.length
 ·rw[List.drop_eq_getElem_cons h,List.drop_eq_nil_of_le oM];rfl
 ·rw[List.drop_eq_nil_of_le oM];rfl
theorem GZ{l:List Int}(h:kS l=true):∀{k:Nat},k+1<l.length->kS (l.drop k)=true/\l.getD k 0<l.getD (k+1) 0
 |0,hk=>by
  have h0:kS (l.drop 0)=true:=h;refine⟨h0,?_⟩;rw[pC hk,Bool.and_eq_true] at h0;exact of_decide_eq_true h0.1
 |k+1,hk=>by
  have h1:=(GZ h (k:=k) oM).1;rw[pC oM,Bool.and_eq_true] at h1;have h2:=h1.2;refine⟨h2,?_⟩;rw[pC hk,Bool.and_eq_true] at h2;exact of_decide_eq_true h2.1
def gJ(m:Int)(hi:Int)(l:List Int):Bool:=decide (2<=(l.length:Int)/\(l.length:Int)<=m) && qT 0 hi l && kS l
theorem jQ(h:¬(2<=(l.length:Int)/\(l.length:Int)<=m)):gJ m hi l=false:=by
 unfold gJ;rw[decide_eq_false h];rfl
theorem jR(h:qT 0 hi l=false):gJ m hi l=false:=by
 unfold gJ;rw[h];simp
theorem kW(h:kS l=false):gJ m hi l=false:=by
 unfold gJ;rw[h];simp
theorem iR(h:2<=(l.length:Int)/\(l.length:Int)<=m)(h2:qT 0 hi l=true)(h3:kS l=true):gJ m hi l=true:=by
 unfold gJ;rw[decide_eq_true h,h2,h3];rfl
structure tP(m:Int)(hi:Int)(l:List Int):Prop where
 h2:2<=l.length
 hm:(l.length:Int)<=m
 lo:∀k,0<=l.getD k 0/\l.getD k 0<=hi
 rise:∀k,k+1<l.length->l.getD k 0<l.getD (k+1) 0
theorem Cu(h0:0<=hi)(h:gJ m hi l=true):tP m hi l:=by
 unfold gJ at h;rw[Bool.and_eq_true,Bool.and_eq_true] at h;obtain⟨⟨h1,h2⟩,h3⟩:=h;have h1:=of_decide_eq_true h1;refine⟨oM,h1.2,fun k=>?_,fun k hk=>(GZ h3 hk).2⟩;by_cases hk:k<l.length
 ·exact Lm h2 hk
 ·rw[List.getD_eq_getElem?_getD,List.getElem?_eq_none oM];exact⟨Int.le_refl _,h0⟩
section
variable{X:FuncId->List Value->St->(Value->St->Bool)->Bool}
theorem iE(n:Nat)(x lo hi:Int)(s:St)(hs:Wf s):bX Tryz.prog (bZ cB) X (n+20) 52 [.int .i64 x,.int .i64 lo,.int .i64 hi] s (fun v A=>v = .bool (decide (lo<=x/\x<=hi))/\A=[]):=by
 refine enter OY rfl hs ?_;unfold NE;refine rS (kM J (Q0 (rS (kM J (kM J (kO (eV J J (fun h1=>?_) (fun h1=>?_))))))))
 ·refine kM J (kG (U2 J (kG (U2 J (kG (eV J J (fun h2=>?_) (fun h2=>?_)))))))
  ·refine cA J J J (kM J (Q0 (V2 (aO J ⟨congrArg Value.bool ?_,rfl⟩))))
   first|exact(decide_eq_true oM).symm|exact(decide_eq_false oM).symm
  ·refine cA J J J (kM J (Q0 (V2 (aO J ⟨congrArg Value.bool ?_,rfl⟩))))
   first|exact(decide_eq_true oM).symm|exact(decide_eq_false oM).symm
 ·refine kM J (V0 (V0 (V0 (bK J J J (kM J (Q0 (V2 (aO J ⟨congrArg Value.bool ?_,rfl⟩))))))))
  first|exact(decide_eq_true oM).symm|exact(decide_eq_false oM).symm
theorem sY(n:Nat)(x lo hi:Int)(s:St)(hs:Wf s):bX Tryz.prog (bZ cB) X (n+20) 48 [.int .i64 x,.int .i64 lo,.int .i64 hi] s (fun v A=>v = .bool (decide (lo<=x/\x<=hi))/\A=[]):=by
 refine enter OV rfl hs ?_;unfold Nx;refine rS (kM J (Q0 (rS (kM J (kM J (kO (xP J J (fun h1=>?_) (fun h1=>?_))))))))
 ·refine kM J (kG (U2 J (kG (U2 J (kG (eV J J (fun h2=>?_) (fun h2=>?_)))))))
  ·refine cA J J J (kM J (Q0 (V2 (aO J ⟨congrArg Value.bool ?_,rfl⟩))))
   first|exact(decide_eq_true oM).symm|exact(decide_eq_false oM).symm
  ·refine cA J J J (kM J (Q0 (V2 (aO J ⟨congrArg Value.bool ?_,rfl⟩))))
   first|exact(decide_eq_true oM).symm|exact(decide_eq_false oM).symm
 ·refine kM J (V0 (V0 (V0 (bK J J J (kM J (Q0 (V2 (aO J ⟨congrArg Value.bool ?_,rfl⟩))))))))
  first|exact(decide_eq_true oM).symm|exact(decide_eq_false oM).symm
theorem qC(n:Nat)(x:Int)(s:St)(hs:Wf s):bX Tryz.prog (bZ cB) X (n+30) 51 [.int .i64 x] s (fun v A=>v = .bool (decide (1<=x/\x<=99999))/\A=[]):=by
 refine enter OX rfl hs ?_;unfold NC;refine rS (kM J (Q0 (rS (kM J (kO (bB J J (fun s1 h1=>iE _ _ _ _ s1 h1.wf) (fun h1=>?_) (fun h1=>?_)))))))
 ·refine kM J (Q0 (V2 (aO J ⟨congrArg Value.bool ?_,rfl⟩)))
  first|exact(decide_eq_true oM).symm|exact(decide_eq_false oM).symm
 ·refine kM J (Q0 (V2 (aO J ⟨congrArg Value.bool ?_,rfl⟩)))
  first|exact(decide_eq_true oM).symm|exact(decide_eq_false oM).symm
theorem DB(n:Nat)(a:Option Addr)(cap:Nat)(l:List Int)(lo hi:Int)(s:St)(hs:Wf s)(hn:281474976710656<=n)(hl:aN s a l):bX Tryz.prog (bZ cB) X (n+100) 150 [.slice a l.length cap,.int .i64 lo,.int .i64 hi] s (fun v A=>v = .bool (qT lo hi l)/\A=[]):=by
 refine enter KI rfl hs ?_;unfold Gh;have hlen:=hl.len;refine rS (kM J (Q0 (rQ (rS (kM J (aJ J hl.spot (kM J (Q0 (W1 (U4 (fun j e A=>∃(k:Nat),e=[(9,.slice a l.length cap),(10,.int .i64 (l.length:Int)),(11,.int .i64 (k:Int)),(1,.int .i64 lo),(2,.int .i64 hi)]/\A=[]/\j=l.length-k/\k<=l.length/\qT lo hi l=qT lo hi (l.drop k)) 60 0 281474976710656 ?_ (j:=_) (env2:=_) (A2:=_) ?_ ?_ ?_ ?_ ⟨0,rfl,rfl,rfl,Nat.zero_le _,rfl⟩))))))))))
 rotate_left
 ·omega
 ·omega
 ·exact lL
 ·exact .slnil
 rintro n hn j _ _ ⟨k,rfl,rfl,rfl,hk,hi'⟩;refine rS (dB J J (fun h1=>?_) (fun h1=>?_))
 ·refine Q0 (rQ (Y0 J (Q1 (W0 (rQ (W1 (rS (kO (Q7 (j:=k) hl rfl rfl oM (by first|rfl|omega) oM (fun _ _ a2=>(kO (W6 J (hl.at a2 oM) (kM J (Q0 (rS (kM J (kM J (dB J J (fun h3=>?_) (fun h3=>?_)))))))))))))))))))
  ·refine kM J (V0 (V0 (V0 (cA J J J (Q0 (Y0 J (rS (kM J (Q0 (V2 (Y6 (W3 (W3 (Y6 (W3 (aO J ⟨congrArg Value.bool ?_,rfl⟩))))))))))))))))
   first
    |exact(nE oM hi' oM).symm
    |exact(nF hi' oM).symm
  ·refine kM J (kG (U2 J (kG (U2 J (kG (dR J J (fun h4=>?_) (fun h4=>?_)))))))
   ·refine bK J J J (Q0 (Y0 J (rS (kM J (Q0 (V2 (Y6 (W3 (W3 (Y6 (W3 (aO J ⟨congrArg Value.bool ?_,rfl⟩))))))))))))
    first
     |exact(nE oM hi' oM).symm
     |exact(nF hi' oM).symm
   ·refine bK J J J (Q0 (U0 J (Q1 (Z1 (W0 (rI (aX J J oM (kM J (Q0 (W0 ?_))))))))))
    exact⟨rfl,_,_,_,(show l.length-(k+1)<l.length-k from oM),lL,.slnil,⟨k+1,rfl,rfl,rfl,oM,yR oM hi' oM⟩⟩
 ·refine Q0 (rQ (U0 J (Y4 (Z2 (Z2 (Q3 (W0 (rS (kM J (Q0 (V2 (aO J ⟨congrArg Value.bool ?_,rfl⟩))))))))))))
  first
   |exact(nE oM hi' oM).symm
   |exact(nF hi' oM).symm
theorem oJ(n:Nat)(a:Option Addr)(cap:Nat)(l:List Int)(s:St)(hs:Wf s)(hn:562949953421312<=n)(hl:aN s a l):bX Tryz.prog (bZ cB) X (n+200) 149 [.slice a l.length cap] s (fun v A=>v = .int .i64 (if gJ 9 100000 l=true then 0 else 12)/\A=[]):=by
 refine enter KH rfl hs ?_;unfold Gg;have hlen:=hl.len;refine rS (kM J (Q0 (rQ (rS (kM J (aJ J hl.spot (dB J J (fun h1=>?_) (fun h1=>?_))))))))
 ·refine kM J (V0 (V0 (V0 (cA J J J (kM J (V0 (V0 (V0 (cA J J J (Q0 (Y0 J (rS (kM J (Q0 (V2 (W3 (aO J ⟨congrArg (Value.int .i64) ?_,rfl⟩)))))))))))))))))
  first
   |(rw[jQ oM];rfl)
   |(rw[jR aM];rfl)
   |(rw[kW (kU oM hi' oM)];rfl)
   |(rw[iR oM aM (kV hi' oM)];rfl)
 ·refine kM J (kG (U2 J (kG (oH J hl.spot (kG (dR J J (fun h2=>?_) (fun h2=>?_)))))))
  ·refine bK J J J (kM J (V0 (V0 (V0 (cA J J J (Q0 (Y0 J (rS (kM J (Q0 (V2 (W3 (aO J ⟨congrArg (Value.int .i64) ?_,rfl⟩)))))))))))))
   first
    |(rw[jQ oM];rfl)
    |(rw[jR aM];rfl)
    |(rw[kW (kU oM hi' oM)];rfl)
    |(rw[iR oM aM (kV hi' oM)];rfl)
  ·refine bK J J J (kM J (kG (U2 J (kG (qB J J (fun s1 h1=>DB _ _ _ _ _ _ s1 h1.wf oM (hl.ext hs h1.2.1)) (fun h3=>?_) (fun h3=>?_))))))
   ·refine kG (U6 J (bK J J J (Q0 (U0 J (Q1 (W0 (rQ (rS (kM J (aJ J hl.spot (kO (bN J J oM (kM J (Q0 (W1 (U4 (fun j e A=>∃(k:Nat),e=[(0,.slice a l.length cap),(19,.int .i64 ((l.length:Int)-1)),(20,.int .i64 (k:Int))]/\A=[]/\j=l.length-k/\k+1<=l.length/\kS l=kS (l.drop k)) 90 0 281474976710656 ?_ (j:=_) (env2:=_) (A2:=_) ?_ ?_ ?_ ?_ ⟨0,rfl,rfl,rfl,oM,rfl⟩))))))))))))))))
    rotate_left
    ·omega
    ·omega
    ·exact lL
    ·exact .slnil
    rintro n hn j _ _ ⟨k,rfl,rfl,rfl,hk,hi'⟩;refine rS (dB J J (fun h4=>?_) (fun h4=>?_))
    ·refine Q0 (rQ (Y0 J (Q1 (W0 (rQ (W1 (rS (kM J (kM J (Q0 (rS (kM J (kM J (kO (Q7 (j:=k) hl rfl rfl oM (by first|rfl|omega) oM (fun _ _ a5=>(kO (W6 J (hl.at a5 oM) (kM J (kM J (aX J J oM (kO (Q7 (j:=k+1) hl rfl rfl oM (by first|rfl|omega) oM (fun _ _ a6=>(kO (W6 J (hl.at a6 oM) (kO (xP J J (fun h7=>?_) (fun h7=>?_)))))))))))))))))))))))))))))
     ·refine Q0 (Y0 J (rS (kM J (Q0 (V2 (Y6 (W3 (W3 (Y6 (W3 (aO J ⟨congrArg (Value.int .i64) ?_,rfl⟩)))))))))))
      first
       |(rw[jQ oM];rfl)
       |(rw[jR aM];rfl)
       |(rw[kW (kU oM hi' oM)];rfl)
       |(rw[iR oM aM (kV hi' oM)];rfl)
     ·refine Q0 (U0 J (Q1 (Z1 (W0 (rI (aX J J oM (kM J (Q0 (W0 ?_)))))))))
      exact⟨rfl,_,_,_,(show l.length-(k+1)<l.length-k from oM),lL,.slnil,⟨k+1,rfl,rfl,rfl,oM,Az oM hi' oM⟩⟩
    ·refine Q0 (rQ (U0 J (Y4 (Z2 (Z2 (Q3 (W0 (rS (kM J (Q0 (V2 (aO J ⟨congrArg (Value.int .i64) ?_,rfl⟩))))))))))))
     first
      |(rw[jQ oM];rfl)
      |(rw[jR aM];rfl)
      |(rw[kW (kU oM hi' oM)];rfl)
      |(rw[iR oM aM (kV hi' oM)];rfl)
   ·refine kG (U6 J (bK J J J (Q0 (Y0 J (rS (kM J (Q0 (V2 (W3 (aO J ⟨congrArg (Value.int .i64) ?_,rfl⟩))))))))))
    first
     |(rw[jQ oM];rfl)
     |(rw[jR aM];rfl)
     |(rw[kW (kU oM hi' oM)];rfl)
     |(rw[iR oM aM (kV hi' oM)];rfl)
theorem AA(n:Nat)(a:Option Addr)(cap:Nat)(l:List Int)(m hi:Int)(s:St)(hs:Wf s)(hn:281474976710656<=n)(hm:2<=m)(hl:aN s a l):bX Tryz.prog (bZ cB) X (n+200) 103 [.slice a l.length cap,.int .i64 m,.int .i64 hi] s (fun v A=>v = .bool (gJ m hi l)/\A=[]):=by
 refine enter Kk rfl hs ?_;unfold FR;have hlen:=hl.len;refine rS (kM J (Q0 (rQ (rS (kM J (aJ J hl.spot (dB J J (fun h1=>?_) (fun h1=>?_))))))))
 ·refine kM J (V0 (V0 (V0 (V0 (cA J J J (Q0 (Y0 J (rS (kM J (Q0 (V2 (W3 (aO J ⟨congrArg Value.bool ?_,rfl⟩)))))))))))))
  first
   |exact(jQ oM).symm
   |exact(jR (nE oM hi' oM)).symm
   |exact(kW (kU (k:=k-1) oM hr' (by rw[Nat.sub_add_cancel oM];omega))).symm
   |exact(iR oM (nF hi' oM) (kV hr' oM)).symm
 ·refine kM J (kG (U2 J (kG (oH J hl.spot (kG (U2 J (kG (dR J J (fun h2=>?_) (fun h2=>?_)))))))))
  ·refine bK J J J (Q0 (Y0 J (rS (kM J (Q0 (V2 (W3 (aO J ⟨congrArg Value.bool ?_,rfl⟩))))))))
   first
    |exact(jQ oM).symm
    |exact(jR (nE oM hi' oM)).symm
    |exact(kW (kU (k:=k-1) oM hr' (by rw[Nat.sub_add_cancel oM];omega))).symm
    |exact(iR oM (nF hi' oM) (kV hr' oM)).symm
  ·refine bK J J J (Q0 (U0 J (Q1 (W0 (rQ (rS (kM J (Q0 (W1 (U4 (fun j e A=>∃(k:Nat),e=[(0,.slice a l.length cap),(7,.int .i64 (k:Int)),(1,.int .i64 m),(2,.int .i64 hi)]/\A=[]/\j=l.length-k/\k<=l.length/\qT 0 hi l=qT 0 hi (l.drop k)/\kS l=kS (l.drop (k-1))) 140 0 281474976710656 ?_ (j:=_) (env2:=_) (A2:=_) ?_ ?_ ?_ ?_ ⟨0,rfl,rfl,rfl,oM,rfl,rfl⟩))))))))))
   rotate_left
   ·omega
   ·omega
   ·exact lL
   ·exact .slnil
   rintro n hn j _ _ ⟨k,rfl,rfl,rfl,hk,hi',hr'⟩;refine rQ (rS (kM J (kM J (aJ J hl.spot (dB J J (fun h3=>?_) (fun h3=>?_))))))
   ·refine Q0 (Y0 J (Q1 (W0 (rQ (W1 (rS (kM J (kM J (kO (Q7 (j:=k) hl rfl rfl oM (by first|rfl|omega) oM (fun _ _ a4=>(kO (W6 J (hl.at a4 oM) (dB J J (fun h5=>?_) (fun h5=>?_)))))))))))))))
    ·refine kM J (V0 (V0 (V0 (V0 (V0 (V0 (cA J J J (kM J (V0 (V0 (V0 (V0 (V0 (V0 (V0 (V0 (V0 (V0 (V0 (V0 (V0 (V0 (cA J J J ?_)))))))))))))))))))))))
     refine Q0 (Y0 J (rS (kM J (Q0 (V2 (Y6 (W3 (W3 (Y6 (W3 (aO J ⟨congrArg Value.bool ?_,rfl⟩)))))))))))
     first
      |exact(jQ oM).symm
      |exact(jR (nE oM hi' oM)).symm
      |exact(kW (kU (k:=k-1) oM hr' (by rw[Nat.sub_add_cancel oM];omega))).symm
      |exact(iR oM (nF hi' oM) (kV hr' oM)).symm
    ·refine kM J (kG (U2 J (kG (U2 J (kG (Q7 (j:=k) hl rfl rfl oM (by first|rfl|omega) oM (fun _ _ a6=>(kG (W6 J (hl.at a6 oM) (kG (U2 J (kG (dR J J (fun h7=>?_) (fun h7=>?_))))))))))))))
     ·refine bK J J J (kM J (V0 (V0 (V0 (V0 (V0 (V0 (V0 (V0 (V0 (V0 (V0 (V0 (V0 (V0 (cA J J J (Q0 (Y0 J (rS (kM J (Q0 (V2 (Y6 ?_)))))))))))))))))))))))
      refine W3 (W3 (Y6 (W3 (aO J ⟨congrArg Value.bool ?_,rfl⟩))))
      first
       |exact(jQ oM).symm
       |exact(jR (nE oM hi' oM)).symm
       |exact(kW (kU (k:=k-1) oM hr' (by rw[Nat.sub_add_cancel oM];omega))).symm
       |exact(iR oM (nF hi' oM) (kV hr' oM)).symm
     ·refine bK J J J (kM J (kG (U2 J (kG (dR J J (fun h8=>?_) (fun h8=>?_))))))
      ·refine kG (U2 J (kG (U2 J (kG (U2 J (kG (bN J J oM (kG (Q7 (j:=k-1) hl rfl rfl oM sM oM (fun _ _ a99=>(kG (W6 J (hl.at a99 oM) (kG (U2 J (kG (U2 J (kG (Q7 (j:=k) hl rfl rfl oM (by first|rfl|omega) oM (fun _ _ a10=>(kG (W6 J (hl.at a10 oM) (kG (xP J J (fun h11=>?_) (fun h11=>?_))))))))))))))))))))))))
       ·refine kG (W2 J J J (bK J J J (Q0 (Y0 J (rS (kM J (Q0 (V2 (Y6 (W3 (W3 (Y6 (W3 (aO J ⟨congrArg Value.bool ?_,rfl⟩))))))))))))))
        first
         |exact(jQ oM).symm
         |exact(jR (nE oM hi' oM)).symm
         |exact(kW (kU (k:=k-1) oM hr' (by rw[Nat.sub_add_cancel oM];omega))).symm
         |exact(iR oM (nF hi' oM) (kV hr' oM)).symm
       ·refine kG (W2 J J J (bK J J J (Q0 (U0 J (Q1 (Z1 (W0 (rI (kM J (aX J J oM (kM J (Q0 (W0 ?_)))))))))))))
        exact⟨rfl,_,_,_,(show l.length-(k+1)<l.length-k from oM),lL,.slnil,⟨k+1,rfl,rfl,rfl,oM,yR oM hi' oM,(by rcases Nat.eq_zero_or_pos k with hk0|hk0;(rw[hk0] at hr';rw[hk0];exact hr');(have q:=Az (k:=k-1) oM hr' (by rw[Nat.sub_add_cancel oM];omega);rw[Nat.sub_add_cancel oM] at q;exact q))⟩⟩
      ·refine kG (U2 J (V0 (V0 (V0 (V0 (V0 (V0 (V0 (V0 (V0 (V0 (kG (U1 J J J (bK J J J (Q0 (U0 J (Q1 (Z1 (W0 (rI (kM J (aX J J oM (kM J (Q0 (W0 ?_)))))))))))))))))))))))))
       exact⟨rfl,_,_,_,(show l.length-(k+1)<l.length-k from oM),lL,.slnil,⟨k+1,rfl,rfl,rfl,oM,yR oM hi' oM,(by rcases Nat.eq_zero_or_pos k with hk0|hk0;(rw[hk0] at hr';rw[hk0];exact hr');(have q:=Az (k:=k-1) oM hr' (by rw[Nat.sub_add_cancel oM];omega);rw[Nat.sub_add_cancel oM] at q;exact q))⟩⟩
   ·refine Q0 (U0 J (Y4 (Z2 (Z2 (Q3 (W0 (rS (kM J (Q0 (V2 (aO J ⟨congrArg Value.bool ?_,rfl⟩)))))))))))
    first
     |exact(jQ oM).symm
     |exact(jR (nE oM hi' oM)).symm
     |exact(kW (kU (k:=k-1) oM hr' (by rw[Nat.sub_add_cancel oM];omega))).symm
     |exact(iR oM (nF hi' oM) (kV hr' oM)).symm
end
end Ev
end Go.Proofs.YtjkdkpckjgaplaaGreat
