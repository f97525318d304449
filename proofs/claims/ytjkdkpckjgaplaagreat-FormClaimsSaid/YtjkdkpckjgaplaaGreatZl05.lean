import Derived.Test.YtjkdkpckjgaplaaGreatZl04
import Derived.IntWalk
set_option linter.unusedVariables false
set_option linter.unusedSimpArgs false
namespace Go.Proofs.YtjkdkpckjgaplaaGreat.Ev
open Go Go.RowKit
/-! What rH again -/
variable{i:Nat}{x:Item}{k:BT Value->St->Bool}
section
variable{P:Program}{B:Nat}{ops:Array Oper}{Ti:BT Value}{K0:Kp}{m0:Mp}{a0:Act}{w0:World}{V:Nat->Value}{T:BT Value}{S:St}{D:List Nat}{E L:Array Bool}{H:Nat->Nat}{z:Prop}{K:Kp}{m:Mp}{w:World}{a:Act}{O:OK}
theorem EJ{T:BT Value}{g:Option (Nat×Bool)}(h:tM T g)(h':rJ T g):False:=by
 rcases g with _|⟨t,w⟩
 ·exact h'
 ·obtain⟨v,h1,h2⟩:=h'
  have h3:T.get t=some (.bool w):=h;rw[h1] at h3;cases h3;exact h2 rfl
theorem FF{α:Type}{a b:Option α}(h:∀v,a=some v↔b=some v):a=b:=by
 cases a with
 |none=>
  cases b with
  |none=>rfl
  |some v=>exact(h v).2 rfl
 |some v=>exact((h v).1 rfl).symm
structure FG(P:Program)(ops:Array Oper)(V:Nat->Value)(Ti T:BT Value)(i:Nat):Prop where
 reads:∀o,ops[i]? = some o->isLook o.op=true->∀t∈readsT P ops o,∀v,T.get t=some v↔kH ops V Ti (oF o) t v
 dst:∀o d,ops[i]? = some o->o.dst=some d->T.get d=some (V i)
theorem FH{o:Oper}{x:COp}(h:x=orBad (compOp P o))(hl:rH x=true):isLook o.op=true:=by
 cases hc:compOp P o with
 |none=>rw[hc] at h;subst h;cases hl
 |some c=>
  rw[hc] at h;subst h;exact(wF (dst:=o.dst) (op:=o.op) (ty:=o.type) (pos:=o.pos) (af:=o.after) (gd:=o.guard) hc).2.1 hl
theorem mC.up_l(hx:compItem P ops i=some x)(hl:rH x.op=false)(h:mC P ops V Ti S K0 K H False i):mC P ops V Ti S K0 K H True i:=by
 obtain⟨x',o,Tj,h1,h2,h3,h4,h5,hT,h6⟩:=h;rw[hx] at h1;cases h1;refine⟨x,o,Tj,hx,h2,h3,h4,h5,hT,?_⟩;rcases h6 with ⟨h6,c,h7,h9⟩|h6
 ·refine .inl ⟨h6,c,h7,?_⟩
  rcases h9 with ⟨h9,h10⟩|h9
  ·refine .inl ⟨h9,fun _=>h10 (fun hc=>?_)⟩
   rw[h4,h7] at hl;have:rH c=false:=hl;rw[this] at hc;cases hc
  ·exact .inr h9
 ·exact .inr h6
theorem mC.up_n(hx:compItem P ops i=some x)(hl:rH x.op=true)(hA:FG P ops V Ti T i)(hg:rJ T x.g)(h:mC P ops V Ti S K0 K H False i):mC P ops V Ti S K0 K H True i:=by
 obtain⟨x',o,Tj,h1,h2,h3,h4,h5,hT,h6⟩:=h;rw[hx] at h1;cases h1;refine⟨x,o,Tj,hx,h2,h3,h4,h5,hT,?_⟩;rcases h6 with ⟨h6,_⟩|h6
 ·have he:∀t∈readsT P ops o,T.get t=Tj.get t:=fun t ht=>FF (fun v=>(hA.reads o h2 (FH h4 hl) t ht v).trans (hT t ht v).symm)
  exact(EJ (h6.same (fun t w e=>he t (uQ h5 t w e))) hg).elim
 ·exact .inr h6
theorem mC.up_v{i d:Nat}(hx:compItem P ops i=some x)(hl:rH x.op=true)(hA:FG P ops V Ti T i)(hd:x.d=some d){u:Value}(hu:T.get d=some u)(hr:∀k':Value->St->Bool,k' u S=true->V6 P T S x.op k'=true)(h:mC P ops V Ti S K0 K H False i):mC P ops V Ti S K0 K H True i:=by
 obtain⟨x',o,Tj,h1,h2,h3,h4,h5,hT,h6⟩:=h;rw[hx] at h1;cases h1;have hlo:=FH h4 hl;have hTn:=hA.reads o h2 hlo;have he:∀t∈readsT P ops o,T.get t=Tj.get t:=fun t ht=>FF (fun v=>(hTn t ht v).trans (hT t ht v).symm)
 have:=hA.dst o d h2 (by rw[<-h3];exact hd);rw[hu] at this;have hVi:V i=u:=(Option.some.inj this).symm;refine⟨x,o,T,hx,h2,h3,h4,h5,hTn,?_⟩;rcases h6 with ⟨h6,c,h7,h9⟩|⟨h6,h7⟩
 ·refine .inl ⟨h6.same (fun t w e=>he t (uQ h5 t w e)),c,h7,?_⟩
  rcases h9 with ⟨h9,h10⟩|⟨g,ob,h9,h10,h11,h12⟩
  ·refine .inl ⟨h9,fun _ k' hk'=>?_⟩
   rw[hVi] at hk';rw[h4,h7] at hr;exact hr k' hk'
  ·refine .inr ⟨g,ob,h9,h10,h11,fun m w ρ hρ=>h12 m w ρ (MQ he hρ)⟩
 ·exact .inr ⟨h6.same (fun t w e=>he t (uQ h5 t w e)),h7⟩
theorem EK{y:Item}(hy:againItem P ops i=some y)(hk:zU P O y T S k=true)(hA:FG P ops V Ti T i):k T S=true/\(mC P ops V Ti S K0 K H False i->mC P ops V Ti S K0 K H True i):=by
 unfold againItem at hy;split at hy
 ·rename_i x hx
  unfold againOf at hy;split at hy
  ·rename_i g d a n
   cases hy;have hk0:kI T g (bO T a (fun a=>bO T (.t d) (fun d=>vW S n a d (fun _ s=>k T s)))) (k T S)=true:=hk;rcases lT hk0 with ⟨_,h2⟩|⟨h1,h2⟩
   ·obtain⟨va,h3,h4⟩:=Q4 h2
    obtain⟨vd,h5,h6⟩:=Q4 h4;have h7:V6 P T S (.ld a n) (fun v s=>ifB (eqV v vd) (k T S) false)=true:=sH (T:=T) h3 h6;obtain⟨v,h8,h9⟩:=Dn (R:=fun s'=>S.ext s') (c:=.ld a n) J (fun _ _ h=>h) _ h7;obtain⟨h10,h11⟩:=Z5 h8;have:=Ck _ _ h10;subst this;exact⟨h11,mC.up_v hx rfl hA rfl h5 (fun k' hk'=>h9 T S k' (fun _ _ _ h=>h) (fun _ _ h=>h) hk')⟩
   ·exact⟨h2,mC.up_n hx rfl hA h1⟩
  ·rename_i g d e size x lo hi mx
   cases hy;have hk0:kI T g (bO T x (fun x=>eU T lo (fun lo=>eU T hi (fun hi=>eU T mx (fun mx=>bO T (.t d) (fun d=>nO S e size x lo hi mx (fun v=>ifB (eqV v d) (k T S) false))))))) (k T S)=true:=hk;rcases lT hk0 with ⟨_,h2⟩|⟨h1,h2⟩
   ·obtain⟨vx,q1,h3⟩:=Q4 h2
    obtain⟨vl,q2,h3⟩:=gW h3;obtain⟨vh,q3,h3⟩:=gW h3;obtain⟨vm,q4,h3⟩:=gW h3;obtain⟨vd,h5,h6⟩:=Q4 h3;have h7:V6 P T S (.slc e size x lo hi mx) (fun v s=>ifB (eqV v vd) (k T S) false)=true:=sH (T:=T) q1 (uM q2 (uM q3 (uM q4 h6)));obtain⟨v,h8,h9⟩:=Dn (R:=fun s'=>S.ext s') (c:=.slc e size x lo hi mx) J (fun _ _ h=>h) _ h7;obtain⟨h10,h11⟩:=Z5 h8;have:=Ck _ _ h10;subst this;exact⟨h11,mC.up_v hx rfl hA rfl h5 (fun k' hk'=>h9 T S k' (fun _ _ _ h=>h) (fun _ _ h=>h) hk')⟩
   ·exact⟨h2,mC.up_n hx rfl hA h1⟩
  ·rename_i g d t x lo hi mx
   cases hy;have hk0:kI T g (V6 P T S (.slcn t x lo hi mx) (fun _ s=>k T s)) (k T S)=true:=hk;rcases lT hk0 with ⟨_,h2⟩|⟨h1,h2⟩
   ·obtain⟨v,h8,_⟩:=Dn (R:=fun s'=>S.ext s') (c:=.slcn t x lo hi mx) J (fun _ _ h=>h) _ h2
    exact⟨h8,mC.up_l hx rfl⟩
   ·exact⟨h2,mC.up_l hx rfl⟩
  ·cases hy
 ·cases hy
theorem BF:∀{ks:List Nat} {ags xs:List Item} {k:BT Value->St->Bool},agains P ops ks=some ags->fH P O (ags++xs) T S k=true->(∀i∈ks,FG P ops V Ti T i)->fH P O xs T S k=true/\∀i∈ks,mC P ops V Ti S K0 K H False i->mC P ops V Ti S K0 K H True i
 |[],ags,xs,k,h,hk,_=>by
  cases h;exact⟨hk,fun i hi=>by cases hi⟩
 |i::ks,ags,xs,k,h,hk,hA=>by
  simp only[agains] at h;split at h
  ·rename_i y l h1 h2
   cases h;have hk0:zU P O y T S (fun T s=>fH P O (l++xs) T s k)=true:=hk;obtain⟨h3,h4⟩:=EK (K0:=K0) (K:=K) (H:=H) h1 hk0 (hA i sM);obtain⟨h5,h6⟩:=BF h2 h3 (fun j hj=>hA j (List.mem_cons_of_mem _ hj));exact⟨h5,fun j hj=>by
    rcases List.mem_cons.1 hj with rfl|hj
    ·exact h4
    ·exact h6 j hj⟩
  ·cases h
/-! How many are left -/
def MR(ops:Array Oper)(L:Array Bool):Nat:=((List.range ops.size).filter fun i=>!L.getD i false).length
theorem HO{p q:Nat->Bool}(h:∀i,q i=true->p i=true){j:Nat}(hp:p j=true)(hq:q j=false):∀{l:List Nat},j∈l->(l.filter q).length<(l.filter p).length:=by
 have le:∀l:List Nat,(l.filter q).length<=(l.filter p).length:=by
  intro l
  induction l with
  |nil=>exact Nat.le_refl _
  |cons x l ih=>
   simp only[List.filter_cons];cases hqx:q x with
   |true=>rw[h x hqx];simpa using ih
   |false=>
    cases hpx:p x with
    |true=>simp;omega
    |false=>simpa using ih
 intro l
 induction l with
 |nil=>intro hj;cases hj
 |cons x l ih=>
  intro hj;simp only[List.filter_cons];rcases List.mem_cons.1 hj with rfl|hj
  ·rw[hp,hq]
   have:=le l;simp;omega
  ·have:=ih hj
   cases hqx:q x with
   |true=>rw[h x hqx];simpa using this
   |false=>
    cases hpx:p x with
    |true=>simp;omega
    |false=>simpa using this
theorem MT{L:Array Bool}(hs:L.size=ops.size)(hi:i<ops.size)(hn:¬rB L i):MR ops (L.setIfInBounds i true)<MR ops L:=by
 have hset:=uO (L:=L) (i:=i) oM;refine HO (fun j hj=>?_) (j:=i) ?_ ?_ (List.mem_range.2 hi)
 ·cases hL:L.getD j false with
  |false=>rfl
  |true=>
   have:=(hset j).2 (.inr hL);unfold rB at this;rw[this] at hj;cases hj
 ·cases hL:L.getD i false with
  |false=>rfl
  |true=>exact absurd hL hn
 ·have:=(hset i).2 (.inl rfl)
  unfold rB at this;rw[this];rfl
theorem IO{L:Array Bool}(h:MR ops L=0)(hi:i<ops.size):rB L i:=by
 unfold MR at h;have h1:=List.eq_nil_of_length_eq_zero h;cases hL:L.getD i false with
 |true=>exact hL
 |false=>
  have:i∈(List.range ops.size).filter fun i=>!L.getD i false:=List.mem_filter.2 ⟨List.mem_range.2 hi,by rw[hL];rfl⟩
  rw[h1] at this;cases this
theorem vT.end_(I:vT P B ops Ti K0 m0 a0 w0 V T S D E H True L K m w a)(h:∀i,i∈D->rB L i)(hk:k T S=true):Df P K0 B m0 a0 w0 k a w:=
 ⟨T,S,m,hk,I.le,I.emb.less I.k0,fun t v ht=>I.tW t v (by
  rcases (I.tE t v).1 ht with ⟨i,o,h1,h2,h3,h4⟩|⟨h1,h2⟩
  ·exact .inl ⟨i,o,h i h1,h2,h3,h4⟩
  ·exact .inr ⟨fun i o hi=>h1 i o (I.sub i hi),h2⟩),I.df,I.bel⟩
theorem xJ(hU:wG P ops)(hO:∀K,kN P K B O){r:Option Nat}{n:Nat}{Q:Exit->Act->World->Prop}{k kf:BT Value->St->Bool}(hQ:∀a w,Df P K0 B m0 a0 w0 kf a w->Q .normal a w)(hN:Region.ready .any ops E=[]->kf T S=true)
 (hE:∀j,j∈Region.ready .any ops E->¬j∈D->∀fuel L K m w a,vT P B ops Ti K0 m0 a0 w0 V T S D E H True L K m w a->j∈Region.ready .any ops L->MR ops (L.setIfInBounds j true)<=fuel->wpOpIn (Fr r) n P ops Q j (wpAnyIn (Fr r) n P .any ops Q fuel (L.setIfInBounds j true)) a w) :
 ∀fuel L K m w a,vT P B ops Ti K0 m0 a0 w0 V T S D E H True L K m w a->MR ops L<=fuel->wpAnyIn (Fr r) n P .any ops Q fuel L a w:=by
 have fin:∀L K m w a,vT P B ops Ti K0 m0 a0 w0 V T S D E H True L K m w a->Region.ready .any ops L=[]->Q .normal a w:=by
  intro L K m w a I hr;have all:∀i,i∈D->rB L i:=by
   intro i hi;refine Classical.byContradiction fun hn=>?_
   obtain⟨j,o,h1,h2,h3,h4⟩:=I.ord.first (p:=rB L) ⟨i,hi,hn⟩
   have:j∈Region.ready .any ops L:=mem_ready.2 ⟨iK.2 ⟨by rw[I.sl];exact(Array.getElem?_eq_some_iff.1 h3).1,h2⟩,o,h3,h4⟩;rw[hr] at this;cases this
  refine hQ a w (I.end_ all (hN ?_));cases he:Region.ready .any ops E with
  |nil=>rfl
  |cons j js=>
   have hj:j∈Region.ready .any ops E:=by rw[he];simp
   obtain⟨h0,o,ho,hd⟩:=mem_ready.1 hj;obtain⟨hlt,hn⟩:=iK.1 h0;have:j∈Region.ready .any ops L:=mem_ready.2 ⟨iK.2 ⟨by rw[I.sl,<-I.se];exact hlt,fun h=>hn ((I.ed j).2 (I.sub j h))⟩,o,ho,fun e he hb=>all _ ((I.ed _).1 (hd e he hb))⟩;rw[hr] at this;cases this
 intro fuel
 induction fuel with
 |zero=>
  intro L K m w a I hc;have hr:Region.ready .any ops L=[]:=by
   cases he:Region.ready .any ops L with
   |nil=>rfl
   |cons j js=>
    have hj:j∈Region.ready .any ops L:=by rw[he];simp
    obtain⟨h0,o,ho,hd⟩:=mem_ready.1 hj;exact absurd (IO oM (Array.getElem?_eq_some_iff.1 ho).1) (iK.1 h0).2
  exact⟨hr,fin L K m w a I hr⟩
 |succ fuel ih=>
  intro L K m w a I hc;refine⟨fin L K m w a I,fun i hi=>?_⟩;obtain⟨h0,o,ho,hd⟩:=mem_ready.1 hi;obtain⟨hlt,hn⟩:=iK.1 h0;have hlt':i<ops.size:=(Array.getElem?_eq_some_iff.1 ho).1;have hcs:=MT (ops:=ops) I.sl hlt' hn;by_cases hD:i∈D
  ·exact I.pending hU hO hD hi (fun K' m' w' a' I'=>ih _ K' m' w' a' I' oM)
  ·refine hE i (mem_ready.2 ⟨iK.2 ⟨by rw[I.se];exact hlt',fun h=>hD ((I.ed i).1 h)⟩,o,ho,fun e he hb=>(I.ed _).2 (I.sub _ (hd e he hb))⟩) hD fuel L K m w a I hi oM
theorem pY:∀{l:List Nat} {j:Nat},pickCalm ops l=some j->j∈l/\∀o,ops[j]? = some o->calm o.op=true
 |i::l,j,h=>by
  simp only[pickCalm] at h;cases ho:ops[i]? with
  |none=>
   simp only[ho] at h;have h:pickCalm ops l=some j:=h;obtain⟨h1,h2⟩:=pY (l:=l) h;exact⟨List.mem_cons_of_mem _ h1,h2⟩
  |some o=>
   simp only[ho] at h;cases hb:calm o.op with
   |true=>
    rw[hb] at h;cases h;refine⟨sM,fun o' ho'=>?_⟩;rw[ho] at ho';cases ho';exact hb
   |false=>
    rw[hb] at h;obtain⟨h1,h2⟩:=pY (l:=l) h;exact⟨List.mem_cons_of_mem _ h1,h2⟩
theorem tC{ks:List Nat}{l:List (Nat×List Nat)}{items:List Item}(h:itemsOf P ops ((i,ks)::l)=some items):∃x ags xs,items=x::(ags++xs)/\compItem P ops i=some x/\agains P ops ks=some ags/\itemsOf P ops l=some xs:=by
 simp only[itemsOf] at h;split at h
 ·rename_i x ags xs h1 h2 h3
  cases h;exact⟨x,ags,xs,rfl,h1,h2,h3⟩
 ·cases h
def QW(ops:Array Oper)(D lds:List Nat):Prop:=(∀i∈D,∀o,ops[i]? = some o->isLook o.op=true->i∈lds)/\∀i∈lds,i∈D
theorem IP(hU:wG P ops)(hO:∀K,kN P K B O){r:Option Nat}{n:Nat}{Q:Exit->Act->World->Prop}(hQ:∀a w,Df P K0 B m0 a0 w0 k a w->Q .normal a w) :
 ∀(fl:Nat) (E:Array Bool) (lds:List Nat) (plan:List (Nat×List Nat)) (items:List Item),sched ops (Region.before ops) fl E lds=some plan->itemsOf P ops plan=some items->∀V T S D H,fH P O items T S k=true->QW ops D lds ->
  ∀fuel L K m w a,vT P B ops Ti K0 m0 a0 w0 V T S D E H True L K m w a->MR ops L<=fuel->wpAnyIn (Fr r) n P .any ops Q fuel L a w:=by
 have stop:∀(E:Array Bool) (items:List Item),itemsOf P ops []=some items->Region.ready .any ops E=[]->∀V T S D H,fH P O items T S k=true ->
  ∀fuel L K m w a,vT P B ops Ti K0 m0 a0 w0 V T S D E H True L K m w a->MR ops L<=fuel->wpAnyIn (Fr r) n P .any ops Q fuel L a w:=by
  intro E items hi he V T S D H hk;cases hi;exact xJ hU hO hQ (k:=k) (fun _=>hk) (fun j hj=>by rw[he] at hj;cases hj)
 intro fl
 induction fl with
 |zero=>
  intro E lds plan items hs hi V T S D H hk hl;simp only[sched] at hs;split at hs
  ·rename_i he
   cases hs;exact stop E items hi he V T S D H hk
  ·cases hs
 |succ fl ih=>
  intro E lds plan items hs hi V T S D H hk hl fuel L K m w a I hc;simp only[sched] at hs;split at hs
  ·rename_i he
   cases hs;exact stop E items hi he V T S D H hk fuel L K m w a I hc
  ·rename_i i rs he
   split at hs
   ·rename_i j hp
    split at hs
    ·rename_i l hl2
     cases hs;obtain⟨x,ags,xs,rfl,hx,ha,hxs⟩:=tC hi;cases ha;obtain⟨hj,hcalm⟩:=pY hp;rw[<-he] at hj;have hk0:zU P O x T S (fun T s=>fH P O xs T s k)=true:=hk;obtain⟨V',T',S',K',H',h1,h2⟩:=I.ahead hU hj hx hcalm hk0;refine ih _ _ l xs hl2 hxs V' T' S' (j::D) H' h1 ⟨fun i' hi' o' ho' hlook=>?_,fun i' hi'=>?_⟩ fuel L K' m w a h2 hc;rcases List.mem_cons.1 hi' with rfl|hi'
     ·simp only[ho',hlook]
      exact List.mem_cons_self
     ·cases hoj:ops[j]? with
      |none=>exact hl.1 i' hi' o' ho' hlook
      |some oj=>
       simp only;cases isLook oj.op with
       |true=>exact List.mem_cons_of_mem _ (hl.1 i' hi' o' ho' hlook)
       |false=>exact hl.1 i' hi' o' ho' hlook
     cases hoj:ops[j]? with
     |none=>
      rw[hoj] at hi';exact List.mem_cons_of_mem _ (hl.2 i' hi')
     |some oj=>
      rw[hoj] at hi';simp only at hi';cases hlk:isLook oj.op with
      |true=>
       rw[hlk] at hi';rcases List.mem_cons.1 hi' with rfl|hi'
       ·exact List.mem_cons_self
       ·exact List.mem_cons_of_mem _ (hl.2 i' hi')
      |false=>
       rw[hlk] at hi';exact List.mem_cons_of_mem _ (hl.2 i' hi')
    ·cases hs
   ·rename_i hp
    split at hs
    ·split at hs
     ·rename_i l hl2
      cases hs;obtain⟨x,ags,xs,rfl,hx,ha,hxs⟩:=tC hi;have hk0:zU P O x T S (fun T s=>fH P O (ags++xs) T s k)=true:=hk;have hcalm:∀o,ops[i]? = some o->calm o.op=false:=by
       intro o ho;simp only[pickCalm,ho] at hp;cases hcc:calm o.op with
       |false=>rfl
       |true=>rw[hcc] at hp;cases hp
      refine xJ hU hO hQ (k:=k) (fun h=>by rw[he] at h;cases h) (fun j hj hjD fuel L K m w a I hr hc=>?_) fuel L K m w a I hc;rw[he] at hj;have hji:j=i:=by simpa using hj
      subst hji;refine I.both hU hO hjD hr hx hk0 (fun V' T' S' m' w' a' h1 h2=>?_);have hlD:∀i'∈D,∀o,ops[i']? = some o->∀k,oF o k->k∈j::D:=fun i' hi' o ho k hk=>List.mem_cons_of_mem _ (I.ord.closed i' o hi' ho k hk)
      obtain⟨h3,h4⟩:=BF (V:=V') (Ti:=Ti) (K0:=K0) (K:=K) (H:=H) ha h1 (fun i' hi'=>⟨fun o ho hlk t ht v=>(h2.tE t v).trans (kH.look hU ho (hlD i' (hl.2 i' (List.mem_filter.1 hi').1) o ho) hlk ht),fun o d ho hdst=>(h2.tE d (V' i')).2 (.inl ⟨i',o,List.mem_cons_of_mem _ (hl.2 i' (List.mem_filter.1 hi').1),ho,hdst,rfl⟩)⟩);have I2:vT P B ops Ti K0 m0 a0 w0 V' T' S' (j::D) (E.setIfInBounds j true) H True (L.setIfInBounds j true) K m' w' a':=by
       refine⟨h2.se,h2.sl,h2.ed,h2.ord,h2.sub,h2.closed,h2.emb,h2.tE,h2.tW,h2.sz,fun i' hi' hn'=>?_,h2.k0,h2.le,h2.bel,h2.df⟩;have hp':=h2.pend i' hi' hn';obtain⟨h0,o,ho,hd⟩:=mem_ready.1 hr;have hlt:j<ops.size:=(Array.getElem?_eq_some_iff.1 ho).1;have hset:=uO (L:=L) (i:=j) (by rw[I.sl];exact hlt);have hne:i'≠j:=fun e=>hn' ((hset i').2 (.inl e))
       have hnL:¬rB L i':=fun e=>hn' ((hset i').2 (.inr e))
       have hiD:i'∈D:=by
        rcases List.mem_cons.1 hi' with e|e
        ·exact absurd e hne
        ·exact e
       have hp2:=hp';obtain⟨x',o',Tj,g1,g2,g3,g4,g5,gT,g6⟩:=hp2;by_cases hlk:rH x'.op=true
       ·refine h4 i' (List.mem_filter.2 ⟨hl.1 i' hiD o' g2 ?_,?_⟩) hp'
        ·cases hcc:compOp P o' with
         |none=>rw[g4,hcc] at hlk;cases hlk
         |some c=>
          rw[g4,hcc] at hlk;exact(wF (dst:=o'.dst) (op:=o'.op) (ty:=o'.type) (pos:=o'.pos) (af:=o'.after) (gd:=o'.guard) hcc).2.1 hlk
        ·cases han:anc (Region.before ops) j i' with
         |false=>rfl
         |true=>exact absurd (EG I.closed (j+1) j (Nat.lt_succ_self j) ho (uR (p:=rB L) hd) han) hnL
       ·exact mC.up_l g1 (by simpa using hlk) hp'
      refine ih _ _ l xs hl2 hxs V' T' S' (j::D) H h3 ⟨fun i' hi' o' ho' hlook=>?_,fun i' hi'=>List.mem_cons_of_mem _ (hl.2 i' hi')⟩ fuel _ K m' w' a' I2 hc;rcases List.mem_cons.1 hi' with rfl|hi'
      ·have:=hcalm o' ho'
       revert this hlook
       cases o'.op <;> simp[isLook,calm]
      ·exact hl.1 i' hi' o' ho' hlook
     ·cases hs
    ·cases hs
end
theorem FI{P:Program}{B:Nat}{O:OK}(hO:∀K,kN P K B O)(K:Kp):EA P K B O:=by
 intro r id ops items T s k hc hk m w a E hT;unfold compRegion at hc;simp only at hc;obtain⟨h1,h2⟩:=cV hc;simp only[Bool.and_eq_true] at h1;split at h2
 ·rename_i plan hp
  refine wpIn_region_any h1.2 ?_;have hn:∀i,¬rB (Array.replicate ops.size false) i:=by
   intro i h;unfold rB at h;by_cases hi:i<ops.size
   ·simp[hi] at h
   ·simp[hi] at h
  have hn0:∀t v,kH ops (fun _=>undef) T (rB (Array.replicate ops.size false)) t v->T.get t=some v:=by
   rintro t v (⟨i,o,h,_⟩|⟨_,h⟩)
   ·exact absurd h (hn i)
   ·exact h
  refine IP (Ti:=T) (MP h1.1) hO (K0:=K) (m0:=m) (a0:=a) (w0:=w) (fun a' w' h=>⟨rfl,h⟩) ops.size (Array.replicate ops.size false) [] plan items hp h2 (fun _=>undef) T s [] (fun _=>0) hk ⟨fun i hi=>(by cases hi),fun i hi=>(by cases hi)⟩ ops.size (Array.replicate ops.size false) K m { w with drawn:=w.drawn+1 } a ?_ ?_
  ·refine⟨sM,sM,fun i=>⟨fun h=>absurd h (hn i),fun h=>by cases h⟩,trivial,fun i h=>absurd h (hn i),fun i o h=>absurd h (hn i),⟨E.low,E.old,E.obj,E.inj,E.base,E.kept⟩,fun t v=>⟨fun h=> .inr ⟨fun i o hi=>(by cases hi),h⟩,?_⟩,fun t v ht=>hT t v (hn0 t v ht),fun t v ht=>?_,fun i hi=>(by cases hi),fun j o h=>h,Mp.le_refl m,⟨rfl,rfl,rfl,Nat.le_refl _,fun _ _=>rfl⟩,rfl⟩
   ·rintro(⟨i,o,h,_⟩|⟨_,h⟩)
    ·cases h
    ·exact h
   ·obtain⟨u,hu,_⟩:=hT t v ht
    exact(Array.getElem?_eq_some_iff.1 hu).1
  ·unfold MR
   refine Nat.le_trans (List.length_filter_le _ _) ?_;simp
 ·cases h2
end Go.Proofs.YtjkdkpckjgaplaaGreat.Ev
namespace Go.Proofs.YtjkdkpckjgaplaaGreat.Ev
open Go Go.RowKit
def xK(P:Program):BT (Option CF)->Nat->Nat->Prop
 | .leaf,_,_=>True
 | .node o l r,a,d=>(o=none∨compF P a=o)/\xK P l (a+d) (2*d)/\xK P r (a+2*d) (2*d)
theorem wJ{P:Program}{c:CF}:∀{t:BT (Option CF)} {a d n:Nat},xK P t a d->t.get n=some (some c)->compF P (a+d*n)=some c
 | .leaf,a,d,n,_,h=>by cases h
 | .node o l r,a,d,n,⟨h1,h2,h3⟩,h=>by
  simp only[BT.get] at h;by_cases h0:n=0
  ·subst h0
   rw[if_pos rfl] at h;cases h;rcases h1 with h1|h1
   ·cases h1
   ·simpa using h1
  ·rw[if_neg h0] at h
   by_cases hp:n % 2=1
   ·rw[if_pos hp] at h
    have:=wJ h2 h;have e:a+d+2*d*(n / 2)=a+d*n:=by
     have:n=2*(n / 2)+1:=oM
     conv=>rhs;rw[this]
     rw[Nat.mul_add,<-Nat.mul_assoc,Nat.mul_comm d 2];omega
    rw[<-e];exact this
   ·rw[if_neg hp] at h
    have:=wJ h3 h;have e:a+2*d+2*d*(n / 2-1)=a+d*n:=by
     have:n=2*(n / 2-1)+2:=oM
     conv=>rhs;rw[this]
     rw[Nat.mul_add,<-Nat.mul_assoc,Nat.mul_comm d 2];omega
    rw[<-e];exact this
theorem IQ{P:Program}{t:BT (Option CF)}(h:xK P t 0 1)(f:Nat)(k:CF->Bool)(hk:bZ t f k=true):∃c,compF P f=some c/\k c=true:=by
 obtain⟨o,ho,hk1⟩:=kJ (k:=fun o=>@Option.rec CF (fun _=>Bool) false k o) hk;cases o with
 |none=>cases hk1
 |some c=>exact⟨c,by simpa using wJ h ho,hk1⟩
theorem HP(P:Program)(w:World):dO P (fun _=>none) w.heap.size (fun _=>none) ⟨.leaf,0⟩ w:=
 ⟨fun _ _ _ h=>(by cases h),fun _ _ h=>(by cases h),fun _ _ _ _ h=>(by cases h),fun _ _ _ _ _ h=>(by cases h),Nat.le_refl _,fun _ _ h=>(by cases h)⟩
theorem QX{P:Program}{t:BT (Option CF)}(h:xK P t 0 1){n:Nat}{f:FuncId}(hk:So P t n f=true)(w:World) :
 Calls P f #[] w (fun e w'=>e = .returned (.bool true)/\Below w.heap.size w w'):=by
 have hk0:(Bt P (bZ t) n).call f [] ⟨.leaf,0⟩ (fun v _=>Io v)=true:=hk;obtain⟨_,hcall⟩:=((SC (B:=w.heap.size) (IQ h) (fun O hO K=>FI hO K) n) (fun _=>none)).2.call hk0 (us:=[]) (HP P w) (by simp only[LR]);refine(callsIn_wide (n:=0)).1 (CallsIn.mono hcall (fun e w' he=>?_));cases e with
 |returned u=>
  obtain⟨v,s',m',h1,_,_,h4,h5⟩:=he;obtain⟨b,rfl,h2⟩:=pU (k:=fun b=>b) h1;have hb:b=true:=h2;subst hb;have:u = .bool true:=by simpa only[VR] using h5
  exact⟨by rw[this],h4⟩
 |panicked=>exact he.elim
 |outgrown=>exact he.elim
/-! Short words for turned code. -/
section
variable(d:Nat)(o:COp)
abbrev iM(s:Nat):Item:=⟨none,some d,.mov (.t s)⟩
abbrev iO:Item:=⟨none,some d,o⟩
abbrev iN:Item:=⟨none,none,o⟩
abbrev vF:X:=.c (.func (.func d) ⟨[]⟩ ⟨[]⟩)
abbrev iC(f:Nat)(l:List X):Item:=⟨none,some d,.call (.c (.func (.func f) ⟨[]⟩ ⟨[]⟩)) l⟩
abbrev vI(z:Int):X:=.c (.int .i64 z)
abbrev y0:Value:=.int .i64 0
abbrev vt:X:=.c (.bool true)
abbrev vf:X:=.c (.bool false)
abbrev vn:X:=.c (.slice none 0 0)
abbrev z0:Value:=.int .i64 (.ofNat 0)
abbrev cS(l:List Item)(c:CC):CC:=.seq (.items l) c
abbrev t0:X:=.t 0
abbrev t1:X:=.t 1
abbrev t2:X:=.t 2
abbrev t3:X:=.t 3
abbrev t4:X:=.t 4
abbrev t5:X:=.t 5
abbrev t6:X:=.t 6
abbrev t7:X:=.t 7
abbrev t8:X:=.t 8
abbrev t9:X:=.t 9
abbrev nV:X:=.t 10
abbrev nB:X:=.t 11
abbrev lU:X:=.t 12
abbrev nM:X:=.t 13
abbrev oP:X:=.t 14
abbrev mS:X:=.t 15
abbrev nP:X:=.t 16
abbrev oG:X:=.t 17
abbrev pJ:X:=.t 18
abbrev qX:X:=.t 19
abbrev qY:X:=.t 20
abbrev rL:X:=.t 21
abbrev sJ:X:=.t 22
abbrev sK:X:=.t 23
abbrev sW:X:=.t 24
abbrev tD:X:=.t 25
abbrev xZ:X:=.t 26
abbrev xL:X:=.t 27
abbrev A9:X:=.t 28
abbrev yA:X:=.t 29
abbrev Bf:X:=.t 30
abbrev Ap:X:=.t 31
abbrev tF:X:=.t 32
abbrev wK:X:=.t 33
abbrev yL:X:=.t 34
abbrev Cm:X:=.t 35
abbrev Ba:X:=.t 36
abbrev Bg:X:=.t 37
abbrev Bb:X:=.t 38
abbrev Eg:X:=.t 39
abbrev EL:X:=.t 40
abbrev Bh:X:=.t 41
abbrev Bc:X:=.t 42
abbrev Eh:X:=.t 43
abbrev Ei:X:=.t 44
abbrev Bi:X:=.t 45
abbrev C2:X:=.t 46
abbrev Ej:X:=.t 47
abbrev HQ:X:=.t 48
abbrev IR:X:=.t 49
abbrev C3:X:=.t 50
abbrev IS:X:=.t 51
abbrev EM:X:=.t 52
abbrev HR:X:=.t 53
abbrev IT:X:=.t 54
abbrev Qd:X:=.t 55
abbrev QY:X:=.t 56
abbrev QZ:X:=.t 57
abbrev Ih:X:=.t 58
abbrev MU:X:=.t 59
abbrev Q8:X:=.t 60
abbrev Ii:X:=.t 61
abbrev MV:X:=.t 62
abbrev Mu:X:=.t 63
abbrev Sd:X:=.t 64
abbrev SH:X:=.t 65
abbrev SI:X:=.t 66
abbrev SJ:X:=.t 67
abbrev SK:X:=.t 68
abbrev Qe:X:=.t 69
abbrev Qf:X:=.t 70
abbrev Se:X:=.t 71
abbrev Sf:X:=.t 72
abbrev SL:X:=.t 73
abbrev Qh:X:=.t 74
abbrev Sg:X:=.t 75
abbrev Qi:X:=.t 76
abbrev Sh:X:=.t 77
abbrev Si:X:=.t 78
abbrev TK:X:=.t 79
abbrev SM:X:=.t 80
abbrev TZ:X:=.t 81
abbrev Q9:X:=.t 82
abbrev SN:X:=.t 83
abbrev Ra:X:=.t 84
abbrev SO:X:=.t 85
abbrev Rb:X:=.t 86
abbrev SP:X:=.t 87
abbrev SQ:X:=.t 88
abbrev Sj:X:=.t 89
abbrev T6:X:=.t 90
abbrev UO:X:=.t 91
abbrev T8:X:=.t 92
abbrev SR:X:=.t 93
abbrev T9:X:=.t 94
abbrev TL:X:=.t 95
abbrev SS:X:=.t 96
abbrev UP:X:=.t 97
abbrev Ua:X:=.t 98
abbrev TM:X:=.t 99
abbrev Rc:X:=.t 100
abbrev IU:X:=.t 101
abbrev ST:X:=.t 102
abbrev Rd:X:=.t 103
abbrev Re:X:=.t 104
abbrev Rf:X:=.t 105
abbrev Rg:X:=.t 106
abbrev Rh:X:=.t 107
abbrev MW:X:=.t 108
abbrev MX:X:=.t 109
abbrev Ub:X:=.t 110
abbrev Uc:X:=.t 111
abbrev Ud:X:=.t 112
abbrev SU:X:=.t 113
abbrev Ri:X:=.t 114
abbrev Rj:X:=.t 115
abbrev IV:X:=.t 116
abbrev SV:X:=.t 117
abbrev MY:X:=.t 118
abbrev MZ:X:=.t 119
abbrev Ue:X:=.t 120
abbrev Rk:X:=.t 121
abbrev SW:X:=.t 122
abbrev EN:X:=.t 123
abbrev SX:X:=.t 124
abbrev IW:X:=.t 125
abbrev SY:X:=.t 126
abbrev Uf:X:=.t 127
abbrev UV:X:=.t 128
abbrev Rl:X:=.t 129
abbrev Ug:X:=.t 130
abbrev Rm:X:=.t 131
abbrev Uh:X:=.t 132
abbrev SZ:X:=.t 133
abbrev IX:X:=.t 134
abbrev Rn:X:=.t 135
abbrev Ro:X:=.t 136
abbrev Ui:X:=.t 137
abbrev M0:X:=.t 138
abbrev Uj:X:=.t 139
abbrev Uk:X:=.t 140
abbrev Ul:X:=.t 141
abbrev UW:X:=.t 142
abbrev S0:X:=.t 143
abbrev S1:X:=.t 144
abbrev Um:X:=.t 145
abbrev UX:X:=.t 146
abbrev UY:X:=.t 147
abbrev UZ:X:=.t 148
abbrev U7:X:=.t 149
abbrev S2:X:=.t 150
abbrev Un:X:=.t 151
abbrev Uo:X:=.t 152
abbrev Rp:X:=.t 153
abbrev U8:X:=.t 154
abbrev U9:X:=.t 155
abbrev Up:X:=.t 156
abbrev S3:X:=.t 157
abbrev Va:X:=.t 158
abbrev S4:X:=.t 159
end
end Go.Proofs.YtjkdkpckjgaplaaGreat.Ev
namespace Go.Proofs.YtjkdkpckjgaplaaGreat.Ev
open Go Go.RowKit
/-! ## Trees -/
variable{α:Type}{n b off e:Nat}{s s':St}{f:Nat->Option Value}{v:Value}{op:Bool}{l r:List Value}{o:eW}{k:St->Bool}
def eE{α:Type}:BT α->Nat->Prop
 | .leaf,n=>n=0
 | .node _ l r,n=>n≠0/\eE l (n / 2)/\eE r ((n-1) / 2)
theorem eE.some:∀{t:BT α} {n:Nat},eE t n->∀j,j<n->(t.get j).isSome=true
 | .leaf,n,h,j,hj=>by have:n=0:=h;omega
 | .node a l r,n,⟨h0,h1,h2⟩,j,hj=>by
  simp only[BT.get];by_cases hj0:j=0
  ·simp[hj0]
  ·rw[if_neg hj0]
   by_cases hj1:j % 2=1
   ·rw[if_pos hj1];exact h1.some _ oM
   ·rw[if_neg hj1];exact h2.some _ oM
theorem eE.none{α:Type}:∀{t:BT α} {n:Nat},eE t n->∀j,n<=j->t.get j=none
 | .leaf,n,h,j,hj=>rfl
 | .node a l r,n,⟨h0,h1,h2⟩,j,hj=>by
  simp only[BT.get];rw[if_neg oM];by_cases hj1:j % 2=1
  ·rw[if_pos hj1];exact h1.none _ oM
  ·rw[if_neg hj1];exact h2.none _ oM
theorem eE.lt{t:BT α}{n j:Nat}{v:α}(h:eE t n)(hv:t.get j=Option.some v):j<n:=by
 rcases Nat.lt_or_ge j n with h1|h1
 ·exact h1
 ·rw[h.none j h1] at hv;cases hv
theorem yM{v:α}:∀{t:BT α} {n m:Nat} {k:BT α->Bool},eE t m->n<m->(∀t',eE t' m->(∀j,t'.get j=if j=n then some v else t.get j)->k t'=true)->nN t n v k=true:=by
 intro t
 induction t with
 |leaf=>intro n m k h hn _;have:m=0:=h;omega
 |node a l r il ir=>
  intro n m k h hn hk;obtain⟨h0',hl,hr⟩:=h;show @Bool.rec (fun _=>Bool) (@Bool.rec (fun _=>Bool) (nN r (Nat.pred (Nat.div n 2)) v (fun r=>k (.node a l r))) (nN l (Nat.div n 2) v (fun l=>k (.node a l r))) (Nat.beq (Nat.mod n 2) 1)) (k (.node v l r)) (Nat.beq n 0)=true;rw[C8,par];by_cases h0:n=0
  ·subst h0
   refine hk _ ⟨h0',hl,hr⟩ (fun j=>?_);by_cases hj:j=0
   ·simp[hj,BT.get]
   ·simp[hj,BT.get]
  ·rw[decide_eq_false h0]
   by_cases h1:n % 2=1
   ·rw[decide_eq_true h1]
    refine il hl (by show n / 2<m / 2;omega) (fun t' hf hg=>hk _ ⟨h0',hf,hr⟩ (fun j=>?_));simp only[BT.get];by_cases hj:j=0
    ·simp[hj,Ne.symm h0]
    ·by_cases hj1:j % 2=1
     ·rw[if_neg hj,if_pos hj1,hg]
      by_cases he:j=n
      ·subst he;simp;intro hh;exact absurd rfl hh
      ·have:j / 2≠Nat.div n 2:=by show j / 2≠n / 2;omega
       simp[this,he,hj,hj1]
     ·rw[if_neg hj,if_neg hj1]
      have:j≠n:=fun e=>hj1 (e ▸ h1)
      simp[this,hj,hj1]
   ·rw[decide_eq_false h1]
    refine ir hr (by show n / 2-1<(m-1) / 2;omega) (fun t' hf hg=>hk _ ⟨h0',hl,hf⟩ (fun j=>?_));simp only[BT.get];by_cases hj:j=0
    ·simp[hj,Ne.symm h0]
    ·by_cases hj1:j % 2=1
     ·rw[if_neg hj,if_pos hj1]
      have:j≠n:=fun e=>h1 (e ▸ hj1)
      simp[this,hj,hj1]
     ·rw[if_neg hj,if_neg hj1,hg]
      by_cases he:j=n
      ·subst he;simp;intro hh;exact absurd rfl hh
      ·have:¬(j / 2-1=Nat.pred (Nat.div n 2)):=by
        show ¬(j / 2-1=n / 2-1);omega
       rw[if_neg this,if_neg he,if_neg hj,if_neg hj1]
theorem FJ{v:α}:∀{t:BT α} {n:Nat} {k:BT α->Bool},eE t n->(∀t',eE t' (n+1)->(∀j,t'.get j=if j=n then some v else t.get j)->k t'=true)->qV t n v k=true:=by
 intro t
 induction t with
 |leaf=>
  intro n k h hk;have h0:n=0:=h;subst h0;refine hk _ ⟨oM,by simp[eE],by simp[eE]⟩ (fun j=>?_);by_cases hj:j=0
  ·simp[hj,BT.get]
  ·simp only[BT.get,hj,if_false];split <;> rfl
 |node a l r il ir=>
  intro n k h hk;obtain⟨h0,hl,hr⟩:=h;show @Bool.rec (fun _=>Bool) (@Bool.rec (fun _=>Bool) (qV r (Nat.pred (Nat.div n 2)) v (fun r=>k (.node a l r))) (qV l (Nat.div n 2) v (fun l=>k (.node a l r))) (Nat.beq (Nat.mod n 2) 1)) false (Nat.beq n 0)=true;rw[C8,par,decide_eq_false h0];by_cases h1:n % 2=1
  ·rw[decide_eq_true h1]
   refine il (n:=n / 2) hl (fun t' hf hg=>hk _ ⟨oM,by rw[show(n+1) / 2=n / 2+1 by omega];exact hf,by rw[show(n+1-1) / 2=(n-1) / 2 by omega];exact hr⟩ (fun j=>?_));simp only[BT.get];by_cases hj:j=0
   ·simp[hj,Ne.symm h0]
   ·by_cases hj1:j % 2=1
    ·rw[if_neg hj,if_pos hj1,hg]
     by_cases he:j=n
     ·subst he;simp
     ·have:j / 2≠n / 2:=oM
      simp[this,he,hj,hj1]
    ·rw[if_neg hj,if_neg hj1]
     have:j≠n:=fun e=>hj1 (e ▸ h1)
     simp[this,hj,hj1]
  ·rw[decide_eq_false h1]
   refine ir (n:=n / 2-1) (by rw[show n / 2-1=(n-1) / 2 by omega];exact hr) (fun t' hf hg=>hk _ ⟨oM,by rw[show(n+1) / 2=n / 2 by omega];exact hl,by rw[show(n+1-1) / 2=n / 2-1+1 by omega];exact hf⟩ (fun j=>?_));simp only[BT.get];by_cases hj:j=0
   ·simp[hj,Ne.symm h0]
   ·by_cases hj1:j % 2=1
    ·rw[if_neg hj,if_pos hj1]
     have:j≠n:=fun e=>h1 (e ▸ hj1)
     simp[this,hj,hj1]
    ·rw[if_neg hj,if_neg hj1,hg]
     by_cases he:j=n
     ·subst he;simp
     ·have:¬(j / 2-1=n / 2-1):=oM
      rw[if_neg this,if_neg he,if_neg hj,if_neg hj1]
theorem rM{α:Type}:∀{l:List α} {t:BT α} {n:Nat} {k:BT α->Bool},eE t n->(∀t',eE t' (n+l.length)->(∀j,t'.get j=if n<=j/\j<n+l.length then l[j-n]? else t.get j)->k t'=true)->eY t n l k=true
 |[],t,n,k,hf,hk=>hk t hf (fun j=>by rw[if_neg sM])
 |v::l,t,n,k,hf,hk=>by
  show qV t n v (fun t=>eY t (Nat.succ n) l k)=true;refine FJ hf (fun t' hf' hg=>rM (n:=n+1) hf' (fun t2 hf2 hg2=>hk t2 (by rw[show n+(v::l).length=n+1+l.length by simp;omega];exact hf2) (fun j=>?_)));rw[hg2];by_cases h1:n+1<=j/\j<n+1+l.length
  ·rw[if_pos h1,if_pos (by simp;omega)]
   obtain⟨i,hi⟩:∃i,j-n=i+1:=⟨j-n-1,oM⟩;rw[hi,List.getElem?_cons_succ];congr 1;omega
  ·rw[if_neg h1,hg]
   by_cases h2:j=n
   ·subst h2;rw[if_pos rfl,if_pos sM];simp
   ·rw[if_neg h2,if_neg (by simp;omega)]
theorem nD{α:Type}:∀{l:List α} {t:BT α} {n m:Nat} {k:BT α->Bool},eE t m->n+l.length<=m->(∀t',eE t' m->(∀j,t'.get j=if n<=j/\j<n+l.length then l[j-n]? else t.get j)->k t'=true)->fM t n l k=true
 |[],t,n,m,k,hf,hm,hk=>hk t hf (fun j=>by rw[if_neg sM])
 |v::l,t,n,m,k,hf,hm,hk=>by
  show nN t n v (fun t=>fM t (Nat.succ n) l k)=true;simp only[List.length_cons] at hm;refine yM hf oM (fun t' hf' hg=>nD (n:=n+1) hf' oM (fun t2 hf2 hg2=>hk t2 hf2 (fun j=>?_)));rw[hg2];by_cases h1:n+1<=j/\j<n+1+l.length
  ·rw[if_pos h1,if_pos (by simp;omega)]
   obtain⟨i,hi⟩:∃i,j-n=i+1:=⟨j-n-1,oM⟩;rw[hi,List.getElem?_cons_succ];congr 1;omega
  ·rw[if_neg h1,hg]
   by_cases h2:j=n
   ·subst h2;rw[if_pos rfl,if_pos sM];simp
   ·rw[if_neg h2,if_neg (by simp;omega)]
theorem sL{α:Type}{t:BT α}:∀{l:List α} {i n:Nat} {k:List α->Bool},l.length=n->(∀j,j<n->t.get (i+j)=l[j]?)->k l=true->mJ t i n k=true
 |[],i,n,k,hn,hl,hk=>by subst hn;exact hk
 |v::l,i,n,k,hn,hl,hk=>by
  subst hn;show lM t i (fun v=>mJ t (Nat.succ i) l.length (fun l=>k (v::l)))=true;refine gN (by simpa using hl 0 sM) ?_;exact sL (i:=i+1) J (fun j hj=>by have:=hl (j+1) (by simp;omega);simpa [Nat.add_assoc,Nat.add_comm 1 j] using this) hk
theorem tN{g:Nat->Option Value}:∀{l:List Value} {i n:Nat} {k:List Value->Bool},l.length=n->(∀j,j<n->g (i+j)=l[j]?)->k l=true->fY g i n k=true
 |[],i,n,k,hn,hl,hk=>by subst hn;exact hk
 |v::l,i,n,k,hn,hl,hk=>by
  subst hn;show pS (g i) (fun v=>fY g (Nat.succ i) l.length (fun l=>k (v::l)))=true;have h0:g i=some v:=by simpa using hl 0 sM
  rw[h0];exact tN (i:=i+1) J (fun j hj=>by have:=hl (j+1) (by simp;omega);simpa [Nat.add_assoc,Nat.add_comm 1 j] using this) hk
/-! ## Memory -/
def Wf(s:St):Prop:=eE s.h s.n
def HS(s s':St)(ch:List Nat):Prop:=Wf s'/\s.n<=s'.n/\∀b,b<s.n->b∉ch->s'.h.get b=s.h.get b
def sX(s s':St):Prop:=Wf s'/\s.n<=s'.n/\∀b,b<s.n->s'.h.get b=s.h.get b
theorem sX.refl(h:Wf s):sX s s:=⟨h,Nat.le_refl _,fun _ _=>rfl⟩
theorem sX.trans{a b c:St}(h:sX a b)(k:sX b c):sX a c:=⟨k.1,Nat.le_trans h.2.1 k.2.1,fun i hi=>(k.2.2 i (Nat.lt_of_lt_of_le hi h.2.1)).trans (h.2.2 i hi)⟩
theorem sX.mod{a b c:St}{ch:List Nat}(h:sX a b)(k:HS b c ch)(hc:∀i∈ch,a.n<=i):sX a c:=
 ⟨k.1,Nat.le_trans h.2.1 k.2.1,fun i hi=>(k.2.2 i (Nat.lt_of_lt_of_le hi h.2.1) (fun hm=>by have:=hc i hm;omega)).trans (h.2.2 i hi)⟩
def At(s:St)(b off:Nat)(v:Value):Prop:=∃f,wB s b f/\f off=some v
def pK(s:St)(b:Nat):Nat->List Value->Prop
 |_,[]=>True
 |off,v::l=>At s b off v/\pK s b (off+1) l
theorem M1(h:Wf s)(hs:wB s b f):b<s.n:=by
 rcases hs with ⟨n,c,e,op,h1,_⟩|h1 <;> exact eE.lt h h1
theorem wB.same(h:wB s b f)(hb:s'.h.get b=s.h.get b):wB s' b f:=by
 rcases h with ⟨n,c,e,op,h1,h2⟩|h1
 ·exact .inl ⟨n,c,e,op,hb.trans h1,h2⟩
 ·exact .inr (hb.trans h1)
theorem At.ext(hw:Wf s)(h:At s b off v)(e:sX s s'):At s' b off v:=by
 obtain⟨f,h1,h2⟩:=h;exact⟨f,h1.same (e.2.2 b (M1 hw h1)),h2⟩
theorem pK.ext(hw:Wf s):∀{l:List Value} {off:Nat},pK s b off l->sX s s'->pK s' b off l
 |[],_,_,_=>trivial
 |_::_,_,⟨h1,h2⟩,e=>⟨h1.ext hw e,h2.ext hw e⟩
theorem At.same{v v':Value}(h:At s b off v)(h':At s b off v'):v=v':=by
 obtain⟨f,h1,h2⟩:=h;obtain⟨g,h3,h4⟩:=h';have:f=g:=by
  rcases h1 with ⟨n,c,e,op,h5,rfl⟩|h5 <;> rcases h3 with ⟨n',c',e',op',h6,rfl⟩|h6
  ·rw[h5] at h6;cases h6;rfl
  ·rw[h5] at h6;cases h6
  ·rw[h5] at h6;cases h6
  ·rw[h5] at h6;cases h6;rfl
 subst this;rw[h2] at h4;exact Option.some.inj h4
theorem pK.see:∀{l:List Value} {off:Nat},pK s b off l->l≠[]->∃f,wB s b f/\∀j,j<l.length->f (off+j)=l[j]?
 |[],_,_,h=>absurd rfl h
 |[v],off,⟨⟨f,h1,h2⟩,_⟩,_=>⟨f,h1,fun j hj=>by
  have:j=0:=by simpa using hj
  subst this;simpa using h2⟩
 |v::u::l,off,⟨⟨f,h1,h2⟩,h3⟩,_=>by
  obtain⟨g,h4,h5⟩:=pK.see h3 sM;have:f=g:=by
   rcases h1 with ⟨n,c,e,op,h6,rfl⟩|h6 <;> rcases h4 with ⟨n',c',e',op',h7,rfl⟩|h7
   ·rw[h6] at h7;cases h7;rfl
   ·rw[h6] at h7;cases h7
   ·rw[h6] at h7;cases h7
   ·rw[h6] at h7;cases h7;rfl
  subst this;refine⟨f,h1,fun j hj=>?_⟩;cases j with
  |zero=>simpa using h2
  |succ j=>have:=h5 j (by simp at hj ⊢;omega);rw[List.getElem?_cons_succ,<-this];congr 1;omega
def Obj(s:St)(b e:Nat)(op:Bool)(l:List Value):Prop:=∃c,s.h.get b=some (.cells l.length c e op)/\eE c l.length/\∀j,c.get j=l[j]?
theorem Obj.same(h:Obj s b e op l)(hb:s'.h.get b=s.h.get b):Obj s' b e op l:=by
 obtain⟨c,h1,h2⟩:=h;exact⟨c,hb.trans h1,h2⟩
theorem Obj.lt(hw:Wf s)(h:Obj s b e op l):b<s.n:=by
 obtain⟨c,h1,_⟩:=h;exact eE.lt hw h1
theorem Obj.ext(hw:Wf s)(h:Obj s b e op l)(x:sX s s'):Obj s' b e op l:=h.same (x.2.2 b (h.lt hw))
theorem Obj.at(h:Obj s b e op l)(hv:l[off]? = some v):At s b off v:=by
 obtain⟨c,h1,_,h2⟩:=h;exact⟨c.get,.inl ⟨_,c,e,op,h1,rfl⟩,(h2 off).trans hv⟩
theorem Obj.ats(h:Obj s b e op l):∀{r:List Value} {off:Nat},(∀j,j<r.length->l[off+j]? = r[j]?)->pK s b off r
 |[],_,_=>trivial
 |v::r,off,hr=>⟨h.at (by simpa using hr 0 sM),h.ats (fun j hj=>by have:=hr (j+1) (by simp;omega);simpa [Nat.add_assoc,Nat.add_comm 1 j] using this)⟩
theorem Obj.all(h:Obj s b e op l):pK s b 0 l:=h.ats (fun j _=>by rw[Nat.zero_add])
/-! ## Primitive steps -/
theorem kP{k:Nat->Bool}(h:k s.n=true):C1 s k=true:=by obtain⟨h0,n⟩:=s;exact h
theorem fE{k:eW->Bool}(h:s.h.get b=some o)(hk:k o=true):qW s b k=true:=by obtain⟨h0,n⟩:=s;exact gN h hk
theorem yN(hw:Wf s)(hk:∀s',sX s s'->s'.n=s.n+1->s'.h.get s.n=some o->k s'=true):jY s o k=true:=by
 obtain⟨h0,n⟩:=s;show qV h0 n o (fun h=>dG (Nat.succ n) (fun m=>k ⟨h,m⟩))=true;refine FJ hw (fun t hf hg=>?_);rw[bG];refine hk ⟨t,n+1⟩ ⟨hf,Nat.le_succ n,fun b hb=>?_⟩ rfl ?_
 ·show t.get b=h0.get b
  rw[hg,if_neg (by have:b<n:=hb;omega)]
 ·show t.get n=_
  rw[hg,if_pos rfl]
theorem eX(hw:Wf s)(hb:b<s.n)(hk:∀s',HS s s' [b]->s'.n=s.n->s'.h.get b=some o->k s'=true):dI s b o k=true:=by
 obtain⟨h0,n⟩:=s;show nN h0 b o (fun h=>k ⟨h,n⟩)=true;refine yM hw hb (fun t hf hg=>hk ⟨t,n⟩ ⟨hf,Nat.le_refl _,fun i hi hne=>?_⟩ rfl ?_)
 ·show t.get i=h0.get i
  rw[hg,if_neg (by simpa using hne)]
 ·show t.get b=_
  rw[hg,if_pos rfl]
theorem Cn{kc:BT Value->Bool}{kr:(Nat->Option Value)->Bool}(h:wB s b f)(h1:∀c,f=c.get->kc c=true)(h2:kr f=true):tH s b kc kr=true:=by
 rcases h with ⟨n,c,e,op,h3,rfl⟩|h3
 ·exact fE (k:=fun o=>@eW.casesOn (fun _=>Bool) o false (fun _ c _ _=>kc c) (fun _ _ _ _ _ _ _=>false) (fun _=>false) (fun _=>false) kr) h3 (h1 c rfl)
 ·exact fE (k:=fun o=>@eW.casesOn (fun _=>Bool) o false (fun _ c _ _=>kc c) (fun _ _ _ _ _ _ _=>false) (fun _=>false) (fun _=>false) kr) h3 h2
theorem Co{k:Value->Bool}(h:At s b off v)(hk:k v=true):En s none (.pointer (some ⟨b,off,none⟩)) k=true:=by
 obtain⟨f,h1,h2⟩:=h;show tH s b (fun c=>Em c off none k) (fun g=>pT g off none k)=true;refine Cn h1 (fun c hc=>?_) ?_
 ·subst hc;exact gN h2 hk
 ·show pS (f off) k=true
  rw[h2];exact hk
theorem Cp{k:Value->Bool}(h:pK s b off l)(hn:l.length=n)(h0:n≠0)(hk:k (.agg ⟨l⟩)=true):En s (some n) (.pointer (some ⟨b,off,none⟩)) k=true:=by
 obtain⟨f,h1,h2⟩:=h.see (by intro h;subst h;simp at hn;omega);show tH s b (fun c=>Em c off (some n) k) (fun g=>pT g off (some n) k)=true;refine Cn h1 (fun c hc=>?_) ?_
 ·subst hc;exact sL (k:=fun l=>k (.agg ⟨l⟩)) hn (fun j hj=>h2 j oM) hk
 ·exact tN (k:=fun l=>k (.agg ⟨l⟩)) hn (fun j hj=>h2 j oM) hk
theorem Dq{k:Nat->BT Value->Nat->Bool->Bool}(h:Obj s b e op l)(hk:∀c,eE c l.length->(∀j,c.get j=l[j]?)->k l.length c e op=true):C4 s b k=true:=by
 obtain⟨c,h1,h2,h3⟩:=h;exact MO h1 (hk c h2 h3)
theorem M2(hw:Wf s)(h:Obj s b e op l)(ho:off<l.length)(h1:oneCell v=true)(hk:∀s',HS s s' [b]->s'.n=s.n->Obj s' b e op (l.set off v)->k s'=true) :
 Mx s none v (.pointer (some ⟨b,off,none⟩)) k=true:=by
 refine Dq (k:=fun m c e op=>ifB (oneCell v) (ifB (Nat.blt off m) (nN c off v (fun c=>dI s b (.cells m c e op) k)) false) false) h (fun c hf hc=>?_);rw[h1,show Nat.blt off l.length=true from by rw[Nat.blt_eq];exact ho];refine yM hf ho (fun c' hf' hg=>eX hw (h.lt hw) (fun s' hm hn hs=>hk s' hm hn ⟨c',by simpa using hs,by simpa using hf',fun j=>?_⟩));rw[hg,List.getElem?_set];by_cases hj:j=off
 ·subst hj;simp[ho]
 ·rw[if_neg hj,if_neg (Ne.symm hj)];exact hc j
def over(l:List Value)(off:Nat)(r:List Value):List Value:=l.take off++r++l.drop (off+r.length)
theorem lV(h:off+r.length<=l.length):(over l off r).length=l.length:=by
 unfold over;simp;omega
theorem oX(h:off+r.length<=l.length)(j:Nat):(over l off r)[j]? = if off<=j/\j<off+r.length then r[j-off]? else l[j]?:=by
 unfold over;by_cases h1:j<off
 ·rw[if_neg oM,List.append_assoc,List.getElem?_append_left (by simp;omega),List.getElem?_take,if_pos h1]
 ·by_cases h2:j<off+r.length
  ·rw[if_pos ⟨oM,h2⟩,List.append_assoc,List.getElem?_append_right (by simp;omega)]
   rw[List.getElem?_append_left (by simp;omega)];congr 1;simp;omega
  ·rw[if_neg oM,List.getElem?_append_right (by simp;omega),List.getElem?_drop]
   congr 1;simp;omega
theorem M3(hw:Wf s)(h:Obj s b e op l)(ho:off+n<=l.length)(hn:r.length=n)(h1:eZ r=true)(hk:∀s',HS s s' [b]->s'.n=s.n->Obj s' b e op (over l off r)->k s'=true) :
 Mx s (some n) (.agg ⟨r⟩) (.pointer (some ⟨b,off,none⟩)) k=true:=by
 refine Dq (k:=fun m c e op=>uD (.agg ⟨r⟩) (fun l=>ifB (Nat.beq l.length n) (ifB (Nat.ble (Nat.add off n) m) (ifB (eZ l) (fM c off l (fun c=>dI s b (.cells m c e op) k)) false) false) false)) h (fun c hf hc=>?_);show ifB (Nat.beq r.length n) (ifB (Nat.ble (Nat.add off n) l.length) (ifB (eZ r) _ false) false) false=true;rw[h1,show Nat.beq r.length n=true from by rw[Nat.beq_eq];exact hn,show Nat.ble (Nat.add off n) l.length=true from by rw[Nat.ble_eq];exact ho];have ho':off+r.length<=l.length:=oM
 refine nD hf ho' (fun c' hf' hg=>eX hw (h.lt hw) (fun s' hm hn hs=>hk s' hm hn ⟨c',by rw[lV ho'];exact hs,by rw[lV ho'];exact hf',fun j=>?_⟩));rw[hg,oX ho',hc]
theorem gE{c:BT Value}{m:Nat}(hm:m=l.length)(hw:Wf s)(hf:eE c l.length)(hc:∀j,c.get j=l[j]?)(hk:∀s',sX s s'->s'.n=s.n+1->Obj s' s.n e op l->k s'=true):jY s (.cells m c e op) k=true:=by
 subst hm;exact yN hw (fun s' h1 h2 h3=>hk s' h1 h2 ⟨c,h3,hf,hc⟩)
theorem iL{k:BT Value->Bool}(hk:∀c,eE c l.length->(∀j,c.get j=l[j]?)->k c=true):eY .leaf 0 l k=true:=by
 refine rM (n:=0) (by simp[eE]) (fun c hf hg=>hk c (by simpa using hf) (fun j=>?_));rw[hg];by_cases h:0<=j/\j<0+l.length
 ·rw[if_pos h];simp
 ·rw[if_neg h,List.getElem?_eq_none oM];rfl
end Go.Proofs.YtjkdkpckjgaplaaGreat.Ev
namespace Go.Proofs.YtjkdkpckjgaplaaGreat.Ev
open Go Go.RowKit
noncomputable section
variable{P:Program}{C:Nat->(CF->Bool)->Bool}{n nt:Nat}{f:FuncId}{vs:List Value}{s:St}{T:BT Value}{env env':List (Nat×Value)}{v:Value}{a b:CC}
def dJ(P:Program)(C:Nat->(CF->Bool)->Bool)(X:FuncId->List Value->St->(Value->St->Bool)->Bool)(n:Nat):OK:=
 @Nat.rec (fun _=>OK) { code:=fun _ _ _ _ _ _=>false,call:=X } (fun _ ih=>{ code:=xB P ih,call:=fun f vs s k=>X f vs s k || xC C ih f vs s k }) n
def yO(P:Program)(X:FuncId->List Value->St->(Value->St->Bool)->Bool):Prop:=
 ∀{K:Kp} {B:Nat} {f:FuncId} {vs:List Value} {s:St} {k:Value->St->Bool},X f vs s k=true->∀{m:Mp} {w:World} {us:List Value},dO P K B m s w->LR m vs us ->
  (∀w,(callFunc f ⟨us⟩).run P w = .ok (.enter f ⟨us⟩) w)/\CallsIn Fence.wide 0 P f ⟨us⟩ w (De P K B m w k)
theorem Rq{B:Nat}{X:FuncId->List Value->St->(Value->St->Bool)->Bool}(hC:∀f k,C f k=true->∃c,compF P f=some c/\k c=true)(hX:yO P X)(n:Nat):∀K,nA P K B (dJ P C X n).code/\kN P K B (dJ P C X n):=by
 induction n with
 |zero=>
  intro K;have hcode:nA P K B (dJ P C X 0).code:={ code:=(by intro r c T D s k h;cases h),loop:=(by intro r c T D s k h;cases h) };exact⟨hcode,{ call:=(by intro f vs s k h m w us E hv;exact hX h E hv),round:=(by intro l vs s k hk m w us x y hm E hv;exact uL hcode hk hm E hv) }⟩
 |succ n ih=>
  intro K;have hcode:nA P K B (dJ P C X (n+1)).code:=Fy (ih K).2 (ih K).1 (FI (fun K=>(ih K).2) K) (Dm (ih K).2);refine⟨hcode,{ call:=?_,round:=(by intro l vs s k hk m w us x y hm E hv;exact uL hcode hk hm E hv) }⟩;intro f vs s k hk m w us E hv;have hk':(X f vs s k || xC C (dJ P C X n) f vs s k)=true:=hk;rcases Bool.or_eq_true _ _ ▸ hk' with h|h
  ·exact hX h E hv
  ·exact Fz hC (ih K).1 h E hv
theorem M4{t:BT (Option CF)}(h:xK P t 0 1){X:FuncId->List Value->St->(Value->St->Bool)->Bool}(hX:yO P X){vs us:List Value}{m:Mp}{w:World}{k:Value->St->Bool}
 (hk:(dJ P (bZ t) X n).call f vs s k=true) (E:dO P (fun _=>none) w.heap.size m s w) (hv:LR m vs us) :
 Calls P f ⟨us⟩ w (fun e w'=>∃u,e = .returned u/\Below w.heap.size w w'/\∃v s' m',k v s'=true/\m.le m'/\dO P (fun _=>none) w.heap.size m' s' w'/\VR m' v u):=by
 obtain⟨_,hcall⟩:=(Rq (B:=w.heap.size) (IQ h) hX n (fun _=>none)).2.call hk E hv;refine(callsIn_wide (n:=0)).1 (CallsIn.mono hcall (fun e w' he=>?_));cases e with
 |returned u=>
  obtain⟨v,s',m',h1,h2,h3,h4,h5⟩:=he;exact⟨u,rfl,h4,v,s',m',h1,h2,h3,h5⟩
 |panicked=>exact he.elim
 |outgrown=>exact he.elim
/-! ## What is known of temporaries -/
theorem uT{a b:Nat}(h:a≠b):Nat.beq a b=false:=by
 cases hb:Nat.beq a b with
 |false=>rfl
 |true=>exact absurd (by simpa using hb) h
def look:List (Nat×Value)->Nat->Option Value
 |[],_=>none
 |(t,v)::l,i=>sel (Nat.beq t i) (some v) (look l i)
def yB(nt:Nat)(T:BT Value)(env:List (Nat×Value)):Prop:=eE T nt/\∀t v,look env t=some v->T.get t=some v
def xv(env:List (Nat×Value)):X->Option Value
 | .t i=>look env i
 | .c v=>some v
def Cq(env:List (Nat×Value)):List X->Option (List Value)
 |[]=>some []
 |x::l=>match xv env x,Cq env l with
  |some v,some l=>some (v::l)
  |_,_=>none
def Sk(env:List (Nat×Value)):List (Nat×Nat×X)->Option (List (Nat×Nat×Value))
 |[]=>some []
 |(o,n,x)::l=>match xv env x,Sk env l with
  |some v,some l=>some ((o,n,v)::l)
  |_,_=>none
def xo(env:List (Nat×Value)):Option X->Option (Option Value)
 |none=>some none
 |some x=>match xv env x with
  |some v=>some (some v)
  |none=>none
theorem U5(h:yB nt T env){x:X}{k:Value->Bool}(hx:xv env x=some v)(hk:k v=true):bO T x k=true:=by
 cases x with
 |t i=>exact gN (h.2 i v hx) hk
 |c u=>cases hx;exact hk
theorem oY{nt:Nat}{T:BT Value}{env:List (Nat×Value)}(h:yB nt T env):∀{l:List X} {vs:List Value} {k:List Value->Bool},Cq env l=some vs->k vs=true->iZ T l k=true
 |[],vs,k,hx,hk=>by cases hx;exact hk
 |x::l,vs,k,hx,hk=>by
  simp only[Cq] at hx;split at hx
  ·rename_i v vs' h1 h2
   cases hx;exact U5 h (k:=fun v=>iZ T l (fun l=>k (v::l))) h1 (oY h (k:=fun l=>k (v::l)) h2 hk)
  ·cases hx
theorem wL{nt:Nat}{T:BT Value}{env:List (Nat×Value)}(h:yB nt T env):∀{l:List (Nat×Nat×X)} {vs:List (Nat×Nat×Value)} {k:List (Nat×Nat×Value)->Bool},Sk env l=some vs->k vs=true->pO T l k=true
 |[],vs,k,hx,hk=>by cases hx;exact hk
 |(o,n,x)::l,vs,k,hx,hk=>by
  simp only[Sk] at hx;split at hx
  ·rename_i v vs' h1 h2
   cases hx;exact U5 h (k:=fun v=>pO T l (fun l=>k ((o,n,v)::l))) h1 (wL h (k:=fun l=>k ((o,n,v)::l)) h2 hk)
  ·cases hx
def S5(d:Option Nat)(v:Value)(env:List (Nat×Value)):List (Nat×Value):=match d with|some d=>(d,v)::env|none=>env
def yC(d:Option Nat)(nt:Nat):Bool:=match d with|some d=>Nat.blt d nt|none=>true
theorem Aq(h:yB nt T env){d:Option Nat}{k:BT Value->Bool}(hd:yC d nt=true)(hk:∀T',yB nt T' (S5 d v env)->k T'=true):kA T d v k=true:=by
 cases d with
 |none=>exact hk T h
 |some d=>
  have hd':d<nt:=by simpa [yC,Nat.blt_eq] using hd
  refine yM h.1 hd' (fun T' hf hg=>hk T' ⟨hf,fun t u hu=>?_⟩);rw[hg];simp only[S5,look] at hu;by_cases ht:t=d
  ·subst ht
   rw[show Nat.beq t t=true from by rw[Nat.beq_eq]] at hu;rw[if_pos rfl];exact hu
  ·rw[show Nat.beq d t=false from uT (Ne.symm ht)] at hu
   rw[if_neg ht];exact h.2 t u hu
def fF(env env':List (Nat×Value)):Prop:=∀t v,look env' t=some v->look env t=some v
theorem yB.less(h:yB nt T env)(hl:fF env env'):yB nt T env':=⟨h.1,fun t v hv=>h.2 t v (hl t v hv)⟩
theorem fF.nil:fF env []:=fun t v h=>by cases h
theorem fF.cons{t:Nat}(h1:look env t=some v)(h:fF env env'):fF env ((t,v)::env'):=fun i u hu=>by
 simp only[look] at hu;by_cases hi:t=i
 ·subst hi
  rw[show Nat.beq t t=true from by rw[Nat.beq_eq]] at hu;rw[h1];exact hu
 ·rw[show Nat.beq t i=false from uT hi] at hu
  exact h i u hu
/-! ## Code by what stands behind it -/
section
variable(P:Program)(C:Nat->(CF->Bool)->Bool)(X:FuncId->List Value->St->(Value->St->Bool)->Bool)
def Ar(n:Nat)(f:FuncId)(vs:List Value)(s:St)(Q:Value->St->Prop):Prop:=∀k,(∀v s',Q v s'->k v s'=true)->(dJ P C X n).call f vs s k=true
def mD(n nt:Nat)(r:Option Nat)(c:CC)(env:List (Nat×Value))(D:List Nat)(s:St)(Q:iH->List (Nat×Value)->List Nat->St->Prop):Prop:=
 ∀T,yB nt T env->∀k,(∀x env' T' D' s',yB nt T' env'->Q x env' D' s'->k x T' D' s'=true)->(dJ P C X n).code r c T D s k=true
def M5(n nt:Nat)(l:List Item)(env:List (Nat×Value))(s:St)(Q:List (Nat×Value)->St->Prop):Prop:=
 ∀T,yB nt T env->∀k,(∀env' T' s',yB nt T' env'->Q env' s'->k T' s'=true)->fH P (dJ P C X n) l T s k=true
def rC(n nt:Nat)(c:COp)(env:List (Nat×Value))(s:St)(R:Value->St->Prop):Prop:=
 ∀T,yB nt T env->∀k,(∀v s',R v s'->k v s'=true)->iI P (dJ P C X n) T s c k=true
end
def IY(N:List (Nat×Value)->List Nat->St->Prop)(Q:iH->List (Nat×Value)->List Nat->St->Prop):iH->List (Nat×Value)->List Nat->St->Prop
 | .normal,e,D,s=>N e D s
 | .ret,e,D,s=>Q .ret e D s
 | .exit i,e,D,s=>Q (.exit i) e D s
 | .goto i,e,D,s=>Q (.goto i) e D s
def Rr(id:Nat)(Q:iH->List (Nat×Value)->List Nat->St->Prop):iH->List (Nat×Value)->List Nat->St->Prop
 | .exit j,e,D,s=>sel (Nat.beq j id) (Q .normal e D s) (Q (.exit j) e D s)
 | .normal,e,D,s=>Q .normal e D s
 | .ret,e,D,s=>Q .ret e D s
 | .goto i,e,D,s=>Q (.goto i) e D s
section
variable{P:Program}{C:Nat->(CF->Bool)->Bool}{X:FuncId->List Value->St->(Value->St->Bool)->Bool}{n nt:Nat}{r:Option Nat}{env:List (Nat×Value)}{D:List Nat}{s:St}{Q:iH->List (Nat×Value)->List Nat->St->Prop}
theorem IZ(h:Q .normal env D s):mD P C X (n+1) nt r .skip env D s Q:=fun T hT k hk=>hk _ _ T D s hT h
theorem M6(h:Q .ret env D s):mD P C X (n+1) nt r .ret env D s Q:=fun T hT k hk=>hk _ _ T D s hT h
theorem I0{i:Nat}(h:Q (.exit i) env D s):mD P C X (n+1) nt r (.exit i) env D s Q:=fun T hT k hk=>hk _ _ T D s hT h
theorem FK(h:mD P C X n nt r a env D s (IY (fun e D s=>mD P C X n nt r b e D s Q) Q)):mD P C X (n+1) nt r (.seq a b) env D s Q:=fun T hT k hk=>by
 refine h T hT _ (fun x e T' D' s' hT' hq=>?_);cases x with
 |normal=>exact hq T' hT' k hk
 |ret=>exact hk _ _ T' D' s' hT' hq
 |exit i=>exact hk _ _ T' D' s' hT' hq
 |goto i=>exact hk _ _ T' D' s' hT' hq
theorem HT{id:Nat}(h:mD P C X n nt r b env D s (Rr id Q)):mD P C X (n+1) nt r (.block id b) env D s Q:=fun T hT k hk=>by
 refine h T hT _ (fun x e T' D' s' hT' hq=>?_);cases x with
 |normal=>exact hk _ _ T' D' s' hT' hq
 |ret=>exact hk _ _ T' D' s' hT' hq
 |goto i=>exact hk _ _ T' D' s' hT' hq
 |exit j=>
  show ifB (Nat.beq j id) (k .normal T' D' s') (k (.exit j) T' D' s')=true;have hq':sel (Nat.beq j id) (Q .normal e D' s') (Q (.exit j) e D' s'):=hq;cases hb:Nat.beq j id with
  |true=>rw[hb] at hq';exact hk _ _ T' D' s' hT' hq'
  |false=>rw[hb] at hq';exact hk _ _ T' D' s' hT' hq'
theorem EO{x:Ev.X}(hx:xv env x=some (.bool true))(h:mD P C X n nt r a env D s Q):mD P C X (n+1) nt r (.cond x a b) env D s Q:=fun T hT k hk=>
 U5 hT (k:=fun v=>pP v (fun t=>@Bool.rec (fun _=>Bool) ((dJ P C X n).code r b T D s k) ((dJ P C X n).code r a T D s k) t)) hx (h T hT k hk)
theorem EP{x:Ev.X}(hx:xv env x=some (.bool false))(h:mD P C X n nt r b env D s Q):mD P C X (n+1) nt r (.cond x a b) env D s Q:=fun T hT k hk=>
 U5 hT (k:=fun v=>pP v (fun t=>@Bool.rec (fun _=>Bool) ((dJ P C X n).code r b T D s k) ((dJ P C X n).code r a T D s k) t)) hx (h T hT k hk)
theorem HU{l:List Item}(h:M5 P C X n nt l env s (fun e s=>Q .normal e D s)):mD P C X (n+1) nt r (.items l) env D s Q:=fun T hT k hk=>
 h T hT (fun T s=>k .normal T D s) (fun e T' s' hT' hq=>hk _ _ T' D s' hT' hq)
theorem mD.less{c:CC}(hl:fF env env')(h:mD P C X n nt r c env' D s Q):mD P C X n nt r c env D s Q:=fun T hT k hk=>h T (hT.less hl) k hk
theorem mD.mono{c:CC}{Q':iH->List (Nat×Value)->List Nat->St->Prop}(h:mD P C X n nt r c env D s Q')(hq:∀x e D s,Q' x e D s->Q x e D s):mD P C X n nt r c env D s Q:=fun T hT k hk=>h T hT k (fun x e T' D' s' hT' hq'=>hk x e T' D' s' hT' (hq _ _ _ _ hq'))
theorem I1(I:Nat->List (Nat×Value)->St->Prop)(c K:Nat)(hb:∀n,K<=n->∀j e s,I j e s->mD P C X (n+c) nt r b e D s (IY (fun e' D' s'=>D'=D/\∃j' e2,j'<j/\fF e' e2/\I j' e2 s') Q)) :
 ∀{n j:Nat} {env:List (Nat×Value)} {s:St},K<=n->I j env s->mD P C X (n+j+c+1) nt r (.loop b) env D s Q:=by
 intro n j
 induction j using Nat.strongRecOn generalizing n with
 |ind j ih=>
  intro env s hK hI T hT k hk;show(dJ P C X (n+j+c)).code r b T D s (fun x T D s=>jZ x ((dJ P C X (n+j+c)).code r (.loop b) T D s k) (k x T D s) (fun _=>k x T D s) (fun _=>k x T D s))=true;refine hb (n+j) oM j env s hI T hT _ (fun x e T' D' s' hT' hq=>?_);cases x with
  |normal=>
   obtain⟨rfl,j',e2,hlt,hl,hI'⟩:=hq;have e1:n+j+c=(n+(j-j'-1))+j'+c+1:=oM
   show(dJ P C X (n+j+c)).code r (.loop b) T' D' s' k=true;rw[e1];exact ih j' hlt (n:=n+(j-j'-1)) oM hI' T' (hT'.less hl) k hk
  |ret=>exact hk _ _ T' D' s' hT' hq
  |exit i=>exact hk _ _ T' D' s' hT' hq
  |goto i=>exact hk _ _ T' D' s' hT' hq
theorem Dr(I:Nat->List (Nat×Value)->St->Prop)(c K L:Nat)(hb:∀n,K<=n->∀j e s,I j e s->mD P C X (n+c) nt r b e D s (IY (fun e' D' s'=>D'=D/\∃j' e2,j'<j/\fF e' e2/\I j' e2 s') Q))
 {j:Nat} {env2:List (Nat×Value)} (hn:K+L<=n) (hj:j<=L) (hl:fF env env2) (hI:I j env2 s):mD P C X (n+c+1) nt r (.loop b) env D s Q:=by
 have:=I1 (P:=P) (C:=C) (X:=X) (nt:=nt) (r:=r) (D:=D) (Q:=Q) I c K hb (n:=n-j) oM hI;rw[show n-j+j+c+1=n+c+1 by omega] at this;exact this.less hl
end
/-! ## Calls -/
def rN:Nat->List Value->List (Nat×Value)
 |_,[]=>[]
 |i,v::l=>(i,v)::rN (i+1) l
theorem BG{l:List Value}:∀{i t:Nat} {v:Value},look (rN i l) t=some v->i<=t/\t<i+l.length/\l[t-i]? = some v:=by
 induction l with
 |nil=>intro i t v h;cases h
 |cons u l ih=>
  intro i t v h;simp only[rN,look] at h;by_cases ht:i=t
  ·subst ht
   rw[show Nat.beq i i=true from by rw[Nat.beq_eq]] at h;cases h;exact⟨Nat.le_refl _,sM,sM⟩
  ·rw[show Nat.beq i t=false from uT ht] at h
   obtain⟨h1,h2,h3⟩:=ih h;refine⟨oM,by simp;omega,?_⟩;obtain⟨q,hq⟩:∃q,t-i=q+1:=⟨t-i-1,oM⟩;rw[hq,List.getElem?_cons_succ,<-h3];congr 1;omega
theorem BH{α:Type}:∀{l:List α} {t:BT α} {n:Nat},eE t n->eE (BT.adds t n l) (n+l.length):=by
 intro l
 induction l with
 |nil=>intro t n h;exact h
 |cons v l ih=>
  intro t n h;have key:∀{t:BT α} {n:Nat},eE t n->eE (t.add n v) (n+1):=by
   intro t
   induction t with
   |leaf=>
    intro n h;have h0:n=0:=h;subst h0;exact⟨oM,by simp[eE],by simp[eE]⟩
   |node a l r il ir=>
    intro n h;obtain⟨h0,hl,hr⟩:=h;simp only[BT.add];rw[if_neg h0];by_cases h1:n % 2=1
    ·rw[if_pos h1]
     exact⟨oM,by rw[show(n+1) / 2=n / 2+1 by omega];exact il hl,by rw[show(n+1-1) / 2=(n-1) / 2 by omega];exact hr⟩
    ·rw[if_neg h1]
     exact⟨oM,by rw[show(n+1) / 2=n / 2 by omega];exact hl,by rw[show(n+1-1) / 2=n / 2-1+1 by omega];exact ir (by rw[show n / 2-1=(n-1) / 2 by omega];exact hr)⟩
  have:=ih (key h);rw[show n+(v::l).length=n+1+l.length by simp;omega];exact this
theorem BI(n:Nat):eE (full n) n:=by
 have:=BH (l:=undefs n) (t:=(.leaf:BT Value)) (n:=0) (by simp[eE]);have hl:∀n,(undefs n).length=n:=fun n=>by induction n with
  |zero=>rfl
  |succ n ih=>simp[undefs,ih]
 rw[hl,Nat.zero_add] at this;exact this
def Ds:List CRes->List (Nat×Value)->St->List Value->Prop
 |[],_,_,vs=>vs=[]
 | .tmp t::l,env,s,vs=>∃v vs',vs=v::vs'/\look env t=some v/\Ds l env s vs'
 | .cell a none::l,env,s,vs=>∃b o v vs',vs=v::vs'/\look env a=some (.pointer (some ⟨b,o,none⟩))/\At s b o v/\Ds l env s vs'
 | .cell a (some n)::l,env,s,vs=>∃b o r vs',vs = .agg ⟨r⟩::vs'/\look env a=some (.pointer (some ⟨b,o,none⟩))/\r.length=n/\n≠0/\pK s b o r/\Ds l env s vs'
def one:List Value->Value
 |[v]=>v
 |l=> .tuple ⟨l⟩
theorem FL{l:List Value}{k:Value->Bool}(h:k (one l)=true):B9 l k=true:=by
 rcases l with _|⟨v,_|⟨u,l⟩⟩ <;> exact h
theorem uU{nt:Nat}{T:BT Value}{env:List (Nat×Value)}{s:St}(hT:yB nt T env):∀{l:List CRes} {vs:List Value} {k:List Value->Bool},Ds l env s vs->k vs=true->xX s T l k=true
 |[],vs,k,h,hk=>by
  have:vs=[]:=h;subst this;exact hk
 | .tmp t::l,vs,k,h,hk=>by
  obtain⟨v,vs',rfl,h1,h2⟩:=h;exact gN (k:=fun v=>xX s T l (fun l=>k (v::l))) (hT.2 t v h1) (uU hT (k:=fun l=>k (v::l)) h2 hk)
 | .cell a none::l,vs,k,h,hk=>by
  obtain⟨b,o,v,vs',rfl,h1,h2,h3⟩:=h;exact gN (k:=fun a=>En s none a (fun v=>xX s T l (fun l=>k (v::l)))) (hT.2 a _ h1) (Co h2 (uU hT (k:=fun l=>k (v::l)) h3 hk))
 | .cell a (some n)::l,vs,k,h,hk=>by
  obtain⟨b,o,r,vs',rfl,h1,h2,h0,h4,h3⟩:=h;exact gN (k:=fun a=>En s (some n) a (fun v=>xX s T l (fun l=>k (v::l)))) (hT.2 a _ h1) (Cp h4 h2 h0 (uU hT (k:=fun l=>k (.agg ⟨r⟩::l)) h3 hk))
def Uq(res:List CRes)(Q:Value->St->Prop):iH->List (Nat×Value)->List Nat->St->Prop
 | .normal,e,D,s=>D=[]/\∃vs,Ds res e s vs/\Q (one vs) s
 | .ret,e,D,s=>D=[]/\∃vs,Ds res e s vs/\Q (one vs) s
 |_,_,_,_=>False
theorem EQ{X:FuncId->List Value->St->(Value->St->Bool)->Bool}{Q:Value->St->Prop}{body:CC}{res:List CRes}(hC:∀k,k ⟨body,nt,res⟩=true->C f k=true)(hl:vs.length<=nt)
 (h:mD P C X n nt none body (rN 0 vs) [] s (Uq res Q)):Ar P C X (n+1) f vs s Q:=fun k hk=>by
 have key:xC C (dJ P C X n) f vs s k=true:=by
  refine hC _ ?_;show ifB (Nat.ble (mK vs) nt) (fM (full nt) 0 vs (fun T=>(dJ P C X n).code none body T [] s (fun x T D s=>jZ x (gR res T D s k) (gR res T D s k) (fun _=>false) (fun _=>false)))) false=true;rw[kK,show Nat.ble vs.length nt=true from by rw[Nat.ble_eq];exact hl];refine nD (BI nt) oM (fun T hf hg=>h T ⟨hf,fun t v hv=>?_⟩ _ (fun x e T' D' s' hT' hq=>?_))
  ·obtain⟨h1,h2,h3⟩:=BG hv
   rw[hg,if_pos ⟨h1,h2⟩];exact h3
  ·have fin:D'=[]/\(∃vs,Ds res e s' vs/\Q (one vs) s')->gR res T' D' s' k=true:=by
    rintro⟨rfl,vs,h1,h2⟩;exact uU hT' (k:=fun l=>B9 l (fun v=>k v s')) h1 (FL (hk _ _ h2))
   cases x with
   |normal=>exact fin hq
   |ret=>exact fin hq
   |exit i=>exact hq.elim
   |goto i=>exact hq.elim
 show(X f vs s k || xC C (dJ P C X n) f vs s k)=true;rw[key,Bool.or_true]
theorem Ar.mono{X:FuncId->List Value->St->(Value->St->Bool)->Bool}{Q Q':Value->St->Prop}(h:Ar P C X n f vs s Q')(hq:∀v s,Q' v s->Q v s):Ar P C X n f vs s Q:=fun k hk=>h k (fun v s' h'=>hk v s' (hq v s' h'))
end
end Go.Proofs.YtjkdkpckjgaplaaGreat.Ev
namespace Go.Proofs.YtjkdkpckjgaplaaGreat.Ev
open Go Go.RowKit
noncomputable section
variable{g:Option (Nat×Bool)}{d e m off o t:Nat}{c:COp}{l:List Value}{x y:Ev.X}{v u r:Value}{a b:Int}{k:IntKind}
section
variable{P:Program}{C:Nat->(CF->Bool)->Bool}{X:FuncId->List Value->St->(Value->St->Bool)->Bool}{n nt:Nat}{env:List (Nat×Value)}{s:St}
/-! ## Operations in a row -/
def oZ(env:List (Nat×Value)):Option (Nat×Bool)->Option Bool
 |none=>some true
 |some (t,w)=>match look env t with
  |some (.bool b)=>some (match b,w with|true,true|false,false=>true|_,_=>false)
  |some (.tuple _)=>some false
  |_=>none
theorem BJ{T:BT Value}(hT:yB nt T env){y z:Bool}(h:oZ env g=some true)(hy:y=true):kI T g y z=true:=by
 subst hy;rcases g with _|⟨t,w⟩
 ·rfl
 ·simp only[oZ] at h
  split at h
  ·rename_i b hb
   refine gN (k:=fun v=>pQ v (fun b=>@Bool.rec (fun _=>Bool) (@Bool.rec (fun _=>Bool) true z w) (@Bool.rec (fun _=>Bool) z true w) b) z) (hT.2 t _ hb) ?_;cases b <;> cases w <;> first|rfl|(simp at h)
  ·cases h
  ·cases h
theorem I3{T:BT Value}(hT:yB nt T env){y z:Bool}(h:oZ env g=some false)(hz:z=true):kI T g y z=true:=by
 subst hz;rcases g with _|⟨t,w⟩
 ·simp[oZ] at h
 ·simp only[oZ] at h
  split at h
  ·rename_i b hb
   refine gN (k:=fun v=>pQ v (fun b=>@Bool.rec (fun _=>Bool) (@Bool.rec (fun _=>Bool) y true w) (@Bool.rec (fun _=>Bool) true y w) b) true) (hT.2 t _ hb) ?_;cases b <;> cases w <;> first|rfl|(simp at h)
  ·rename_i a ha
   exact gN (k:=fun v=>pQ v (fun b=>@Bool.rec (fun _=>Bool) (@Bool.rec (fun _=>Bool) y true w) (@Bool.rec (fun _=>Bool) true y w) b) true) (hT.2 t _ ha) rfl
  ·cases h
variable{Q:List (Nat×Value)->St->Prop}
theorem Rs(h:Q env s):M5 P C X n nt [] env s Q:=fun T hT k hk=>hk env T s hT h
theorem S6{l:List Item}(hg:oZ env g=some true)(hd:yC (some d) nt=true)(h:rC P C X n nt c env s (fun v s'=>M5 P C X n nt l ((d,v)::env) s' Q)):M5 P C X n nt (⟨g,some d,c⟩::l) env s Q:=fun T hT k hk=>by
 show kI T g (iI P (dJ P C X n) T s c (fun v s=>kA T (some d) v (fun T=>fH P (dJ P C X n) l T s k))) (kA T (some d) undef (fun T=>fH P (dJ P C X n) l T s k))=true;exact BJ hT hg (h T hT _ (fun v s' hl=>Aq hT hd (fun T' hT'=>hl T' hT' k hk)))
theorem Ru{l:List Item}(hg:oZ env g=some true)(h:rC P C X n nt c env s (fun _ s'=>M5 P C X n nt l env s' Q)):M5 P C X n nt (⟨g,none,c⟩::l) env s Q:=fun T hT k hk=>by
 show kI T g (iI P (dJ P C X n) T s c (fun v s=>kA T none v (fun T=>fH P (dJ P C X n) l T s k))) (kA T none undef (fun T=>fH P (dJ P C X n) l T s k))=true;exact BJ hT hg (h T hT _ (fun v s' hl=>hl T hT k hk))
theorem S7{l:List Item}(hg:oZ env g=some false)(hd:yC (some d) nt=true)(h:M5 P C X n nt l ((d,undef)::env) s Q):M5 P C X n nt (⟨g,some d,c⟩::l) env s Q:=fun T hT k hk=>by
 show kI T g (iI P (dJ P C X n) T s c (fun v s=>kA T (some d) v (fun T=>fH P (dJ P C X n) l T s k))) (kA T (some d) undef (fun T=>fH P (dJ P C X n) l T s k))=true;exact I3 hT hg (Aq hT hd (fun T' hT'=>h T' hT' k hk))
end
section
variable{P:Program}{C:Nat->(CF->Bool)->Bool}{X:FuncId->List Value->St->(Value->St->Bool)->Bool}{n nt:Nat}{env:List (Nat×Value)}{s:St}{R:Value->St->Prop}
/-! ## The operations -/
theorem S8(hx:xv env x=some v)(h:R v s):rC P C X n nt (.mov x) env s R:=fun T hT k hk=>U5 hT (k:=vK s k) hx (hk _ _ h)
theorem I4{c a b:Ev.X}(hc:xv env c=some (.bool true))(ha:xv env a=some v)(hb:xv env b=some u)(h:R v s):rC P C X n nt (.pick c a b) env s R:=fun T hT k hk=>
 U5 hT (k:=fun c=>bO T a (fun a=>bO T b (fun b=>uF c a b (vK s k)))) hc (U5 hT (k:=fun a=>bO T b (fun b=>uF (.bool true) a b (vK s k))) ha (U5 hT (k:=fun b=>uF (.bool true) v b (vK s k)) hb (hk _ _ h)))
theorem I5{c a b:Ev.X}(hc:xv env c=some (.bool false))(ha:xv env a=some v)(hb:xv env b=some u)(h:R u s):rC P C X n nt (.pick c a b) env s R:=fun T hT k hk=>
 U5 hT (k:=fun c=>bO T a (fun a=>bO T b (fun b=>uF c a b (vK s k)))) hc (U5 hT (k:=fun a=>bO T b (fun b=>uF (.bool false) a b (vK s k))) ha (U5 hT (k:=fun b=>uF (.bool false) v b (vK s k)) hb (hk _ _ h)))
/-! Memory. -/
def xM{α:Type}:BT α->Nat->Bool
 | .leaf,n=>Nat.beq n 0
 | .node _ l r,n=>!Nat.beq n 0 && xM l (n / 2) && xM r ((n-1) / 2)
theorem As{α:Type}:∀{t:BT α} {n:Nat},xM t n=true->eE t n
 | .leaf,n,h=>by show n=0;simpa [xM] using h
 | .node _ l r,n,h=>by
  simp only[xM,Bool.and_eq_true,Bool.not_eq_true',C8,decide_eq_false_iff_not] at h;exact⟨h.1.1,As h.1.2,As h.2⟩
def wM{α:Type}(t:BT α):Nat->Nat->Option (List α)
 |_,0=>some []
 |i,n+1=>match t.get i,wM t (i+1) n with
  |some v,some l=>some (v::l)
  |_,_=>none
theorem BK{α:Type}{t:BT α}:∀{n i:Nat} {l:List α},wM t i n=some l->l.length=n/\∀j,j<n->t.get (i+j)=l[j]?
 |0,i,l,h=>by cases h;exact⟨rfl,fun j hj=>absurd hj (Nat.not_lt_zero j)⟩
 |n+1,i,l,h=>by
  simp only[wM] at h;split at h
  ·rename_i v l' h1 h2
   cases h;obtain⟨h3,h4⟩:=BK h2;refine⟨by simp[h3],fun j hj=>?_⟩;cases j with
   |zero=>exact h1
   |succ j=>rw[List.getElem?_cons_succ,<-h4 j oM];congr 1;omega
  ·cases h
theorem S9{z:BT Value}(hw:Wf s)(hf:xM z m=true)(hz:wM z 0 m=some l)(h:∀s',sX s s'->s'.n=s.n+1->Obj s' s.n e false l->R (ptr s.n) s'):rC P C X n nt (.new e m z) env s R:=fun T hT k hk=>by
 show C1 s (fun g=>jY s (.cells m z e false) (k (ptr g)))=true;obtain⟨h1,h2⟩:=BK hz;have hf':=As hf;refine kP (gE h1.symm hw (by rw[h1];exact hf') (fun j=>?_) (fun s' a b c=>hk _ _ (h s' a b c)));rcases Nat.lt_or_ge j m with hj|hj
 ·have:=h2 j hj;simpa using this
 ·rw[hf'.none j hj,List.getElem?_eq_none oM]
theorem Ta(hw:Wf s)(hx:xv env x=some v)(hc:v.cells=⟨l⟩)(h1:eZ l=true)(h:∀s',sX s s'->s'.n=s.n+1->Obj s' s.n e false l->R (ptr s.n) s'):rC P C X n nt (.box e x) env s R:=fun T hT k hk=>by
 refine U5 hT (k:=fun v=>HB s e v k) hx ?_;unfold HB;refine kP ?_;rw[eC,hc];show ifB (eZ l) (dG (mK l) (fun m=>eY .leaf 0 l (fun c=>jY s (.cells m c e false) (k (ptr s.n))))) false=true;rw[h1,bG];exact iL (fun c hf hg=>gE (kK l) hw hf hg (fun s' a b c=>hk _ _ (h s' a b c)))
theorem Tb{a:Ev.X}{b off:Nat}(ha:xv env a=some (.pointer (some ⟨b,off,none⟩)))(hv:At s b off v)(h:R v s):rC P C X n nt (.ld a none) env s R:=fun T hT k hk=>
 U5 hT (k:=fun a=>En s none a (vK s k)) ha (Co hv (hk _ _ h))
theorem Qj{a:Ev.X}{b off m:Nat}(ha:xv env a=some (.pointer (some ⟨b,off,none⟩)))(hv:pK s b off l)(hm:l.length=m)(h0:m≠0)(h:R (.agg ⟨l⟩) s):rC P C X n nt (.ld a (some m)) env s R:=fun T hT k hk=>
 U5 hT (k:=fun a=>En s (some m) a (vK s k)) ha (Cp hv hm h0 (hk _ _ h))
theorem Ur{a x:Ev.X}{b off e:Nat}{op:Bool}(hw:Wf s)(ha:xv env a=some (.pointer (some ⟨b,off,none⟩)))(hx:xv env x=some v)(ho:Obj s b e op l)(hlt:off<l.length)(h1:oneCell v=true)
 (h:∀s',HS s s' [b]->s'.n=s.n->Obj s' b e op (l.set off v)->R undef s'):rC P C X n nt (.st a x none) env s R:=fun T hT k hk=>
 U5 hT (k:=fun a=>bO T x (fun x=>Mx s none x a (k undef))) ha (U5 hT (k:=fun x=>Mx s none x _ (k undef)) hx (M2 hw ho hlt h1 (fun s' a b c=>hk _ _ (h s' a b c))))
theorem Tc{a x:Ev.X}{b off e m:Nat}{op:Bool}{r l:List Value}(hw:Wf s)(ha:xv env a=some (.pointer (some ⟨b,off,none⟩)))(hx:xv env x=some (.agg ⟨r⟩))(ho:Obj s b e op l)(hlt:off+m<=l.length)(hm:r.length=m)(h1:eZ r=true)
 (h:∀s',HS s s' [b]->s'.n=s.n->Obj s' b e op (over l off r)->R undef s'):rC P C X n nt (.st a x (some m)) env s R:=fun T hT k hk=>
 U5 hT (k:=fun a=>bO T x (fun x=>Mx s (some m) x a (k undef))) ha (U5 hT (k:=fun x=>Mx s (some m) x _ (k undef)) hx (M3 hw ho hlt hm h1 (fun s' a b c=>hk _ _ (h s' a b c))))
theorem FM{a:Ev.X}{d b off:Nat}(ha:xv env a=some (.pointer (some ⟨b,off,none⟩)))(hd:look env d=some v)(hv:At s b off v)(he:eqV v v=true)(h:R undef s):rC P C X n nt (.again a none d) env s R:=fun T hT k hk=>
 U5 hT (k:=fun a=>bO T (.t d) (fun d=>vW s none a d k)) ha (U5 (x:=.t d) hT (k:=fun d=>vW s none _ d k) hd (Co (k:=fun u=>ifB (eqV u v) (k undef s) false) hv (by show ifB (eqV v v) (k undef s) false=true;rw[he];exact hk _ _ h)))
theorem I6{a:Ev.X}{d b off m:Nat}(ha:xv env a=some (.pointer (some ⟨b,off,none⟩)))(hd:look env d=some (.agg ⟨l⟩))(hv:pK s b off l)(hm:l.length=m)(h0:m≠0)(he:eqL l l=true)(h:R undef s):rC P C X n nt (.again a (some m) d) env s R:=fun T hT k hk=>
 U5 hT (k:=fun a=>bO T (.t d) (fun d=>vW s (some m) a d k)) ha (U5 (x:=.t d) hT (k:=fun d=>vW s (some m) _ d k) hd (Cp (k:=fun u=>ifB (eqV u (.agg ⟨l⟩)) (k undef s) false) hv hm h0 (by show ifB (eqL l l) (k undef s) false=true;rw[he];exact hk _ _ h)))
theorem Us{b o off:Nat}(hx:xv env x=some (.pointer (some ⟨b,o,none⟩)))(h:R (.pointer (some ⟨b,o+off,none⟩)) s):rC P C X n nt (.fa x off) env s R:=fun T hT k hk=>
 U5 hT (k:=fun x=>R9 x off (vK s k)) hx (by show dG (Nat.add o off) (fun o=>vK s k (.pointer (some ⟨b,o,none⟩)))=true;rw[bG];exact hk _ _ h)
theorem Ut{x i:Ev.X}{b o m c j size:Nat}{ik:IntKind}{z:Int}(hx:xv env x=some (.slice (some ⟨b,o,none⟩) m c))(hi:xv env i=some (.int ik z))(hz:z=(j:Int))(hj:j<m)(h:R (.pointer (some ⟨b,o+j*size,none⟩)) s):rC P C X n nt (.ia x i size) env s R:=fun T hT k hk=>by
 subst hz;refine U5 hT (k:=fun x=>bO T i (fun i=>Sa x i size (vK s k))) hx (U5 hT (k:=fun i=>Sa _ i size (vK s k)) hi ?_);show ifB (Nat.blt j m) (dG (Nat.add o (Nat.mul j size)) (fun o=>vK s k (.pointer (some ⟨b,o,none⟩)))) false=true;rw[show Nat.blt j m=true from by rw[Nat.blt_eq];exact hj,bG];exact hk _ _ h
theorem Td{x i:Ev.X}{b o m j size:Nat}{ik:IntKind}{z:Int}(hx:xv env x=some (.pointer (some ⟨b,o,none⟩)))(hi:xv env i=some (.int ik z))(hz:z=(j:Int))(hj:j<m)(h:R (.pointer (some ⟨b,o+j*size,none⟩)) s):rC P C X n nt (.iaa x i m size) env s R:=fun T hT k hk=>by
 subst hz;refine U5 hT (k:=fun x=>bO T i (fun i=>Eo x i m size (vK s k))) hx (U5 hT (k:=fun i=>Eo _ i m size (vK s k)) hi ?_);show ifB (Nat.blt j m) (dG (Nat.add o (Nat.mul j size)) (fun o=>vK s k (.pointer (some ⟨b,o,none⟩)))) false=true;rw[show Nat.blt j m=true from by rw[Nat.blt_eq];exact hj,bG];exact hk _ _ h
theorem Rv{a:Addr}(hx:xv env x=some (.pointer (some a)))(h:R (.pointer (some a)) s):rC P C X n nt (.nilc x) env s R:=fun T hT k hk=>U5 hT (k:=fun v=>Fo v (vK s k)) hx (hk _ _ h)
theorem I7{a:Option Addr}{m c:Nat}(hx:xv env x=some (.slice a m c))(ha:∀b,a=some b->b.spot=none)(h:R (.int .i64 (m:Int)) s):rC P C X n nt (.len x) env s R:=fun T hT k hk=>by
 refine U5 hT (k:=fun x=>fX x (fun n _=>k (.int .i64 (.ofNat n)) s) (fun _ _ n _=>k (.int .i64 (.ofNat n)) s)) hx ?_;rcases a with _|⟨b,o,sp⟩
 ·exact hk _ _ h
 ·have:sp=none:=ha _ rfl
  subst this;exact hk _ _ h
theorem Te{i:Nat}(hx:xv env x=some (.tuple ⟨l⟩))(hi:l[i]? = some v)(h:R v s):rC P C X n nt (.ext x i) env s R:=fun T hT k hk=>by
 refine U5 hT (k:=fun x=>pR x (fun l=>B6 l i (vK s k))) hx ?_;have key:∀{l:List Value} {i:Nat},l[i]? = some v->B6 l i (vK s k)=true:=by
  intro l
  induction l with
  |nil=>intro i h;simp at h
  |cons u l ih=>
   intro i hi;cases i with
   |zero=>simp at hi;subst hi;exact hk _ _ h
   |succ i=>exact ih (by simpa using hi)
 exact key hi
theorem Uu{f:Nat}{p c:List Ev.X}{ps cs:List Value}(hp:Cq env p=some ps)(hc:Cq env c=some cs)(h:R (.func (.func f) ⟨ps⟩ ⟨cs⟩) s):rC P C X n nt (.fn f p c) env s R:=fun T hT k hk=>
 oY hT (k:=fun p=>iZ T c (fun c=>k (.func (.func f) ⟨p⟩ ⟨c⟩) s)) hp (oY hT (k:=fun c=>k (.func (.func f) ⟨ps⟩ ⟨c⟩) s) hc (hk _ _ h))
/-! Numbers. -/
theorem lA{b:BinOp}(hx:xv env x=some u)(hy:xv env y=some v)(hr:evBin P b t d u v=some r)(h:R r s):rC P C X n nt (.bin b t d x y) env s R:=fun T hT k hk=>by
 refine U5 hT (k:=fun x=>bO T y (fun y=>In P b t d x y (vK s k))) hx (U5 hT (k:=fun y=>In P b t d u y (vK s k)) hy ?_);unfold In;rw[hr];show gY r _=true;rw[eC];exact hk _ _ h
theorem Dt(k:IntKind):kindEq k k=true:=by cases k <;> rfl
theorem dV{b:BinOp}{m q:Int}(h:intBin b k m q=some r):evBin P b t d (.int k m) (.int k q)=some r:=by
 simp only[evBin,Dt,h];rfl
theorem Tf(hx:xv env x=some (.int .i64 a))(hy:xv env y=some (.int .i64 b))(hr:-9223372036854775808<=a+b/\a+b<9223372036854775808)(h:R (.int .i64 (a+b)) s):rC P C X n nt (.bin .add t d x y) env s R:=
 lA hx hy (dV (by simp only[intBin,gS];rw[IntWalk.i64_in _ oM])) h
theorem Tg(hx:xv env x=some (.int .i64 a))(hy:xv env y=some (.int .i64 b))(hr:-9223372036854775808<=a-b/\a-b<9223372036854775808)(h:R (.int .i64 (a-b)) s):rC P C X n nt (.bin .sub t d x y) env s R:=
 lA hx hy (dV (by simp only[intBin,gS];rw[IntWalk.i64_in _ oM])) h
theorem Th(hx:xv env x=some (.int .i64 a))(hy:xv env y=some (.int .i64 b))(hr:-9223372036854775808<=a*b/\a*b<9223372036854775808)(h:R (.int .i64 (a*b)) s):rC P C X n nt (.bin .mul t d x y) env s R:=
 lA hx hy (dV (by simp only[intBin,gS];rw[IntWalk.i64_in _ oM])) h
theorem Tk(hx:xv env x=some (.int .i64 a))(hy:xv env y=some (.int .i64 b))(h0:b≠0)(hr:-9223372036854775808<=a.tdiv b/\a.tdiv b<9223372036854775808)(h:R (.int .i64 (a.tdiv b)) s):rC P C X n nt (.bin .quo t d x y) env s R:=
 lA hx hy (dV (by simp only[intBin,gS,aB];rw[IntWalk.i64_in _ oM,show(b == 0)=false from by simpa using h0];rfl)) h
theorem Tl(hx:xv env x=some (.int .i64 a))(hy:xv env y=some (.int .i64 b))(h0:b≠0)(h:R (.int .i64 (a.tmod b)) s):rC P C X n nt (.bin .rem t d x y) env s R:=
 lA hx hy (dV (by simp only[intBin,aB];rw[show(b == 0)=false from by simpa using h0];rfl)) h
theorem Tm(hx:xv env x=some (.int k a))(hy:xv env y=some (.int k b))(h1:a<b->R (.bool true) s)(h2:¬a<b->R (.bool false) s):rC P C X n nt (.bin .lss t d x y) env s R:=by
 by_cases h:a<b
 ·exact lA hx hy (dV (by simp only[intBin,jC];rw[decide_eq_true h])) (h1 h)
 ·exact lA hx hy (dV (by simp only[intBin,jC];rw[decide_eq_false h])) (h2 h)
theorem Tn(hx:xv env x=some (.int k a))(hy:xv env y=some (.int k b))(h1:b<a->R (.bool true) s)(h2:¬b<a->R (.bool false) s):rC P C X n nt (.bin .gtr t d x y) env s R:=by
 by_cases h:b<a
 ·exact lA hx hy (dV (by simp only[intBin,jC];rw[decide_eq_true h])) (h1 h)
 ·exact lA hx hy (dV (by simp only[intBin,jC];rw[decide_eq_false h])) (h2 h)
theorem To(hx:xv env x=some (.int k a))(hy:xv env y=some (.int k b))(h1:a<=b->R (.bool true) s)(h2:¬a<=b->R (.bool false) s):rC P C X n nt (.bin .leq t d x y) env s R:=by
 by_cases h:a<=b
 ·exact lA hx hy (dV (by simp only[intBin,jC];rw[decide_eq_false oM];rfl)) (h1 h)
 ·exact lA hx hy (dV (by simp only[intBin,jC];rw[decide_eq_true oM];rfl)) (h2 h)
theorem Tp(hx:xv env x=some (.int k a))(hy:xv env y=some (.int k b))(h1:b<=a->R (.bool true) s)(h2:¬b<=a->R (.bool false) s):rC P C X n nt (.bin .geq t d x y) env s R:=by
 by_cases h:b<=a
 ·exact lA hx hy (dV (by simp only[intBin,jC];rw[decide_eq_false oM];rfl)) (h1 h)
 ·exact lA hx hy (dV (by simp only[intBin,jC];rw[decide_eq_true oM];rfl)) (h2 h)
theorem Tq(hx:xv env x=some (.int k a))(hy:xv env y=some (.int k b))(h1:a=b->R (.bool true) s)(h2:¬a=b->R (.bool false) s):rC P C X n nt (.bin .eql t d x y) env s R:=by
 by_cases h:a=b
 ·exact lA hx hy (dV (by simp only[intBin,aB];rw[beq_iff_eq.2 h])) (h1 h)
 ·exact lA hx hy (dV (by simp only[intBin,aB];rw[beq_eq_false_iff_ne.2 h])) (h2 h)
theorem Tr(hx:xv env x=some (.int k a))(hy:xv env y=some (.int k b))(h1:¬a=b->R (.bool true) s)(h2:a=b->R (.bool false) s):rC P C X n nt (.bin .neq t d x y) env s R:=by
 by_cases h:a=b
 ·exact lA hx hy (dV (by simp only[intBin,aB];rw[beq_iff_eq.2 h];rfl)) (h2 h)
 ·exact lA hx hy (dV (by simp only[intBin,aB];rw[beq_eq_false_iff_ne.2 h];rfl)) (h1 h)
theorem Qk{r:Option Value}{k:Value->St->Bool}(hr:r=some v)(hk:k v s=true):oK s k r=true:=by
 subst hr;exact FA hk
theorem Ts{u:UnOp}(hx:xv env x=some v)(hr:ev1 P (Op.unary u) v=some r)(h:R r s):rC P C X n nt (.un u x) env s R:=fun T hT k hk=>
 U5 hT (k:=fun x=>oK s k (ev1 P (Op.unary u) x)) hx (Qk hr (hk _ _ h))
theorem Uv{b:Builtin}{ts:Array Nat}{l:List Ev.X}{vs:List Value}(hx:Cq env l=some vs)(hr:evBi P b ts t vs=some r)(h:R r s):rC P C X n nt (.bi b ts t l) env s R:=fun T hT k hk=>
 oY hT (k:=fun l=>oK s k (evBi P b ts t l)) hx (Qk hr (hk _ _ h))
/-! Calls. -/
theorem I8{f:Ev.X}{l:List Ev.X}{g:Nat}{p c vs:List Value}(hf:xv env f=some (.func (.func g) ⟨p⟩ ⟨c⟩))(hl:Cq env l=some vs)(h:Ar P C X n g (p++(vs++c)) s R):rC P C X n nt (.call f l) env s R:=fun T hT k hk=>by
 show bO T f (fun f=>iZ T l (fun l=>rE (dJ P C X n) s l f k))=true;refine U5 hT (k:=fun f=>iZ T l (fun l=>rE (dJ P C X n) s l f k)) hf (oY hT (k:=fun l=>rE (dJ P C X n) s l (.func (.func g) ⟨p⟩ ⟨c⟩) k) hl ?_);show(dJ P C X n).call g (Be p (Be vs c)) s k=true;rw[sG,sG];exact h k hk
end
end
end Go.Proofs.YtjkdkpckjgaplaaGreat.Ev
