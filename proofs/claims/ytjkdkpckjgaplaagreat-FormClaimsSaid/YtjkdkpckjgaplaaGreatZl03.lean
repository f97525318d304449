import Derived.Test.YtjkdkpckjgaplaaGreatZl02
import Derived.MapKept
import Derived.OrdersIn
import Derived.Scope
import Derived.RangeFuncRecord
set_option linter.unusedVariables false
set_option linter.unusedSimpArgs false
namespace Go.Proofs.YtjkdkpckjgaplaaGreat.Ev
open Go Go.RowKit
variable{P:Program}
theorem Bx(off:Nat):∀(l:List Value) (k:Nat) (cs:Array Value),off+k+l.length<=cs.size ->
 ((l.zipIdx k).foldl (fun cs (p:Value×Nat)=>cs.setIfInBounds (off+p.2) p.1) cs).size=cs.size /\
 ∀j,((l.zipIdx k).foldl (fun cs (p:Value×Nat)=>cs.setIfInBounds (off+p.2) p.1) cs)[j]? = if off+k<=j/\j<off+k+l.length then l[j-(off+k)]? else cs[j]?
 |[],k,cs,_=>by
  refine⟨rfl,fun j=>?_⟩;rw[if_neg sM];rfl
 |v::l,k,cs,h=>by
  have h':off+(k+1)+l.length<=(cs.setIfInBounds (off+k) v).size:=by simp at h ⊢;omega
  obtain⟨h1,h2⟩:=Bx off l (k+1) (cs.setIfInBounds (off+k) v) h';simp only[List.zipIdx_cons,List.foldl_cons];refine⟨by rw[h1];simp,fun j=>?_⟩;rw[h2];simp only[List.length_cons];by_cases he:j=off+k
  ·subst he
   rw[if_neg oM,if_pos oM];have:off+k<cs.size:=by simp at h;omega
   simp[this]
  ·by_cases hr:off+(k+1)<=j/\j<off+(k+1)+l.length
   ·rw[if_pos hr,if_pos oM,show j-(off+k)=(j-(off+(k+1)))+1 by omega,List.getElem?_cons_succ]
   ·rw[if_neg hr,if_neg oM]
    rw[Array.getElem?_setIfInBounds_ne oM]
def PR(m:Mp)(place:Nat->Option (Nat×Nat)):List (Nat×Nat×Value)->List (Nat×Value)->Prop
 |[],l=>l=[]
 |(o,n,v)::ps,l=>∃i u t,l=(i,u)::t/\place i=some (o,n)/\VR m v u/\PR m place ps t
theorem yJ{m:Mp}{place:Nat->Option (Nat×Nat)}{N:Nat}:∀{ps:List (Nat×Nat×Value)} {l:List (Nat×Value)} {c:BT Value} {cs:Array Value} {k:BT Value->Bool},PR m place ps l->(∀o n v,(o,n,v)∈ps->o+n<=N)->cs.size=N ->
 (∀j v,c.get j=some v->oneCell v=true/\∃v',cs[j]? = some v'/\VR m v v')->nS c ps k=true ->
 ∃c' cs',k c'=true/\Instr.fill place cs l=some cs'/\cs'.size=N/\(∀j v,c'.get j=some v->oneCell v=true/\∃v',cs'[j]? = some v'/\VR m v v')
 |[],l,c,cs,k,hp,_,hs,hc,hk=>by
  simp only[PR] at hp;subst hp;exact⟨c,cs,hk,rfl,hs,hc⟩
 |(o,n,v)::ps,l,c,cs,k,hp,hN,hs,hc,hk=>by
  simp only[PR] at hp;obtain⟨i,u,t,rfl,hpl,hv,hp⟩:=hp;obtain⟨lv,hlv⟩:∃l,v.cells=⟨l⟩:=⟨v.cells.toList,rfl⟩;have hk1:(@Array.rec Value (fun _=>Bool) (fun l=>ifB (Nat.beq (mK l) n) (ifB (eZ l) (fM c o l (fun c=>nS c ps k)) false) false) v.cells)=true:=hk;rw[hlv] at hk1;have hk2:ifB (Nat.beq (mK lv) n) (ifB (eZ lv) (fM c o lv (fun c=>nS c ps k)) false) false=true:=hk1;obtain⟨h1,hk3⟩:=Z5 hk2;obtain⟨h2,hk4⟩:=Z5 hk3;have h1':lv.length=n:=by rw[<-kK];simpa using h1
  obtain⟨c1,hk5,_,hc1⟩:=lC hk4;have hcells:=hv.cells;rw[hlv] at hcells;obtain⟨lu,hlu⟩:∃l,u.cells=⟨l⟩:=⟨u.cells.toList,rfl⟩;rw[hlu] at hcells;have hlen:lu.length=lv.length:=LR.length hcells;have hle:=hN o n v sM;obtain⟨g1,g2⟩:=Bx o lu 0 cs (by rw[hlen,h1',hs];exact hle);have hcs1:(u.cells.zipIdx.foldl (fun cs (p:Value×Nat)=>cs.setIfInBounds (o+p.2) p.1) cs)=((lu.zipIdx 0).foldl (fun cs (p:Value×Nat)=>cs.setIfInBounds (o+p.2) p.1) cs):=by
   rw[<-Array.foldl_toList,hlu];simp[Array.toList_zipIdx]
  obtain⟨c',cs',r1,r2,r3,r4⟩:=yJ (place:=place) (N:=N) (ps:=ps) (l:=t) (c:=c1) (cs:=(lu.zipIdx 0).foldl (fun cs (p:Value×Nat)=>cs.setIfInBounds (o+p.2) p.1) cs) (k:=k) hp (fun o n v h=>hN o n v (by simp[h])) (by rw[g1];exact hs)
   (fun j q hj=>by
    rw[hc1] at hj;rw[g2];by_cases h:o<=j/\j<o+lv.length
    ·rw[if_pos h] at hj
     rw[if_pos (by rw[hlen];exact h)];obtain⟨q',h3,h4⟩:=LR.get hcells hj;exact⟨sD lv h2 q (List.mem_of_getElem? hj),q',h3,h4⟩
    ·rw[if_neg h] at hj
     rw[if_neg (by rw[hlen];exact h)];exact hc j q hj) hk5
  refine⟨c',cs',r1,?_,r3,r4⟩;have hsz:u.cells.size=n:=by rw[hlu];show lu.length=n;omega
  unfold Instr.fill;rw[hpl];simp only;rw[if_neg (by simp[hsz];omega)];rw[hcs1];exact r2
theorem Qa{m:Mp}{T:BT Value}{ρ:Operand->Value}{place:Nat->Option (Nat×Nat)}:∀{parts:List (Nat×Operand)} {xs:List (Nat×Nat×X)} {ps:List (Nat×Nat×Value)},cparts place parts=some xs->Ca T xs ps->(∀p∈parts,∀x v,cx p.2=some x->XV T x v->VR m v (ρ p.2)) ->
 PR m place ps (parts.map fun p=>(p.1,ρ p.2))
 |[],xs,ps,hc,hx,_=>by
  simp only[cparts,Option.some.injEq] at hc;subst hc;simp only[Ca] at hx;subst hx;simp only[PR,List.map_nil]
 |(i,x)::parts,xs,ps,hc,hx,hv=>by
  simp only[cparts] at hc;split at hc
  ·rename_i o n x' l h1 h2 h3
   cases hc;simp only[Ca] at hx;obtain⟨v,vs,rfl,h4,h5⟩:=hx;simp only[PR,List.map_cons];exact⟨i,ρ x,_,rfl,h1,hv (i,x) sM x' v h2 h4,Qa h3 h5 (fun p hp=>hv p (by simp[hp]))⟩
  ·cases hc
theorem Ad{T:BT Value}{N:Nat}:∀{xs:List (Nat×Nat×X)} {ps:List (Nat×Nat×Value)},inN N xs=true->Ca T xs ps->∀o n v,(o,n,v)∈ps->o+n<=N
 |[],ps,_,hx,o,n,v,hm=>by simp only[Ca] at hx;subst hx;cases hm
 |(o',n',x)::xs,ps,hN,hx,o,n,v,hm=>by
  simp only[Ca] at hx;obtain⟨u,vs,rfl,h4,h5⟩:=hx;simp only[inN,Bool.and_eq_true,Nat.ble_eq] at hN;rcases List.mem_cons.1 hm with h|h
  ·cases h;exact hN.1
  ·exact Ad hN.2 h5 o n v h
theorem Ew(w:World)(fs:Array Field)(h:∀f∈fs.toList,(P.info? f.type).isSome=true) :
 (fs.mapM fun f=>do pure (f.offset,<-sizeOf f.type):Sem (Array (Nat×Nat))).run P w = .ok (fs.map fun f=>(f.offset,((P.info? f.type).map (·.size)).getD 0)) w:=by
 rw[Array.mapM_eq_mapM_toList];have key:∀l:List Field,(∀f∈l,(P.info? f.type).isSome=true)->(l.mapM fun f=>do pure (f.offset,<-sizeOf f.type):Sem (List (Nat×Nat))).run P w = .ok (l.map fun f=>(f.offset,((P.info? f.type).map (·.size)).getD 0)) w:=by
  intro l
  induction l with
  |nil=>intro _;rfl
  |cons f l ih=>
   intro h;have h1:=h f sM;cases hi:P.info? f.type with
   |none=>rw[hi] at h1;cases h1
   |some i=>
    rw[List.mapM_cons];simp only[Sem.run_bind,bQ hi,Result.andThen_ok,Sem.run_pure];rw[ih (fun g hg=>h g (by simp[hg]))];simp[hi]
 rw[Sem.run_map,key fs.toList h];simp only[Result.andThen_ok]
 congr 1
 apply Array.ext'
 simp
theorem Iy{fs:Array Field}(h:∀f∈fs.toList,(P.info? f.type).isSome=true):(fun i=>(fs.map fun f=>(f.offset,((P.info? f.type).map (·.size)).getD 0))[i]?)=placesOf P fs:=by
 funext i
 unfold placesOf;rw[Array.getElem?_map];cases hf:fs[i]? with
 |none=>rfl
 |some f=>
  have:=h f (by have:=Array.getElem?_eq_some_iff.1 hf;obtain⟨h1,h2⟩:=this;rw[<-h2];simp);cases hi:P.info? f.type with
  |none=>rw[hi] at this;cases this
  |some inf=>simp[hi]
theorem Dd{m:Mp}{w:World}{t:TypeId}{z:Array Value}{place:Nat->Option (Nat×Nat)}{ps:List (Nat×Nat×Value)}{l:List (Nat×Value)}{k:Value->Bool}(hz:zeroOf P t=some z)
 (hrun:∀cs,Instr.fill place z l=some cs->(Instr.build t ⟨l⟩).run P w = .ok (.agg cs) w) (hp:PR m place ps l) (hN:∀o n v,(o,n,v)∈ps->o+n<=z.size) (hk:rD z.toList ps k=true) :
 ∃r,k r=true/\∃r',(Instr.build t ⟨l⟩).run P w = .ok r' w/\VR m r r':=by
 obtain⟨i,zv,hi,hzv,hvz,hf,hone⟩:=fB hz;unfold rD at hk;obtain⟨c,hk1,hc⟩:=kL hk;obtain⟨c',cs',hk2,hfill,hsz,hc'⟩:=yJ (N:=z.size) hp hN rfl (fun j v hj=>by
  have h1:=hc j v hj;exact⟨hone v (List.mem_of_getElem? h1),v,by simpa using h1,VR.flat v (by
   have:∀(l:List Value),flatL l=true->∀v∈l,flat v=true:=by
    intro l
    induction l with
    |nil=>intro _ v hv;cases hv
    |cons a l ih=>
     intro h v hv;simp only[flatL,Bool.and_eq_true] at h;rcases List.mem_cons.1 hv with rfl|hv
     ·exact h.1
     ·exact ih h.2 v hv
   exact this _ hf v (List.mem_of_getElem? h1))⟩) hk1
 obtain⟨lr,hk3,hlr,hg⟩:=uH hk2;have hlen:lr.length=z.size:=by rw[hlr,kK];rfl
 refine⟨_,hk3,.agg cs',hrun cs' hfill,?_⟩;simp only[VR];refine⟨cs',rfl,?_⟩;obtain⟨csl⟩:=cs';simp only[AR];refine⟨csl,rfl,LR.of_get (by rw[hlen];exact hsz) (fun j v hj=>?_)⟩;have hjl:=(List.getElem?_eq_some_iff.1 hj).1;have h1:=hg j (by rw[kK];show j<z.size;omega);rw[Nat.zero_add,hj] at h1;obtain⟨_,v',h2,h3⟩:=hc' j v h1;exact⟨v',by simpa using h2,h3⟩
theorem QH{K:Kp}{B:Nat}{m:Mp}{s:St}{w:World}{t e len:Nat}{i:TypeInfo}{z:Array Value}{ps:List (Nat×Nat×Value)}{l:List (Nat×Value)}{k:Value->St->Bool}(ht:P.underlying t=some (.slice e))(hi:P.info? e=some i)(hz:zeroOf P e=some z)(hzs:z.size=i.size)(h16:len*i.size<=65536)(hlen:len<=65536)
 (E:dO P K B m s w) (hp:PR m (fun k=>some (k*i.size,i.size)) ps l) (hN:∀o n v,(o,n,v)∈ps->o+n<=len*i.size) (hk:C6 s e len (len*i.size) (repeatN z.toList len) ps k=true) :
 ∃r s',k r s'=true/\∃m' w' r',(Instr.buildSlice t len ⟨l⟩).run P w = .ok r' w'/\m.le m'/\dO P K B m' s' w'/\Below B w w'/\VR m' r r':=by
 obtain⟨i',zv,hi2,hzv,hvz,hf,hone⟩:=fB hz;rw[hi] at hi2;cases hi2;unfold C6 at hk;have hrl:(repeatN z.toList len).length=len*i.size:=by rw[cZ];show len*z.size=_;rw[hzs]
 obtain⟨c,hk1,hc⟩:=kL hk;have hff:∀v∈repeatN z.toList len,flat v=true:=by
  have:∀(l:List Value),flatL l=true->∀v∈l,flat v=true:=by
   intro l
   induction l with
   |nil=>intro _ v hv;cases hv
   |cons a l ih=>
    intro h v hv;simp only[flatL,Bool.and_eq_true] at h;rcases List.mem_cons.1 hv with rfl|hv
    ·exact h.1
    ·exact ih h.2 v hv
  exact this _ (iJ hf len)
 obtain⟨c',cs',hk2,hfill,hsz,hc'⟩:=yJ (cs:=⟨repeatN z.toList len⟩) (N:=len*i.size) hp hN hrl (fun j v hj=>by
  have h1:=hc j v hj;exact⟨kD hone len v (List.mem_of_getElem? h1),v,by simpa using h1,VR.flat v (hff v (List.mem_of_getElem? h1))⟩) hk1
 have hk3:=gM hk2;have hr:OR P (m.put s.n w.heap.size 0) s.n (.cells (len*i.size) c' e false) (.cells cs' e (0,0)):=by
  refine⟨cs',rfl,by rw[hsz];exact Nat.le_refl _,fun j v hj=>?_,sM,fun j v hj=>?_⟩
  ·obtain⟨_,v',h1,h2⟩:=hc' j v hj
   exact⟨v',h1,h2.mono (Mp.put_le E.none)⟩
  ·obtain⟨h0,v',h1,h2⟩:=hc' j v hj
   exact⟨h0,by rw[<-hsz];exact(Array.getElem?_eq_some_iff.1 h1).1⟩
 obtain⟨s',hk4,hE,hB,hle,_⟩:=rG E 0 hr hk3;refine⟨_,s',hk4,_,_,.slice (some ⟨w.heap.size,0,none⟩) len len,?_,hle,hE,hB,?_⟩
 ·have hcell:∀Z:Array Value,(Z=if len*i.size=0 then #[] else z)->(Array.range (len*i.size)).map (fun j=>Z[j % Z.size]!)=⟨repeatN z.toList len⟩:=by
   rintro Z rfl;by_cases h0:len*i.size=0
   ·rw[h0]
    apply Array.ext'
    have e0:=List.eq_nil_of_length_eq_zero (hrl.trans h0);simp only[e0,Array.toList_map,Array.toList_range,List.range_zero,List.map_nil]
   ·rw[if_neg h0,<-hzs];exact lQ z len
  have hz2:(if len*i.size=0 then pure #[] else do pure (<-zeroValue e).cells:Sem (Array Value)).run P w = .ok (if len*i.size=0 then #[] else z) w:=by
   by_cases h0:len*i.size=0
   ·rw[if_pos h0,if_pos h0];rfl
   ·rw[if_neg h0,if_neg h0,Sem.run_bind,gD hi hzv]
    show Result.ok zv.cells w=_;rw[hvz]
  have hbig:¬len*i.size>2 ^ 24:=oM
  unfold Instr.buildSlice;simp only[Sem.run_bind,Y5 ht,Result.andThen_ok,bQ hi,if_neg hbig,Sem.run_pure,Sem.run_ite];by_cases h0:len*i.size=0
  ·have hc0:=hcell #[] (by rw[if_pos h0])
   simp only[if_pos h0,Sem.run_bind,Sem.run_pure,Result.andThen_ok];rw[hc0,hfill];simp[newRow]
  ·have hc0:=hcell z (by rw[if_neg h0])
   simp only[if_neg h0,Sem.run_bind,Sem.run_pure,Result.andThen_ok,gD hi hzv,hvz];rw[hc0,hfill];simp[newRow]
 ·simp only[VR]
  refine⟨trivial,?_⟩;rw[if_pos (by unfold OPEN;omega)];exact⟨_,_,Mp.put_same _ _ _ _,rfl⟩
end Go.Proofs.YtjkdkpckjgaplaaGreat.Ev
namespace Go.Proofs.YtjkdkpckjgaplaaGreat.Ev
open Go Go.RowKit
variable{x:Operand}{t:TypeId}
theorem Ae{m:Mp}{T:BT Value}{ρ:Operand->Value}:∀{l:List Operand} {xs:List X} {vs:List Value},cxs l=some xs->Ef T xs vs->(∀x∈l,∀X v,cx x=some X->XV T X v->VR m v (ρ x))->LR m vs (l.map ρ)
 |[],xs,vs,h,hv,_=>by
  simp only[cxs,Option.some.injEq] at h;subst h;simp only[Ef] at hv;subst hv;simp only[LR,List.map_nil]
 |x::l,xs,vs,h,hv,k=>by
  simp only[cxs] at h;split at h
  ·rename_i X Xs h1 h2
   cases h;simp only[Ef] at hv;obtain⟨v,vs',rfl,h3,h4⟩:=hv;simp only[LR,List.map_cons];exact⟨ρ x,_,rfl,k x sM X v h1 h3,Ae h2 h4 (fun y hy=>k y (by simp[hy]))⟩
  ·cases h
theorem wC{m:Mp}{T:BT Value}{ρ:Operand->Value}{x:Option Operand}{X':Option X}{v:Option Value}(h:cxo x=some X')(hv:XO T X' v)(k:∀y,x=some y->∀X v,cx y=some X->XV T X v->VR m v (ρ y)):VO m v (x.map ρ):=by
 cases x with
 |none=>
  simp only[cxo,Option.some.injEq] at h;subst h;simp only[XO] at hv;subst hv;simp only[VO,Option.map_none]
 |some y=>
  simp only[cxo,Option.map_eq_some_iff] at h;obtain⟨X,h1,rfl⟩:=h;simp only[XO] at hv;obtain⟨u,rfl,h2⟩:=hv;simp only[VO,Option.map_some];exact⟨_,rfl,k y rfl X u h1 h2⟩
def Hρ(m:Mp)(T:BT Value)(ρ:Operand->Value)(op:Op):Prop:=∀x∈op.operands,∀X v,cx x=some X->XV T X v->VR m v (ρ x)
section
variable{P:Program}{K:Kp}{B:Nat}{m:Mp}{s:St}{w:World}{T:BT Value}{ρ:Operand->Value}{k:Value->St->Bool}{dst:Option Tmp}{ty:TypeId}{pos:String}{af:Array Edge}{gd:Option (Nat×Bool)}{c:COp}
def bD(P:Program)(K:Kp)(B:Nat)(m:Mp)(w:World)(k:Value->St->Bool)(r:Result Next):Prop:=∃v s',k v s'=true/\Mz P K B m w r v s'
theorem bD.keep(E:dO P K B m s w){v u:Value}{r:Result Next}(hk:k v s=true)(h:VR m v u)(hr:r = .ok (.value u) w):bD P K B m w k r:=⟨v,s,hk,Mz.pure E h hr⟩
theorem Fv{op:Op}(ho:op = .move x∨op = .assign x)(hc:compOp P ⟨dst,op,ty,pos,af,gd⟩=some c)(hρ:Hρ m T ρ op)(E:dO P K B m s w)(hk:V6 P T s c k=true):bD P K B m w k ((execOp ρ ⟨dst,op,ty,pos,af,gd⟩).run P w):=by
 have hc':(cx x).map COp.mov=some c:=by rcases ho with rfl|rfl <;> exact hc
 obtain⟨X,h1,rfl⟩:=Option.map_eq_some_iff.1 hc';obtain⟨v,hv,hk⟩:=Q4 (k:=vK s k) hk;refine bD.keep E hk (hρ x (by rcases ho with rfl|rfl <;> simp[Op.operands]) X v h1 hv) ?_;rcases ho with rfl|rfl <;> rfl
theorem MF{a b d:Operand}(hc:compOp P ⟨dst,.pick a b d,ty,pos,af,gd⟩=some c)(hρ:Hρ m T ρ (.pick a b d))(E:dO P K B m s w)(hk:V6 P T s c k=true):bD P K B m w k ((execOp ρ ⟨dst,.pick a b d,ty,pos,af,gd⟩).run P w):=by
 simp only[compOp] at hc;split at hc
 ·rename_i A C D h1 h2 h3
  cases hc;have hk1:bO T A (fun c=>bO T C (fun a=>bO T D (fun b=>uF c a b (vK s k))))=true:=hk;obtain⟨va,ha,hk2⟩:=Q4 hk1;obtain⟨vb,hb,hk3⟩:=Q4 hk2;obtain⟨vd,hd,hk4⟩:=Q4 hk3;have ra:=hρ a (by simp[Op.operands]) A va h1 ha;have rb:=hρ b (by simp[Op.operands]) C vb h2 hb;have rd:=hρ d (by simp[Op.operands]) D vd h3 hd;obtain⟨t,rfl,hk5⟩:=pU hk4;have e:ρ a = .bool t:=by simpa only[VR] using ra
  cases t with
  |true=>exact bD.keep E hk5 rb (by simp[execOp,e,asBool])
  |false=>exact bD.keep E hk5 rd (by simp[execOp,e,asBool])
 ·cases hc
theorem Iz(hc:compOp P ⟨dst,.alloc t,ty,pos,af,gd⟩=some c)(E:dO P K B m s w)(hk:V6 P T s c k=true):bD P K B m w k ((execOp ρ ⟨dst,.alloc t,ty,pos,af,gd⟩).run P w):=by
 simp only[compOp] at hc;obtain⟨z,h1,rfl⟩:=Option.map_eq_some_iff.1 hc;obtain⟨v,s',hk2,m',w',u,hr,hle,hE,hB,hv⟩:=Ir h1 E hk;exact⟨v,s',hk2,m',w',.value u,by simp[execOp,hr],trivial,hle,hE,hB,hv⟩
theorem QI(hc:compOp P ⟨dst,.box t x,ty,pos,af,gd⟩=some c)(hρ:Hρ m T ρ (.box t x))(E:dO P K B m s w)(hk:V6 P T s c k=true):bD P K B m w k ((execOp ρ ⟨dst,.box t x,ty,pos,af,gd⟩).run P w):=by
 simp only[compOp] at hc;obtain⟨X,h1,rfl⟩:=Option.map_eq_some_iff.1 hc;obtain⟨v,hv,hk1⟩:=Q4 (k:=fun v=>HB s t v k) hk;obtain⟨r,s',hk2,m',w',u,hr,hle,hE,hB,hv⟩:=Qw E (hρ x (by simp[Op.operands]) X v h1 hv) hk1;exact⟨r,s',hk2,m',w',.value u,by simp[execOp,hr],trivial,hle,hE,hB,hv⟩
theorem MG(hc:compOp P ⟨dst,.load t x,ty,pos,af,gd⟩=some c)(hρ:Hρ m T ρ (.load t x))(E:dO P K B m s w)(hk:V6 P T s c k=true):bD P K B m w k ((execOp ρ ⟨dst,.load t x,ty,pos,af,gd⟩).run P w):=by
 simp only[compOp] at hc;split at hc
 ·rename_i n A h1 h2
  cases hc;obtain⟨v,hv,hk1⟩:=Q4 (k:=fun a=>En s n a (vK s k)) hk;obtain⟨r,hk2,r',hr,hrr⟩:=P9 h1 E (hρ x (by simp[Op.operands]) A v h2 hv) hk1;exact bD.keep E hk2 hrr (by simp[execOp,hr])
 ·cases hc
theorem IA{x y:Operand}(hc:compOp P ⟨dst,.store t x y,ty,pos,af,gd⟩=some c)(hρ:Hρ m T ρ (.store t x y))(E:dO P K B m s w)(hk:V6 P T s c k=true):bD P K B m w k ((execOp ρ ⟨dst,.store t x y,ty,pos,af,gd⟩).run P w):=by
 simp only[compOp] at hc;split at hc
 ·rename_i n i A C h1 h2 h3 h4
  obtain⟨h5,hc⟩:=cV hc;cases hc;have hk1:bO T A (fun a=>bO T C (fun x=>Mx s n x a (k undef)))=true:=hk;obtain⟨va,ha,hk2⟩:=Q4 hk1;obtain⟨vb,hb,hk3⟩:=Q4 hk2;obtain⟨s',hk4,w',hr,hE,hB⟩:=Sq h1 h2 (fun h=>by subst h;simpa using h5) E (hρ y (by simp[Op.operands]) C vb h4 hb) (hρ x (by simp[Op.operands]) A va h3 ha) hk3;exact⟨undef,s',hk4,m,w',.skip,by simp[execOp,hr],trivial,Mp.le_refl m,hE,hB,VR.flat undef rfl⟩
 ·cases hc
theorem MH(hc:compOp P ⟨dst,.nilCheck x,ty,pos,af,gd⟩=some c)(hρ:Hρ m T ρ (.nilCheck x))(E:dO P K B m s w)(hk:V6 P T s c k=true):bD P K B m w k ((execOp ρ ⟨dst,.nilCheck x,ty,pos,af,gd⟩).run P w):=by
 simp only[compOp] at hc;obtain⟨X,h1,rfl⟩:=Option.map_eq_some_iff.1 hc;obtain⟨v,hv,hk1⟩:=Q4 (k:=fun v=>Fo v (vK s k)) hk;obtain⟨r,hr,hk2⟩:=mY hk1;have h2:=hρ x (by simp[Op.operands]) X v h1 hv;refine bD.keep E hk2 h2 ?_;rcases MB h2 hr with ⟨a,e⟩|⟨f,p,c,e⟩ <;> simp[execOp,e]
theorem QJ{b:BinOp}{t t':TypeId}{x y:Operand}(hc:compOp P ⟨dst,.binOp b t x y t',ty,pos,af,gd⟩=some c)(hρ:Hρ m T ρ (.binOp b t x y t'))(E:dO P K B m s w)(hk:V6 P T s c k=true):bD P K B m w k ((execOp ρ ⟨dst,.binOp b t x y t',ty,pos,af,gd⟩).run P w):=by
 simp only[compOp] at hc;split at hc
 ·rename_i A C h1 h2
  cases hc;have hk1:bO T A (fun x=>bO T C (fun y=>In P b t (nilKind P t) x y (vK s k)))=true:=hk;obtain⟨va,ha,hk2⟩:=Q4 hk1;obtain⟨vb,hb,hk3⟩:=Q4 hk2;obtain⟨r,hr,hk4⟩:=mY hk3;rw[eC] at hk4;obtain⟨h5,h6⟩:=QB (w:=w) (hρ x (by simp[Op.operands]) A va h1 ha) (hρ y (by simp[Op.operands]) C vb h2 hb) hr x y;refine bD.keep E hk4 h6 ?_;have e:(execOp ρ ⟨dst,.binOp b t x y t',ty,pos,af,gd⟩)=(do pure (.value (<-(do eqGuard b t x y (ρ x) (ρ y);binOp b t (ρ x) (ρ y))))):=rfl;rw[e,Sem.run_bind,h5];rfl
 ·cases hc
end
end Go.Proofs.YtjkdkpckjgaplaaGreat.Ev
namespace Go.Proofs.YtjkdkpckjgaplaaGreat.Ev
open Go Go.RowKit
variable{t:TypeId}{x y:Operand}{ps:Array (Nat×Operand)}
theorem uI(ρ:Operand->Value)(a:Array Operand):a.map ρ=⟨a.toList.map ρ⟩:=by
 apply Array.ext'
 simp
theorem wD(ρ:Operand->Value)(a:Array (Nat×Operand)):(a.map fun (p:Nat×Operand)=>(p.1,ρ p.2))=⟨a.toList.map fun (p:Nat×Operand)=>(p.1,ρ p.2)⟩:=by
 apply Array.ext'
 simp
section
variable{P:Program}{K:Kp}{B:Nat}{m:Mp}{s:St}{w:World}{T:BT Value}{ρ:Operand->Value}{k:Value->St->Bool}{dst:Option Tmp}{ty:TypeId}{pos:String}{af:Array Edge}{gd:Option (Nat×Bool)}{c:COp}
theorem pW{x:Option Value}(h:oK s k x=true):∃v,x=some v/\k v s=true:=by
 cases x with
 |none=>cases h
 |some v=>exact⟨v,rfl,by simpa [oK,pS,vK,eC] using h⟩
theorem bD.of{e:Sem Value}{op:Oper}(h:∃v s',k v s'=true/\∃m' w' u,e.run P w = .ok u w'/\m.le m'/\dO P K B m' s' w'/\Below B w w'/\VR m' v u)(he:execOp ρ op=(do pure (.value (<-e)))):bD P K B m w k ((execOp ρ op).run P w):=by
 obtain⟨v,s',hk,m',w',u,hr,hle,hE,hB,hv⟩:=h;refine⟨v,s',hk,m',w',.value u,?_,trivial,hle,hE,hB,hv⟩;rw[he,Sem.run_bind,hr];rfl
theorem bD.ofK(E:dO P K B m s w){e:Sem Value}{op:Oper}(h:∃v,k v s=true/\∃u,e.run P w = .ok u w/\VR m v u)(he:execOp ρ op=(do pure (.value (<-e)))):bD P K B m w k ((execOp ρ op).run P w):=by
 obtain⟨v,hk,u,hr,hv⟩:=h;exact bD.of ⟨v,s,hk,m,w,u,hr,Mp.le_refl m,E,Below.refl B w,hv⟩ he
theorem Sw{u:UnOp}(hc:compOp P ⟨dst,.unOp u t x,ty,pos,af,gd⟩=some c)(hρ:Hρ m T ρ (.unOp u t x))(E:dO P K B m s w)(hk:V6 P T s c k=true):bD P K B m w k ((execOp ρ ⟨dst,.unOp u t x,ty,pos,af,gd⟩).run P w):=by
 simp only[compOp] at hc;obtain⟨X,h1,rfl⟩:=Option.map_eq_some_iff.1 hc;obtain⟨v,hv,hk1⟩:=Q4 (k:=fun x=>oK s k (ev1 P (Op.unary u) x)) hk;obtain⟨r,hr,hk2⟩:=pW hk1;obtain⟨h2,h3⟩:=Cb (w:=w) (hρ x (by simp[Op.operands]) X v h1 hv) hr;exact bD.ofK E ⟨r,hk2,r,h2,h3⟩ rfl
theorem MI{a b:TypeId}(hc:compOp P ⟨dst,.convert a b x,ty,pos,af,gd⟩=some c)(hρ:Hρ m T ρ (.convert a b x))(E:dO P K B m s w)(hk:V6 P T s c k=true):bD P K B m w k ((execOp ρ ⟨dst,.convert a b x,ty,pos,af,gd⟩).run P w):=by
 simp only[compOp] at hc;obtain⟨X,h1,rfl⟩:=Option.map_eq_some_iff.1 hc;obtain⟨v,hv,hk1⟩:=Q4 (k:=fun x=>oK s k (ev1 P (convert a b) x)) hk;obtain⟨r,hr,hk2⟩:=pW hk1;obtain⟨h2,h3⟩:=Cb (w:=w) (hρ x (by simp[Op.operands]) X v h1 hv) hr;exact bD.ofK E ⟨r,hk2,r,h2,h3⟩ rfl
theorem MJ(hc:compOp P ⟨dst,.makeInterface t x,ty,pos,af,gd⟩=some c)(hρ:Hρ m T ρ (.makeInterface t x))(E:dO P K B m s w)(hk:V6 P T s c k=true):bD P K B m w k ((execOp ρ ⟨dst,.makeInterface t x,ty,pos,af,gd⟩).run P w):=by
 simp only[compOp] at hc;obtain⟨X,h1,rfl⟩:=Option.map_eq_some_iff.1 hc;obtain⟨v,hv,hk1⟩:=Q4 (k:=fun x=>oK s k (ev1 P (Instr.makeInterface t) x)) hk;obtain⟨r,hr,hk2⟩:=pW hk1;obtain⟨h2,h3⟩:=Cb (w:=w) (hρ x (by simp[Op.operands]) X v h1 hv) hr;exact bD.ofK E ⟨r,hk2,r,h2,h3⟩ rfl
theorem QK{a b:TypeId}{o:Bool}(hc:compOp P ⟨dst,.typeAssert x a b o,ty,pos,af,gd⟩=some c)(hρ:Hρ m T ρ (.typeAssert x a b o))(E:dO P K B m s w)(hk:V6 P T s c k=true):bD P K B m w k ((execOp ρ ⟨dst,.typeAssert x a b o,ty,pos,af,gd⟩).run P w):=by
 simp only[compOp] at hc;obtain⟨X,h1,rfl⟩:=Option.map_eq_some_iff.1 hc;obtain⟨v,hv,hk1⟩:=Q4 (k:=fun x=>oK s k (ev1 P (fun v=>Instr.typeAssert v a b o) x)) hk;obtain⟨r,hr,hk2⟩:=pW hk1;obtain⟨h2,h3⟩:=Cb (w:=w) (hρ x (by simp[Op.operands]) X v h1 hv) hr;exact bD.ofK E ⟨r,hk2,r,h2,h3⟩ rfl
theorem Sx{f:FuncId}{p q:Array Operand}(hc:compOp P ⟨dst,.makeFunc (.func f) p q,ty,pos,af,gd⟩=some c)(hρ:Hρ m T ρ (.makeFunc (.func f) p q))(E:dO P K B m s w)(hk:V6 P T s c k=true):bD P K B m w k ((execOp ρ ⟨dst,.makeFunc (.func f) p q,ty,pos,af,gd⟩).run P w):=by
 simp only[compOp] at hc;split at hc
 ·rename_i xs ys h1 h2
  cases hc;obtain⟨vs,hv,hk1⟩:=mP (k:=fun p=>iZ T ys (fun c=>k (.func (.func f) ⟨p⟩ ⟨c⟩) s)) hk;obtain⟨us,hu,hk2⟩:=mP hk1;have e1:=Ae h1 hv (fun x hx X v=>hρ x (by simp[Op.operands];exact .inl (by simpa using hx)) X v);have e2:=Ae h2 hu (fun x hx X v=>hρ x (by simp[Op.operands];exact .inr (by simpa using hx)) X v);refine bD.ofK E ⟨_,hk2,.func (.func f) (p.map ρ) (q.map ρ),rfl,?_⟩ rfl;rw[uI,uI];simp only[VR,AR];exact⟨_,_,rfl,⟨_,rfl,e1⟩,⟨_,rfl,e2⟩⟩
 ·cases hc
theorem QL(hc:compOp P ⟨dst,.makeSlice t x y,ty,pos,af,gd⟩=some c)(hρ:Hρ m T ρ (.makeSlice t x y))(E:dO P K B m s w)(hk:V6 P T s c k=true):bD P K B m w k ((execOp ρ ⟨dst,.makeSlice t x y,ty,pos,af,gd⟩).run P w):=by
 simp only[compOp] at hc;split at hc
 ·rename_i e X Y h1 h2 h3
  split at hc
  ·rename_i i z h4 h5
   obtain⟨h6,hc⟩:=cV hc;cases hc;obtain⟨vx,hx,hk1⟩:=Q4 (k:=fun l=>bO T Y (fun c=>C7 s e i.size i.bytes z.toList l c k)) hk;obtain⟨vy,hy,hk2⟩:=Q4 hk1;exact bD.of (QF h1 h4 h5 (by simpa using h6) E (hρ x (by simp[Op.operands]) X vx h2 hx) (hρ y (by simp[Op.operands]) Y vy h3 hy) hk2) rfl
  ·cases hc
 ·cases hc
theorem Sy{f:Nat}(hc:compOp P ⟨dst,.fieldAddr t x f,ty,pos,af,gd⟩=some c)(hρ:Hρ m T ρ (.fieldAddr t x f))(E:dO P K B m s w)(hk:V6 P T s c k=true):bD P K B m w k ((execOp ρ ⟨dst,.fieldAddr t x f,ty,pos,af,gd⟩).run P w):=by
 simp only[compOp] at hc;split at hc
 ·rename_i fs X h1 h2
  split at hc
  ·rename_i fd h3
   split at hc
   ·rename_i i h4
    cases h0:Nat.beq i.size 0 with
    |true=>rw[h0] at hc;cases hc
    |false=>
     rw[h0] at hc;cases hc;obtain⟨vx,hx,hk1⟩:=Q4 (k:=fun x=>R9 x fd.offset (vK s k)) hk;have h0':i.size≠0:=by
      intro e;rw[e] at h0;cases h0
     exact bD.ofK E (Sr (w:=w) h1 h3 h4 h0' (hρ x (by simp[Op.operands]) X vx h2 hx) hk1) rfl
   ·cases hc
  ·cases hc
 ·cases hc
theorem QM{f:Nat}(hc:compOp P ⟨dst,.field t x f,ty,pos,af,gd⟩=some c)(hρ:Hρ m T ρ (.field t x f))(E:dO P K B m s w)(hk:V6 P T s c k=true):bD P K B m w k ((execOp ρ ⟨dst,.field t x f,ty,pos,af,gd⟩).run P w):=by
 simp only[compOp] at hc;split at hc
 ·rename_i fs X h1 h2
  split at hc
  ·rename_i fd h3
   obtain⟨n,h4,rfl⟩:=Option.map_eq_some_iff.1 hc;obtain⟨vx,hx,hk1⟩:=Q4 (k:=fun x=>uD x (fun l=>Bs l fd.offset n (vK s k))) hk;exact bD.ofK E (Qy (w:=w) h1 h3 h4 (hρ x (by simp[Op.operands]) X vx h2 hx) hk1) rfl
  ·cases hc
 ·cases hc
theorem Sz(hc:compOp P ⟨dst,.indexAddr t x y,ty,pos,af,gd⟩=some c)(hρ:Hρ m T ρ (.indexAddr t x y))(E:dO P K B m s w)(hk:V6 P T s c k=true):bD P K B m w k ((execOp ρ ⟨dst,.indexAddr t x y,ty,pos,af,gd⟩).run P w):=by
 simp only[compOp] at hc;split at hc
 ·rename_i e X Y h1 h2 h3
  obtain⟨i,h4,rfl⟩:=Option.map_eq_some_iff.1 hc;obtain⟨vx,hx,hk1⟩:=Q4 (k:=fun x=>bO T Y (fun j=>Sa x j i.size (vK s k))) hk;obtain⟨vy,hy,hk2⟩:=Q4 hk1;exact bD.ofK E (Ss (w:=w) h1 h4 (hρ x (by simp[Op.operands]) X vx h2 hx) (hρ y (by simp[Op.operands]) Y vy h3 hy) hk2) rfl
 ·rename_i n e X Y h1 h2 h3
  obtain⟨i,h4,rfl⟩:=Option.map_eq_some_iff.1 hc;obtain⟨vx,hx,hk1⟩:=Q4 (k:=fun x=>bO T Y (fun j=>Eo x j n i.size (vK s k))) hk;obtain⟨vy,hy,hk2⟩:=Q4 hk1;exact bD.ofK E (Qx (w:=w) h1 h4 (hρ x (by simp[Op.operands]) X vx h2 hx) (hρ y (by simp[Op.operands]) Y vy h3 hy) hk2) rfl
 ·cases hc
theorem SA(hc:compOp P ⟨dst,.index t x y,ty,pos,af,gd⟩=some c)(hρ:Hρ m T ρ (.index t x y))(E:dO P K B m s w)(hk:V6 P T s c k=true):bD P K B m w k ((execOp ρ ⟨dst,.index t x y,ty,pos,af,gd⟩).run P w):=by
 simp only[compOp] at hc;split at hc
 ·rename_i n e X Y h1 h2 h3
  split at hc
  ·rename_i i q h4 h5
   cases hc;obtain⟨vx,hx,hk1⟩:=Q4 (k:=fun x=>bO T Y (fun j=>Sm x j n i.size q (vK s k))) hk;obtain⟨vy,hy,hk2⟩:=Q4 hk1;exact bD.ofK E (Su (w:=w) h1 h4 h5 (hρ x (by simp[Op.operands]) X vx h2 hx) (hρ y (by simp[Op.operands]) Y vy h3 hy) hk2) rfl
  ·cases hc
 ·rename_i X Y h1 h2 h3
  cases hc;obtain⟨vx,hx,hk1⟩:=Q4 (k:=fun x=>bO T Y (fun i=>oK s k (evIxs P t x i))) hk;obtain⟨vy,hy,hk2⟩:=Q4 hk1;obtain⟨r,hr,hk3⟩:=pW hk2;unfold evIxs at hr;obtain⟨hf,hr⟩:=cV hr;simp only[Bool.and_eq_true] at hf;obtain⟨h4,h5⟩:=oV hr;have ex:=VR.same vx hf.1 (hρ x (by simp[Op.operands]) X vx h2 hx);have ey:=VR.same vy hf.2 (hρ y (by simp[Op.operands]) Y vy h3 hy);refine bD.ofK E ⟨r,hk3,r,?_,VR.flat r h5⟩ (e:=Instr.index t (ρ x) (ρ y)) rfl;rw[ex,ey];exact lP h4 w
 ·cases hc
theorem QN{i:Nat}(hc:compOp P ⟨dst,.extract x i,ty,pos,af,gd⟩=some c)(hρ:Hρ m T ρ (.extract x i))(E:dO P K B m s w)(hk:V6 P T s c k=true):bD P K B m w k ((execOp ρ ⟨dst,.extract x i,ty,pos,af,gd⟩).run P w):=by
 simp only[compOp] at hc;obtain⟨X,h1,rfl⟩:=Option.map_eq_some_iff.1 hc;obtain⟨v,hv,hk1⟩:=Q4 (k:=fun x=>pR x (fun l=>B6 l i (vK s k))) hk;exact bD.ofK E (Qz (w:=w) (hρ x (by simp[Op.operands]) X v h1 hv) hk1) rfl
theorem xH{d:TypeDesc}{u:Value}{lo hi mx:Option Value}(ht:P.underlying t=some d)(hd:∀n e,d≠.array n e):(Instr.sliceAt t u lo hi mx).run P w=(Instr.slice t u lo hi mx).run P w:=by
 unfold Instr.sliceAt;cases d with
 |array n e=>exact absurd rfl (hd _ _)
 |_=>simp only[Sem.run_bind,Y5 ht,Result.andThen_ok]
theorem VO.flat_same{v u:Option Value}(h:VO m v u)(hf:flatO v=true):u=v:=by
 cases v with
 |none=>simpa only[VO] using h
 |some v=>
  simp only[VO] at h;obtain⟨u',rfl,h⟩:=h;rw[VR.same v hf h]
theorem QO{lo hi mx:Option Operand}(hc:compOp P ⟨dst,.slice t x lo hi mx,ty,pos,af,gd⟩=some c)(hρ:Hρ m T ρ (.slice t x lo hi mx))(E:dO P K B m s w)(hk:V6 P T s c k=true):bD P K B m w k ((execOp ρ ⟨dst,.slice t x lo hi mx,ty,pos,af,gd⟩).run P w):=by
 have q0:∀X v,cx x=some X->XV T X v->VR m v (ρ x):=fun X v=>hρ x (by simp[Op.operands]) X v
 have q1:∀y,lo=some y->∀X v,cx y=some X->XV T X v->VR m v (ρ y):=fun y h X v=>hρ y (by subst h;simp[Op.operands]) X v
 have q2:∀y,hi=some y->∀X v,cx y=some X->XV T X v->VR m v (ρ y):=fun y h X v=>hρ y (by subst h;simp[Op.operands]) X v
 have q3:∀y,mx=some y->∀X v,cx y=some X->XV T X v->VR m v (ρ y):=fun y h X v=>hρ y (by subst h;simp[Op.operands]) X v
 simp only[compOp] at hc;split at hc
 ·rename_i e X lo' hi' mx' h1 h2 h3 h4 h5
  split at hc
  ·rename_i i h6
   obtain⟨h7,hc⟩:=cV hc;cases hc;obtain⟨vx,hx,hk1⟩:=Q4 (k:=fun x=>eU T lo' (fun lo=>eU T hi' (fun hi=>eU T mx' (fun mx=>nO s e i.size x lo hi mx (vK s k))))) hk;obtain⟨vl,hl,hk2⟩:=gW hk1;obtain⟨vh,hh,hk3⟩:=gW hk2;obtain⟨vm,hm,hk4⟩:=gW hk3;unfold nO at hk4;obtain⟨r,hr,hk5⟩:=mY hk4;rw[eC] at hk5;have hx':vm.isNone=true∨vh.isSome=true:=by
    rcases (by simpa using h7:mx'=none∨hi'.isSome=true) with h|h
    ·subst h
     simp only[XO] at hm;subst hm;exact .inl rfl
    ·obtain⟨Y,rfl⟩:=Option.isSome_iff_exists.1 h
     simp only[XO] at hh;obtain⟨v,rfl,_⟩:=hh;exact .inr rfl
   obtain⟨r',hr',hv⟩:=QC h1 h6 hx' E (q0 X vx h2 hx) (wC h3 hl q1) (wC h4 hh q2) (wC h5 hm q3) hr;exact bD.ofK E ⟨r,hk5,r',by rw[xH h1 sM];exact hr',hv⟩ (e:=Instr.sliceAt t (ρ x) (lo.map ρ) (hi.map ρ) (mx.map ρ)) rfl
  ·cases hc
 ·rename_i X lo' hi' mx' h1 h2 h3 h4 h5
  cases hc;obtain⟨vx,hx,hk1⟩:=Q4 (k:=fun x=>eU T lo' (fun lo=>eU T hi' (fun hi=>eU T mx' (fun mx=>oK s k (evSlcn P t x lo hi mx))))) hk;obtain⟨vl,hl,hk2⟩:=gW hk1;obtain⟨vh,hh,hk3⟩:=gW hk2;obtain⟨vm,hm,hk4⟩:=gW hk3;obtain⟨r,hr,hk5⟩:=pW hk4;unfold evSlcn at hr;obtain⟨hf,hr⟩:=cV hr;simp only[Bool.and_eq_true] at hf;obtain⟨h6,h7⟩:=oV hr;have e0:=VR.same vx hf.1.1.1 (q0 X vx h2 hx);have e1:=VO.flat_same (wC h3 hl q1) hf.1.1.2;have e2:=VO.flat_same (wC h4 hh q2) hf.1.2;have e3:=VO.flat_same (wC h5 hm q3) hf.2;refine bD.ofK E ⟨r,hk5,r,?_,VR.flat r h7⟩ (e:=Instr.sliceAt t (ρ x) (lo.map ρ) (hi.map ρ) (mx.map ρ)) rfl;rw[xH h1 sM,e0,e1,e2,e3];exact lP h6 w
 ·cases hc
theorem uJ{T:BT Value}{place:Nat->Option (Nat×Nat)}{xs:List (Nat×Nat×X)}{vs:List (Nat×Nat×Value)}(hc:cparts place ps.toList=some xs)(hx:Ca T xs vs)(hρ:∀x∈(ps.toList.map (·.2)).toArray,∀X v,cx x=some X->XV T X v->VR m v (ρ x)):PR m place vs (ps.toList.map fun (p:Nat×Operand)=>(p.1,ρ p.2)):=
 Qa hc hx (fun p hp x v h=>hρ p.2 (by simp;exact⟨p.1,by simpa using hp⟩) x v h)
theorem QP{n:Nat}(hc:compOp P ⟨dst,.buildSlice t n ps,ty,pos,af,gd⟩=some c)(hρ:Hρ m T ρ (.buildSlice t n ps))(E:dO P K B m s w)(hk:V6 P T s c k=true):bD P K B m w k ((execOp ρ ⟨dst,.buildSlice t n ps,ty,pos,af,gd⟩).run P w):=by
 simp only[compOp] at hc;split at hc
 ·rename_i e h1
  split at hc
  ·rename_i i z h2 h3
   split at hc
   ·rename_i xs h4
    obtain⟨h5,hc⟩:=cV hc;cases hc;simp only[Bool.and_eq_true,Nat.ble_eq] at h5;obtain⟨⟨⟨h5,h6⟩,h7⟩,h8⟩:=h5;obtain⟨vs,hv,hk1⟩:=mZ (k:=fun ps=>C6 s e n (n*i.size) (repeatN z.toList n) ps k) hk;have:=QH h1 h2 h3 (by simpa using h6) h7 h8 E (uJ h4 hv hρ) (Ad h5 hv) hk1;refine bD.of this ?_;show _=(do pure (Next.value (<-Instr.buildSlice t n ⟨ps.toList.map fun (p:Nat×Operand)=>(p.1,ρ p.2)⟩)));rw[<-wD];rfl
   ·cases hc
  ·cases hc
 ·cases hc
theorem IB(hc:compOp P ⟨dst,.build t ps,ty,pos,af,gd⟩=some c)(hρ:Hρ m T ρ (.build t ps))(E:dO P K B m s w)(hk:V6 P T s c k=true):bD P K B m w k ((execOp ρ ⟨dst,.build t ps,ty,pos,af,gd⟩).run P w):=by
 have he:execOp ρ ⟨dst,.build t ps,ty,pos,af,gd⟩=(do pure (Next.value (<-Instr.build t ⟨ps.toList.map fun (p:Nat×Operand)=>(p.1,ρ p.2)⟩))):=by
  rw[<-wD];rfl
 have hz0:∀{z},zeroOf P t=some z->∃v,(zeroValue t).run P w = .ok v w/\v.cells=z:=by
  intro z hz;obtain⟨i,v,hi,hv,hvz,_,_⟩:=fB hz;exact⟨v,by simp[zeroValue,fO hi,hv],hvz⟩
 simp only[compOp] at hc;split at hc
 ·rename_i z fs h1 h2
  split at hc
  ·rename_i xs h4
   obtain⟨h5,hc⟩:=cV hc;cases hc;simp only[Bool.and_eq_true,List.all_eq_true] at h5;obtain⟨vs,hv,hk1⟩:=mZ (k:=fun ps=>rD z.toList ps (vK s k)) hk;refine bD.ofK E (Dd (w:=w) h1 (fun cs hf=>?_) (uJ h4 hv hρ) (Ad h5.1 hv) hk1) he;obtain⟨v,hz,hvz⟩:=hz0 h1;unfold Instr.build;rw[Sem.run_bind,hz];simp only[Result.andThen_ok];rw[Sem.run_bind,Y5 h2];simp only[Result.andThen_ok];rw[Sem.run_bind,Ew w fs h5.2];simp only[Result.andThen_ok];rw[Iy h5.2,hvz,hf];rfl
  ·cases hc
 ·rename_i z n e h1 h2
  split at hc
  ·rename_i i h3
   split at hc
   ·rename_i xs h4
    obtain⟨h5,hc⟩:=cV hc;cases hc;obtain⟨vs,hv,hk1⟩:=mZ (k:=fun ps=>rD z.toList ps (vK s k)) hk;refine bD.ofK E (Dd (w:=w) h1 (fun cs hf=>?_) (uJ h4 hv hρ) (Ad h5 hv) hk1) he;obtain⟨v,hz,hvz⟩:=hz0 h1;unfold Instr.build;rw[Sem.run_bind,hz];simp only[Result.andThen_ok];rw[Sem.run_bind,Y5 h2];simp only[Result.andThen_ok];rw[Sem.run_bind,bQ h3];simp only[Result.andThen_ok];rw[hvz,hf];rfl
   ·cases hc
  ·cases hc
 ·cases hc
end
end Go.Proofs.YtjkdkpckjgaplaaGreat.Ev
namespace Go.Proofs.YtjkdkpckjgaplaaGreat.Ev
open Go Go.RowKit
variable{t:TypeId}
theorem By{v:Value}{k:Nat->Bool}(h:Fi v k=true):∃b,v = .map (some b)/\k b=true:=by
 cases v <;> first|(simp[Fi] at h;done)|skip
 rename_i r
 cases r with
 |none=>cases h
 |some b=>exact⟨b,rfl,h⟩
theorem Bz{s:St}{b:Nat}{k:List (Int×Value)->Bool}(h:Il s b k=true):∃es,s.h.get b=some (.imap es)/\k es=true:=by
 obtain⟨o,h1,h2⟩:=oR h;cases o <;> first|exact⟨_,h1,h2⟩|cases h2
theorem HG(a b:Int):intEq a b=(b == a):=by rw[aB];exact Bool.beq_comm
theorem yK{m:Mp}{q:Int}{ik:IntKind}:∀{es:List (Int×Value)} {l:List MapEntry} (_:ER m es l) (i:Nat),
 (lN q es=none->Instr.findNow (.int ik) (.int .i64 q) l i=some none)/\(∀v,lN q es=some v->∃j u,Instr.findNow (.int ik) (.int .i64 q) l i=some (some (j,u))/\VR m v u)
 |[],l,h,i=>by
  have:l=[]:=h;subst this;exact⟨fun _=>rfl,fun v hv=>by cases hv⟩
 |e::es,l,h,i=>by
  obtain⟨f,t,rfl,h2,h3,h4⟩:=h;obtain⟨g1,g2⟩:=yK (q:=q) (ik:=ik) h4 (i+1);have hs:Instr.sameNow (.int ik) (.int .i64 q) f.key=some (intEq e.1 q):=by rw[h2,HG];simp[Instr.sameNow]
  have hf:lN q (e::es)=if intEq e.1 q=true then some e.2 else lN q es:=by
   show(@Bool.rec (fun _=>Option Value) (lN q es) (some e.2) (intEq e.1 q))=_;cases intEq e.1 q <;> rfl
  cases hb:intEq e.1 q with
  |true=>
   rw[hf,hb,if_pos rfl];rw[hb] at hs;refine⟨fun hn=>(by cases hn),fun v hv=>?_⟩;cases hv;exact⟨i,f.val,by simp[Instr.findNow,hs],h3⟩
  |false=>
   rw[hf,hb,if_neg dE];rw[hb] at hs;exact⟨fun hn=>by simp[Instr.findNow,hs,g1 hn],fun v hv=>by obtain⟨j,u,h5,h6⟩:=g2 v hv;exact⟨j,u,by simp[Instr.findNow,hs,h5],h6⟩⟩
theorem ER.snoc{m:Mp}{q:Int}{v u:Value}{c:Nat}(hv:VR m v u):∀{es:List (Int×Value)} {l:List MapEntry},ER m es l->ER m (Mw es [(q,v)]) (l++[{ key:=.int .i64 q,val:=u,born:=c }])
 |[],l,h=>by
  have:l=[]:=h;subst this;exact⟨_,[],rfl,rfl,hv,rfl⟩
 |e::es,l,h=>by
  obtain⟨f,t,rfl,h2,h3,h4⟩:=h;exact⟨f,_,rfl,h2,h3,ER.snoc hv h4⟩
theorem Ce{P:Program}{q:TypeId}{ik:IntKind}(hq:P.underlying q=some (.int ik))(b:Bool)(n:Int)(w:World):(Instr.checkKey b 10000 q (.int .i64 n)).run P w = .ok () w:=by
 have h:∀j,(Instr.checkKey b (j+1) q (.int .i64 n)).run P w = .ok () w:=fun j=>by
  unfold Instr.checkKey;simp[Y5 hq]
 exact h 9999
theorem Af{P:Program}{q:TypeId}{ik:IntKind}(hq:P.underlying q=some (.int ik)){n:Int}{l:List MapEntry}{r:Option (Nat×Value)}(h:Instr.findNow (.int ik) (.int .i64 n) l 0=some r)(w:World):(Instr.findKey q (.int .i64 n) l).run P w = .ok r w:=by
 simp[Instr.findKey,Y5 hq,h]
section
variable{P:Program}{K:Kp}{B:Nat}{m:Mp}{s:St}{w:World}{T:BT Value}{ρ:Operand->Value}{k:Value->St->Bool}{dst:Option Tmp}{ty:TypeId}{pos:String}{af:Array Edge}{gd:Option (Nat×Bool)}{c:COp}
theorem IC{r:Option Operand}(hc:compOp P ⟨dst,.makeMap t r,ty,pos,af,gd⟩=some c)(E:dO P K B m s w)(hk:V6 P T s c k=true):bD P K B m w k ((execOp ρ ⟨dst,.makeMap t r,ty,pos,af,gd⟩).run P w):=by
 cases r with
 |some r=>cases hc
 |none=>
  simp only[compOp,Option.some.injEq] at hc;subst hc;have hk1:=gM (k:=fun g=>jY s (.imap []) (k (.map (some g)))) hk;have hr:OR P (m.put s.n w.heap.size 0) s.n (.imap []) (.map #[] 0):=⟨#[],0,rfl,rfl⟩;obtain⟨s',hk2,hE,hB,hle,_⟩:=rG E 0 hr hk1;refine⟨_,s',hk2,_,_,.value (.map (some w.heap.size)),?_,trivial,hle,hE,hB,?_⟩
  ·simp[execOp,Instr.makeMap]
  ·simp only[VR];exact⟨_,_,Mp.put_same _ _ _ _,rfl⟩
theorem QR{x y z:Operand}(hc:compOp P ⟨dst,.insert t x y z,ty,pos,af,gd⟩=some c)(hρ:Hρ m T ρ (.insert t x y z))(E:dO P K B m s w)(hk:V6 P T s c k=true):bD P K B m w k ((execOp ρ ⟨dst,.insert t x y z,ty,pos,af,gd⟩).run P w):=by
 simp only[compOp] at hc;split at hc
 ·rename_i q e X Y Z h1 h2 h3 h4
  split at hc
  ·rename_i ik h5
   cases hc;have hk1:bO T X (fun m=>bO T Y (fun x=>bO T Z (fun v=>Im s m x v (k undef))))=true:=hk;obtain⟨va,ha,hk2⟩:=Q4 hk1;obtain⟨vb,hb,hk3⟩:=Q4 hk2;obtain⟨vd,hd,hk4⟩:=Q4 hk3;have ra:=hρ x (by simp[Op.operands]) X va h2 ha;have rb:=hρ y (by simp[Op.operands]) Y vb h3 hb;have rd:=hρ z (by simp[Op.operands]) Z vd h4 hd;obtain⟨b,rfl,hk5⟩:=By hk4;rcases vY hk5 with ⟨i,n,rfl,hk6⟩|hf
   rotate_left
   ·cases hf
   obtain⟨h6,hk7⟩:=Z5 hk6;have:=kC h6;subst this;obtain⟨es,h7,hk8⟩:=Bz hk7;simp only[VR] at ra rb;obtain⟨gx,gy,hm,ea⟩:=ra;obtain⟨o',ho,a,cl,rfl,her⟩:=E.obj b gx gy _ hm h7;cases hfl:lN n es with
   |some v=>rw[hfl] at hk8;cases hk8
   |none=>
    rw[hfl] at hk8;obtain⟨h',hk9,_,hg⟩:=eS hk8;have hfn:=(yK (ik:=ik) her 0).1 hfl;have hlow:B<=gx/\gx<w.heap.size:=⟨E.own hm h7 sM,(E.low b gx gy hm).2⟩;have hE:dO P K B m ⟨h',s.n⟩ { w with heap:=w.heap.setIfInBounds gx (.map (a.push { key:=.int .i64 n,val:=ρ z,born:=cl }) (cl+1)) }:=by
     refine E.put (o':=.map (a.push { key:=.int .i64 n,val:=ρ z,born:=cl }) (cl+1)) hm h7 sM hg sM (by simp[hlow.2]) (fun j hj=>by simp[Array.getElem?_setIfInBounds,Ne.symm hj]) ⟨_,_,rfl,?_⟩;rw[Array.toList_push];exact ER.snoc rd her
    refine⟨undef,_,hk9,m,_,.skip,?_,trivial,Mp.le_refl m,hE,rF rfl rfl rfl sM (fun j hj=>by simp[Array.getElem?_setIfInBounds];intro e;omega),VR.flat undef rfl⟩;simp[execOp,ea,rb,Instr.mapUpdate,Y5 h1,MapKept.run_getObj_map ho,Ce h5,Af h5 hfn,MapKept.run_setObj_map _ ho]
  ·cases hc
 ·cases hc
theorem MK{x y:Operand}{ok:Bool}(hc:compOp P ⟨dst,.lookup t x y ok,ty,pos,af,gd⟩=some c)(hρ:Hρ m T ρ (.lookup t x y ok))(E:dO P K B m s w)(hk:V6 P T s c k=true):bD P K B m w k ((execOp ρ ⟨dst,.lookup t x y ok,ty,pos,af,gd⟩).run P w):=by
 simp only[compOp] at hc;split at hc
 ·rename_i q e X Y h1 h2 h3
  split at hc
  ·rename_i ik inf h5 h6
   split at hc
   ·rename_i z hz
    obtain⟨hf,hc⟩:=cV hc;cases hc;have hk1:bO T X (fun m=>bO T Y (fun x=>Fj s z ok m x k))=true:=hk;obtain⟨va,ha,hk2⟩:=Q4 hk1;obtain⟨vb,hb,hk3⟩:=Q4 hk2;have ra:=hρ x (by simp[Op.operands]) X va h2 ha;have rb:=hρ y (by simp[Op.operands]) Y vb h3 hb;obtain⟨b,rfl,hk5⟩:=By hk3;rcases vY hk5 with ⟨i,n,rfl,hk6⟩|hf
    rotate_left
    ·cases hf
    obtain⟨h6',hk7⟩:=Z5 hk6;have:=kC h6';subst this;obtain⟨es,h7,hk8⟩:=Bz hk7;simp only[VR] at ra rb;obtain⟨gx,gy,hm,ea⟩:=ra;obtain⟨o',ho,a,cl,rfl,her⟩:=E.obj b gx gy _ hm h7;cases hfl:lN n es with
    |none=>
     rw[hfl] at hk8;have hfn:=(yK (ik:=ik) her 0).1 hfl;refine bD.keep E hk8 (u:=xA ok z false) ?_ ?_
     ·cases ok
      ·exact VR.flat z hf
      ·show VR m (.tuple #[z,.bool false]) (.tuple #[z,.bool false])
       exact VR.flat _ (by simp[flat,flatA,flatL,hf])
     ·cases ok <;> simp[execOp,ea,rb,Instr.lookup,Y5 h1,MapKept.run_getObj_map ho,Ce h5,Af h5 hfn,gD h6 hz,xA]
    |some v=>
     rw[hfl] at hk8;obtain⟨j,u,hfn,hvu⟩:=(yK (ik:=ik) her 0).2 v hfl;refine bD.keep E hk8 (u:=xA ok u true) ?_ ?_
     ·cases ok
      ·exact hvu
      ·show VR m (.tuple #[v,.bool true]) (.tuple #[u,.bool true])
       simp only[VR,AR];exact⟨_,rfl,_,rfl,u,[.bool true],rfl,hvu,.bool true,[],rfl,by simp only[VR],rfl⟩
     ·cases ok <;> simp[execOp,ea,rb,Instr.lookup,Y5 h1,MapKept.run_getObj_map ho,Ce h5,Af h5 hfn,xA]
   ·cases hc
  ·cases hc
 ·cases hc
end
end Go.Proofs.YtjkdkpckjgaplaaGreat.Ev
namespace Go.Proofs.YtjkdkpckjgaplaaGreat.Ev
open Go Go.RowKit
variable{ts:Array TypeId}{b:Builtin}{args:Array Operand}
section
variable{P:Program}{K:Kp}{B:Nat}{m:Mp}{s:St}{w:World}{T:BT Value}{ρ:Operand->Value}{k:Value->St->Bool}{dst:Option Tmp}{ty:TypeId}{pos:String}{af:Array Edge}{gd:Option (Nat×Bool)}{c:COp}
theorem Fw(b:Builtin)(args:Array Operand)(ts:Array TypeId):∃cs,execOp ρ ⟨dst,.call ⟨.builtin b,args,ts⟩,ty,pos,af,gd⟩=builtin b ts ty cs ⟨args.toList.map ρ⟩:=
 ⟨args.map fun | .const _=>true|_=>false,by rw[<-uI];rfl⟩
theorem HH{d:TypeDesc}{j:Nat}(h:(ts[j]?).bind P.underlying=some d):∃t0,ts[j]? = some t0/\P.underlying t0=some d:=by
 cases h0:ts[j]? with
 |none=>rw[h0] at h;cases h
 |some t0=>rw[h0] at h;exact⟨t0,rfl,h⟩
theorem Cf(E:dO P K B m s w){xs:List X}(hb:∀cs l,builtin b ts ty cs l=builtin b ts ty #[] l)(hxs:cxs args.toList=some xs)(hρ:Hρ m T ρ (.call ⟨.builtin b,args,ts⟩))
 (hk:iZ T xs (fun l=>oK s k (evBi P b ts ty l))=true):bD P K B m w k ((execOp ρ ⟨dst,.call ⟨.builtin b,args,ts⟩,ty,pos,af,gd⟩).run P w):=by
 obtain⟨vs,hv,hk1⟩:=mP hk;obtain⟨r,hr,hk2⟩:=pW hk1;unfold evBi at hr;obtain⟨hf,hr⟩:=cV hr;obtain⟨h1,h2⟩:=oV hr;have e1:=LR.same vs hf (Ae hxs hv (fun x hx X v=>hρ x (by simp only[Op.operands,Call.operands];simpa using hx) X v));obtain⟨cs,e2⟩:=Fw (ρ:=ρ) (dst:=dst) (ty:=ty) (pos:=pos) (af:=af) (gd:=gd) b args ts;have h3:pureVal P (builtin b ts ty #[] ⟨vs⟩)=some (.value r):=by
  cases hp:pureVal P (builtin b ts ty #[] ⟨vs⟩) with
  |none=>rw[hp] at h1;cases h1
  |some n=>
   rw[hp] at h1;cases n with
   |value v=>simp only[nextV,Option.some.injEq] at h1;rw[h1]
   |_=>cases h1
 refine bD.keep E hk2 (VR.flat r h2) ?_;rw[e2,e1,hb];exact lP h3 w
theorem bD.bi{e:Sem Value}(h:∃v s',k v s'=true/\∃m' w' u,e.run P w = .ok u w'/\m.le m'/\dO P K B m' s' w'/\Below B w w'/\VR m' v u)
 (he:∀cs,builtin b ts ty cs ⟨args.toList.map ρ⟩=(do pure (.value (<-e)))):bD P K B m w k ((execOp ρ ⟨dst,.call ⟨.builtin b,args,ts⟩,ty,pos,af,gd⟩).run P w):=by
 obtain⟨cs,e2⟩:=Fw (ρ:=ρ) (dst:=dst) (ty:=ty) (pos:=pos) (af:=af) (gd:=gd) b args ts;exact bD.of h (by rw[e2,he])
theorem SB(hc:compOp P ⟨dst,.call ⟨.builtin b,args,ts⟩,ty,pos,af,gd⟩=some c)(hρ:Hρ m T ρ (.call ⟨.builtin b,args,ts⟩))(E:dO P K B m s w)(hk:V6 P T s c k=true) :
 bD P K B m w k ((execOp ρ ⟨dst,.call ⟨.builtin b,args,ts⟩,ty,pos,af,gd⟩).run P w):=by
 have ho:∀x∈args.toList,∀X v,cx x=some X->XV T X v->VR m v (ρ x):=fun x hx X v=>hρ x (by simp only[Op.operands,Call.operands];simpa using hx) X v
 simp only[compOp] at hc;split at hc
 ·-- len
  rename_i x hl
  split at hc
  ·rename_i e h1
   obtain⟨X,h2,rfl⟩:=Option.map_eq_some_iff.1 hc;obtain⟨t0,h3,h4⟩:=HH h1;obtain⟨v,hv,hk1⟩:=Q4 (k:=fun x=>fX x (fun n _=>k (.int .i64 (.ofNat n)) s) (fun _ _ n _=>k (.int .i64 (.ofNat n)) s)) hk;obtain⟨r,hk2,hr,hv2⟩:=QD (w:=w) (ty:=ty) h3 h4 (ho x (by rw[hl];simp) X v h2 hv) hk1;exact bD.bi (e:=Builtin.len_ ts ty #[ρ x]) ⟨r,s,hk2,m,w,r,hr,Mp.le_refl m,E,Below.refl B w,hv2⟩ (fun cs=>by rw[hl];rfl)
  ·rename_i h1
   obtain⟨X,h2,rfl⟩:=Option.map_eq_some_iff.1 hc;exact Cf E (fun cs l=>rfl) (xs:=[X]) (by rw[hl];simp[cxs,h2]) hρ hk
  ·cases hc
 ·-- cap
  rename_i x hl
  split at hc
  ·rename_i e h1
   obtain⟨X,h2,rfl⟩:=Option.map_eq_some_iff.1 hc;obtain⟨t0,h3,h4⟩:=HH h1;obtain⟨v,hv,hk1⟩:=Q4 (k:=fun x=>oK s k (evCap x)) hk;obtain⟨r,hr,hk2⟩:=pW hk1;obtain⟨hr2,hv2⟩:=QE (w:=w) (ty:=ty) h3 h4 (ho x (by rw[hl];simp) X v h2 hv) hr;exact bD.bi (e:=Builtin.cap_ ts ty #[ρ x]) ⟨r,s,hk2,m,w,r,hr2,Mp.le_refl m,E,Below.refl B w,hv2⟩ (fun cs=>by rw[hl];rfl)
  ·cases hc
 ·-- append
  rename_i x y hl
  split at hc
  ·rename_i e d X Y h1 h2 h3 h4
   split at hc
   ·rename_i i z h5 h6
    obtain⟨h7,hc⟩:=cV hc;simp only[Bool.and_eq_true,Bool.not_eq_true'] at h7;obtain⟨t0,g1,g2⟩:=HH h1;obtain⟨t1,g3,g4⟩:=HH h2;have hz:z.size=i.size:=by simpa using h7.1
    have h0:i.size≠0:=by
     intro e;have:=h7.2;rw[e] at this;cases this
    have go:∀ints,((ints=true/\∃q,d = .int q)∨(ints=false/\∃q,d = .slice q))->V6 P T s (.app e i.size i.bytes z.toList ints X Y) k=true->bD P K B m w k ((execOp ρ ⟨dst,.call ⟨.builtin .append,args,ts⟩,ty,pos,af,gd⟩).run P w):=by
     intro ints hd hk;obtain⟨v,hv,hk1⟩:=Q4 (k:=fun x=>bO T Y (fun y=>kX s e i.size i.bytes z.toList ints x y k)) hk;obtain⟨u,hu,hk2⟩:=Q4 hk1;exact bD.bi (e:=Builtin.append_ ts ty #[ρ x,ρ y]) (QG g1 g2 g3 g4 hd h5 h6 hz h0 E (ho x (by rw[hl];simp) X v h3 hv) (ho y (by rw[hl];simp) Y u h4 hu) hk2) (fun cs=>by rw[hl];rfl)
    split at hc
    ·cases hc;exact go true (.inl ⟨rfl,_,rfl⟩) hk
    ·cases hc;exact go false (.inr ⟨rfl,_,rfl⟩) hk
    ·cases hc
   ·cases hc
  ·cases hc
 ·-- copy
  rename_i x y hl
  split at hc
  ·rename_i e X Y h1 h3 h4
   obtain⟨i,h5,rfl⟩:=Option.map_eq_some_iff.1 hc;obtain⟨t0,g1,g2⟩:=HH h1;obtain⟨v,hv,hk1⟩:=Q4 (k:=fun x=>bO T Y (fun y=>Fq s i.size x y k)) hk;obtain⟨u,hu,hk2⟩:=Q4 hk1;obtain⟨r,s',hk3,w',hr,hE,hB,hv2⟩:=MC (ty:=ty) g1 g2 h5 E (ho x (by rw[hl];simp) X v h3 hv) (ho y (by rw[hl];simp) Y u h4 hu) hk2;exact bD.bi (e:=Builtin.copy_ ts ty #[ρ x,ρ y]) ⟨r,s',hk3,m,w',r,hr,Mp.le_refl m,hE,hB,hv2⟩ (fun cs=>by rw[hl];rfl)
  ·cases hc
 ·-- clear
  rename_i x hl
  split at hc
  ·rename_i e X h1 h3
   split at hc
   ·rename_i i z h5 h6
    obtain⟨h7,hc⟩:=cV hc;cases hc;obtain⟨t0,g1,g2⟩:=HH h1;obtain⟨v,hv,hk1⟩:=Q4 (k:=fun x=>B7 s i.size z.toList x k) hk;obtain⟨s',hk3,w',hr,hE,hB⟩:=It (ty:=ty) g1 g2 h5 h6 (by simpa using h7) E (ho x (by rw[hl];simp) X v h3 hv) hk1;exact bD.bi (e:=Builtin.clear_ ts ty #[ρ x]) ⟨_,s',hk3,m,w',_,hr,Mp.le_refl m,hE,hB,VR.flat _ rfl⟩ (fun cs=>by rw[hl];rfl)
   ·cases hc
  ·cases hc
 ·rename_i hn1
  obtain⟨xs,h2,rfl⟩:=Option.map_eq_some_iff.1 hc;exact Cf E (fun cs l=>rfl) h2 hρ hk
 ·obtain⟨xs,h2,rfl⟩:=Option.map_eq_some_iff.1 hc
  exact Cf E (fun cs l=>rfl) h2 hρ hk
 ·cases hc
def Ex:Op->Bool
 | .call { callee:=.value _,.. }=>false
 |_=>true
theorem QS{op:Op}(hn:Ex op=true)(hc:compOp P ⟨dst,op,ty,pos,af,gd⟩=some c)(hρ:Hρ m T ρ op)(E:dO P K B m s w)(hk:V6 P T s c k=true):bD P K B m w k ((execOp ρ ⟨dst,op,ty,pos,af,gd⟩).run P w):=by
 cases op with
 |move x=>exact Fv (.inl rfl) hc hρ E hk
 |assign x=>exact Fv (.inr rfl) hc hρ E hk
 |pick=>exact MF hc hρ E hk
 |alloc=>exact Iz hc E hk
 |box=>exact QI hc hρ E hk
 |build=>exact IB hc hρ E hk
 |buildSlice=>exact QP hc hρ E hk
 |load=>exact MG hc hρ E hk
 |store=>exact IA hc hρ E hk
 |nilCheck=>exact MH hc hρ E hk
 |binOp=>exact QJ hc hρ E hk
 |unOp=>exact Sw hc hρ E hk
 |convert=>exact MI hc hρ E hk
 |makeInterface=>exact MJ hc hρ E hk
 |makeFunc fn=>cases fn with
  |func f=>exact Sx hc hρ E hk
  |_=>cases hc
 |makeSlice=>exact QL hc hρ E hk
 |slice=>exact QO hc hρ E hk
 |fieldAddr=>exact Sy hc hρ E hk
 |field=>exact QM hc hρ E hk
 |indexAddr=>exact Sz hc hρ E hk
 |index=>exact SA hc hρ E hk
 |typeAssert=>exact QK hc hρ E hk
 |extract=>exact QN hc hρ E hk
 |makeMap=>exact IC hc E hk
 |insert=>exact QR hc hρ E hk
 |lookup=>exact MK hc hρ E hk
 |call cl=>
  obtain⟨ce,args,ts⟩:=cl;cases ce with
  |builtin b=>exact SB hc hρ E hk
  |value f=>cases hn
  |invoke=>cases hc
 |_=>cases hc
end
end Go.Proofs.YtjkdkpckjgaplaaGreat.Ev
namespace Go.Proofs.YtjkdkpckjgaplaaGreat.Ev
open Go Go.RowKit
variable{r:Option Nat}{n:Nat}{m:Mp}{T:BT Value}{a:Act}{O:OK}
def Fr(r:Option Nat):Fence:={ Fence.wide with round:=r }
theorem Ag{P:Program}{f:FuncId}{args:Array Value}{w:World}{R:Ending->World->Prop}(h:CallsIn Fence.wide 0 P f args w R):CallsIn (Fr r) n P f args w R:=
 ⟨trivial,fun cs _=>h.2 cs (room_wide _)⟩
def De(P:Program)(K:Kp)(B:Nat)(m:Mp)(w:World)(k:Value->St->Bool):Ending->World->Prop
 | .returned u,w'=>∃v s' m',k v s'=true/\m.le m'/\dO P K B m' s' w'/\Below B w w'/\VR m' v u
 |_,_=>False
structure kN(P:Program)(K:Kp)(B:Nat)(O:OK):Prop where
 call:∀{f:FuncId} {vs:List Value} {s:St} {k:Value->St->Bool},O.call f vs s k=true->∀{m:Mp} {w:World} {us:List Value},dO P K B m s w->LR m vs us ->
  (∀w,(callFunc f ⟨us⟩).run P w = .ok (.enter f ⟨us⟩) w)/\CallsIn Fence.wide 0 P f ⟨us⟩ w (De P K B m w k)
 round:∀{l:Nat} {vs:List Value} {s:St} {k:Value->St->Bool},Ep O l vs s k=true->∀{m:Mp} {w:World} {us:List Value} {x y:Nat},m l=some (x,y)->dO P K B m s w->LR m vs us ->
  ∃f tmps assign body,(Instr.yield x ⟨us⟩).run P w = .ok (.round x f tmps assign body) w/\∀r n,RoundIn (Fr r) n P x f tmps assign body w (De P K B m w k)
theorem Cg(hT:TR m T a.tmps){x:Operand}{X:X}{v:Value}(hx:cx x=some X)(hv:XV T X v):VR m v (a.eval x):=by
 cases x with
 |tmp t=>
  simp only[cx,Option.some.injEq] at hx;subst hx;obtain⟨v',h1,h2⟩:=hT t v hv;have:a.eval (.tmp t)=v':=by simp[Act.eval,Array.getD_eq_getD_getElem?,h1]
  rw[this];exact h2
 |const u=>
  simp only[cx] at hx;obtain⟨hf,hx⟩:=cV hx;cases hx;simp only[XV] at hv;subst hv;exact VR.flat v hf
 |func f=>
  simp only[cx,Option.some.injEq] at hx;subst hx;simp only[XV] at hv;subst hv;exact VR.flat _ (by simp[flat,flatA,flatL])
 |global g=>cases hx
theorem ML(hT:TR m T a.tmps)(op:Op):Hρ m T a.eval op:=fun _ _ _ _ hx hv=>Cg hT hx hv
theorem ID(hT:TR m T a.tmps){d:Option Nat}{v u:Value}{k:BT Value->Bool}(hv:VR m v u)(hk:kA T d v k=true):∃T',k T'=true/\TR m T' (a.put d u).tmps/\(a.put d u).defers=a.defers:=by
 cases d with
 |none=>exact⟨T,hk,hT,rfl⟩
 |some d=>
  obtain⟨T',hk,hd,hg⟩:=oQ (k:=k) hk;refine⟨T',hk,fun t x ht=>?_,rfl⟩;obtain⟨x0,hx0⟩:=Option.isSome_iff_exists.1 hd;obtain⟨x1,h1,_⟩:=hT d x0 hx0;have hlt:d<a.tmps.size:=(Array.getElem?_eq_some_iff.1 h1).1;rw[hg] at ht;by_cases h:t=d
  ·subst h
   rw[if_pos rfl] at ht;cases ht;exact⟨u,by simp[Act.put,hlt],hv⟩
  ·rw[if_neg h] at ht
   obtain⟨x',h2,h3⟩:=hT t x ht;exact⟨x',by simp only[Act.put];rw[Array.getElem?_setIfInBounds_ne oM];exact h2,h3⟩
theorem Ey{P:Program}{s:St}{c:COp}{k:Value->St->Bool}(h:iI P O T s c k=true):V6 P T s c k=true∨∃f l,c = .call f l/\bO T f (fun f=>iZ T l (fun l=>rE O s l f k))=true:=by
 cases c <;> first|exact .inl h|exact .inr ⟨_,_,rfl,h⟩
theorem sG(a b:List Value):Be a b=a++b:=by
 induction a with
 |nil=>rfl
 |cons v l ih=>show v::Be l b=_;rw[ih];rfl
section
variable{P:Program}{K:Kp}{B:Nat}{m:Mp}{s:St}{w:World}{T:BT Value}{dst:Option Tmp}{ty:TypeId}{pos:String}{af:Array Edge}{gd:Option (Nat×Bool)}{c:COp}
theorem MM{op:Op}{X:Ev.X}{l:List Ev.X}(hn:Ex op=true)(hc:compOp P ⟨dst,op,ty,pos,af,gd⟩=some (.call X l)):False:=by
 have hm:∀{α:Type} {x:Option α} {f:α->COp},(∀a,f a≠.call X l)->x.map f=some (.call X l)->False:=by
  intro α x f hf h;obtain⟨a,_,e⟩:=Option.map_eq_some_iff.1 h;exact hf a e
 have hs:∀{b:Bool} {c:COp},c≠.call X l->sel b (some c) none=some (.call X l)->False:=by
  intro b c hc h;obtain⟨_,h⟩:=cV h;exact hc (Option.some.inj h)
 have hs2:∀{b:Bool} {c:COp},c≠.call X l->sel b none (some c)=some (.call X l)->False:=by
  intro b c hc h;cases b with
  |true=>cases h
  |false=>exact hc (Option.some.inj h)
 cases op with
 |call cl=>
  obtain⟨ce,args,ts⟩:=cl;cases ce with
  |value f=>cases hn
  |invoke=>cases hc
  |builtin b=>
   simp only[compOp] at hc
   repeat' split at hc
   all_goals first|exact hm sM hc|exact hs sM hc|(cases hc;done)|(obtain⟨_,hc⟩:=cV hc;cases hc;done)
 |makeFunc fn=>cases fn with
  |func f=>
   simp only[compOp] at hc
   repeat' split at hc
   all_goals cases hc
  |_=>cases hc
 |makeMap t r=>cases r <;> cases hc
 |_=>
  simp only[compOp] at hc
  repeat' split at hc
  all_goals first|exact hm sM hc|exact hs sM hc|exact hs2 sM hc|(cases hc;done)
def Df(P:Program)(K:Kp)(B:Nat)(m:Mp)(a:Act)(w:World)(k:BT Value->St->Bool)(a':Act)(w':World):Prop:=
 ∃T' s' m',k T' s'=true/\m.le m'/\dO P K B m' s' w'/\TR m' T' a'.tmps/\a'.defers=a.defers/\Below B w w'
def IE(P:Program)(K:Kp)(B:Nat)(m:Mp)(a:Act)(w:World)(d:Option Tmp)(k:Value->St->Bool)(a':Act)(w':World):Prop:=
 ∃v u s' m',k v s'=true/\m.le m'/\dO P K B m' s' w'/\Below B w w'/\VR m' v u/\a'=a.put d u
theorem Ah(hO:kN P K B O){o:Oper}{k:Value->St->Bool}{Q:Exit->Act->World->Prop}(hc:compOp P o=some c)(E:dO P K B m s w)(hρ:Hρ m T a.eval o.op)
 (hk:iI P O T s c k=true):o.wpIn (Fr r) n P a w (IE P K B m a w o.dst k) Q:=by
 obtain⟨dst,op,ty,pos,af,gd⟩:=o;have hdef:∀cl,op≠.defer cl:=by
  rintro cl rfl;cases hc
 refine⟨fun _ _=>trivial,?_⟩;have hsem:Oper.semAt (Fr r).round a.eval ⟨dst,op,ty,pos,af,gd⟩=execOp a.eval ⟨dst,op,ty,pos,af,gd⟩:=Oper.semAt_eq _ _ _ hdef;rw[hsem];have fin:∀{v u:Value} {s':St} {m':Mp} {w':World},k v s'=true->m.le m'->dO P K B m' s' w'->Below B w w'->VR m' v u->IE P K B m a w dst k (a.put dst u) w':=by
  intro v u s' m' w' hk hle hE hB hv;exact⟨v,u,s',m',hk,hle,hE,hB,hv,rfl⟩
 by_cases hn:Ex op=true
 ·rcases Ey hk with hk|⟨X,l,rfl,_⟩
  ·obtain⟨v,s',hk,m',w',nx,hr,hfi,hle,hE,hB,hv⟩:=QS hn hc hρ E hk
   rw[hr];cases nx with
   |value u=>exact fin hk hle hE hB hv
   |skip=>exact fin hk hle hE hB hv
   |_=>exact hfi.elim
  ·exact(MM hn hc).elim
 ·have:∃f args ts,op = .call ⟨.value f,args,ts⟩:=by
   cases op with
   |call cl=>
    obtain⟨ce,args,ts⟩:=cl;cases ce with
    |value f=>exact⟨f,args,ts,rfl⟩
    |_=>exact absurd rfl hn
   |_=>exact absurd rfl hn
  obtain⟨f,args,ts,rfl⟩:=this;simp only[compOp] at hc;split at hc
  ·rename_i X l h1 h2
   cases hc;have hk0:bO T X (fun f=>iZ T l (fun l=>rE O s l f k))=true:=hk;obtain⟨fv,hf,hk1⟩:=Q4 hk0;obtain⟨vs,hv,hk2⟩:=mP hk1;have ef:=hρ f (by simp[Op.operands,Call.operands]) X fv h1 hf;have ea:=Ae h2 hv (ρ:=a.eval) (fun x hx X v=>hρ x (by simp only[Op.operands,Call.operands];exact Array.mem_append.2 (.inr (by simpa using hx))) X v);have ex:execOp a.eval ⟨dst,.call ⟨.value f,args,ts⟩,ty,pos,af,gd⟩=(do let d <-Deferred.ofValue (a.eval f) ⟨args.toList.map a.eval⟩;invoke d.target d.args):=by
    rw[<-uI];rfl
   have ends:∀{e:Ending} {w':World},De P K B m w k e w'->(match (generalizing:=false) e,w' with
    | .returned v,w''=>IE P K B m a w dst k (a.put dst v) w''
    | .panicked chain,w''=>Q (.panic chain) a w''
    | .outgrown,_=>LetsOut Q):=by
    intro e w' h;cases e with
    |returned u=>
     obtain⟨v,s',m',hk,hle,hE,hB,hv⟩:=h;exact fin hk hle hE hB hv
    |panicked=>exact h.elim
    |outgrown=>exact h.elim
   rcases zW hk2 with ⟨g,p,cc,rfl,hk3⟩|⟨q,p,cc,rfl,hk3⟩
   ·simp only[VR,AR] at ef
    obtain⟨p',c',hfe,⟨pl,rfl,hp⟩,⟨cl,rfl,hcl⟩⟩:=ef;rw[sG,sG] at hk3;obtain⟨hcf,hcall⟩:=hO.call hk3 E (hp.append (ea.append hcl));rw[ex,hfe];have:(do let d <-Deferred.ofValue (.func (.func g) ⟨pl⟩ ⟨cl⟩) ⟨args.toList.map a.eval⟩;invoke d.target d.args:Sem Next).run P w = .ok (.enter g ⟨pl++(args.toList.map a.eval++cl)⟩) w:=by
     have:=hcf w;show(callFunc g ((⟨pl⟩++⟨args.toList.map a.eval⟩:Array Value)++⟨cl⟩)).run P w=_;have e:((⟨pl⟩++⟨args.toList.map a.eval⟩:Array Value)++⟨cl⟩)=⟨pl++(args.toList.map a.eval++cl)⟩:=by
      apply Array.ext'
      simp
     rw[e];exact this
    rw[this,Oper.uponIn_enter];refine⟨fun h=>(by cases h),CallsIn.mono (Ag hcall) (fun e w' h=>?_)⟩;have:=ends h;cases e <;> exact this
   ·simp only[VR,AR] at ef
    obtain⟨x,y,p',c',hm,hfe,⟨pl,rfl,hp⟩,⟨cl,rfl,hcl⟩⟩:=ef;rw[sG] at hk3;obtain⟨fn,tmps,assign,body,hy,hround⟩:=hO.round hk3 hm E (hp.append ea);rw[ex,hfe];have:(do let d <-Deferred.ofValue (.func (.yield x) ⟨pl⟩ ⟨cl⟩) ⟨args.toList.map a.eval⟩;invoke d.target d.args:Sem Next).run P w = .ok (.round x fn tmps assign body) w:=by
     show(Instr.yield x (⟨pl⟩++⟨args.toList.map a.eval⟩:Array Value)).run P w=_;have e:(⟨pl⟩++⟨args.toList.map a.eval⟩:Array Value)=⟨pl++args.toList.map a.eval⟩:=by
      apply Array.ext'
      simp
     rw[e];exact hy
    rw[this,Oper.uponIn_round];refine⟨fun h=>(by cases h),RoundIn.mono (hround r (n-1)) (fun e w' h=>?_)⟩;have:=ends h;cases e <;> exact this
  ·cases hc
theorem MN(hO:kN P K B O){o:Oper}{k:BT Value->St->Bool}{Q:Exit->Act->World->Prop}(hc:compOp P o=some c)(E:dO P K B m s w)(hT:TR m T a.tmps)
 (hk:iI P O T s c (fun v s'=>kA T o.dst v (fun T'=>k T' s'))=true):o.wpIn (Fr r) n P a w (Df P K B m a w k) Q:=by
 refine Oper.wpIn_mono ?_ (Ah hO hc E (ML hT o.op) hk);rintro a' w' ⟨v,u,s',m',hk,hle,hE,hB,hv,rfl⟩;obtain⟨T',h1,h2,h3⟩:=ID (hT.mono hle) hv hk;exact⟨T',s',m',h1,hle,hE,h2,h3,hB⟩
end
end Go.Proofs.YtjkdkpckjgaplaaGreat.Ev
namespace Go.Proofs.YtjkdkpckjgaplaaGreat.Ev
open Go Go.RowKit
variable{m m':Mp}{ops:Array Oper}{i n:Nat}{a:Act}{F:Fence}{c:Code}{Q:Exit->Act->World->Prop}
theorem Mp.le.trans{a b c:Mp}(h:a.le b)(k:b.le c):a.le c:=Mp.le_trans h k
theorem VR.bool_back{v:Value}{b:Bool}(h:VR m v (.bool b)):v = .bool b:=by
 cases v with
 |func f p c=>cases f <;> simp[VR] at h
 |pointer a=>rcases a with _|⟨_,_,_|_⟩ <;> simp[VR] at h
 |slice a n c=>rcases a with _|⟨_,_,_|_⟩ <;> simp[VR] at h
 |map a=>cases a <;> simp[VR] at h
 |chan a=>cases a <;> simp[VR] at h
 |_=>simp_all [VR]
section
variable{P:Program}{K:Kp}{B:Nat}{m:Mp}{s:St}{w:World}{T:BT Value}
theorem Ez{g:Option (Nat×Bool)}{y n:Bool}{o:Oper}{i:Nat}(hT:TR m T a.tmps)(hg:(o.guard=none/\g=none)∨∃j w t,o.guard=some (j,w)/\(ops[j]?).bind (·.dst)=some t/\g=some (t,w))(hk:kI T g y n=true) :
 (Region.wanted o (yielded ops a.tmps)=true/\y=true)∨(Region.wanted o (yielded ops a.tmps)=false/\n=true):=by
 rcases hg with ⟨h1,rfl⟩|⟨j,w,t,h1,h2,rfl⟩
 ·exact .inl ⟨by simp[Region.wanted,h1],hk⟩
 ·have hk0:lM T t (fun v=>pQ v (fun b=>@Bool.rec (fun _=>Bool) (@Bool.rec (fun _=>Bool) y n w) (@Bool.rec (fun _=>Bool) n y w) b) n)=true:=hk
  obtain⟨v,hv,hk1⟩:=kJ hk0;obtain⟨u,hu,hvu⟩:=hT t v hv;have hy:yielded ops a.tmps j=match u with | .bool b=>some b|_=>none:=by
   unfold yielded;rw[h2];simp only[Option.bind_some,hu];cases u <;> rfl
  rcases xD hk1 with ⟨b,rfl,hk2⟩|⟨hb,hk2⟩
  ·have:u = .bool b:=by simpa only[VR] using hvu
   subst this;simp only at hy;cases b <;> cases w <;> first|exact .inl ⟨by simp[Region.wanted,h1,hy],hk2⟩|exact .inr ⟨by simp[Region.wanted,h1,hy],hk2⟩
  ·refine .inr ⟨?_,hk2⟩
   have:yielded ops a.tmps j=none:=by
    rw[hy];cases u with
    |bool b=>exact absurd hvu.bool_back (hb b)
    |_=>rfl
   simp[Region.wanted,h1,this]
theorem pX{x:Item}(h:compItem P ops i=some x) :
 ∃o,ops[i]? = some o/\x.d=o.dst/\x.op=orBad (compOp P o)/\((o.guard=none/\x.g=none)∨∃j w t,o.guard=some (j,w)/\(ops[j]?).bind (·.dst)=some t/\x.g=some (t,w)):=by
 unfold compItem at h;split at h
 ·rename_i o ho
  split at h
  ·rename_i hg
   cases h;exact⟨o,ho,rfl,rfl,.inl ⟨hg,rfl⟩⟩
  ·rename_i j w hg
   split at h
   ·rename_i t ht
    cases h;exact⟨o,ho,rfl,rfl,.inr ⟨j,w,t,hg,ht,rfl⟩⟩
   ·cases h
 ·cases h
theorem Ch{l:List Nat}{items:List Item}(h:itemsOf P ops ((i::l).map (·,[]))=some items):∃x xs,items=x::xs/\compItem P ops i=some x/\itemsOf P ops (l.map (·,[]))=some xs:=by
 simp only[List.map_cons,itemsOf,agains] at h;split at h
 ·rename_i x y xs h1 h2 h3
  cases h;cases h2;exact⟨x,xs,rfl,h1,h3⟩
 ·cases h
theorem Dg{O:OK}(hO:kN P K B O){r:Option Nat}{n:Nat}{ops:Array Oper}{Q:Exit->Act->World->Prop}{k:BT Value->St->Bool}:∀(l:List Nat) {items:List Item} {T:BT Value} {s:St} {m:Mp} {w:World} {a:Act},itemsOf P ops (l.map (·,[]))=some items->dO P K B m s w->TR m T a.tmps ->
 fH P O items T s k=true->(∀a' w',Df P K B m a w k a' w'->Q .normal a' w')->wpOpsIn (Fr r) n P ops Q l a w
 |[],items,T,s,m,w,a,hi,E,hT,hk,hQ=>by
  cases hi;exact hQ a w ⟨T,s,m,hk,Mp.le_refl m,E,hT,rfl,Below.refl B w⟩
 |i::l,items,T,s,m,w,a,hi,E,hT,hk,hQ=>by
  obtain⟨⟨g,d,op⟩,xs,rfl,hx,hxs⟩:=Ch hi;obtain⟨o,ho,hd,hop,hg⟩:=pX hx;simp only at hd hop hg;subst hd hop;have rec_:∀a' w',Df P K B m a w (fun T s=>fH P O xs T s k) a' w'->wpOpsIn (Fr r) n P ops Q l a' w':=by
   rintro a' w' ⟨T',s',m',h1,h2,h3,h4,h5,h6⟩;refine Dg hO l hxs h3 h4 h1 (fun a'' w'' h=>hQ a'' w'' ?_);obtain⟨T'',s'',m'',g1,g2,g3,g4,g5,g6⟩:=h;exact⟨T'',s'',m'',g1,h2.trans g2,g3,g4,by rw[g5,h5],h6.trans g6⟩
  have hk0:kI T g (iI P O T s (orBad (compOp P o)) (fun v s=>kA T o.dst v (fun T=>fH P O xs T s k))) (kA T o.dst undef (fun T=>fH P O xs T s k))=true:=hk;simp only[wpOpsIn,ho];rcases Ez (i:=i) hT hg hk0 with ⟨h1,h2⟩|⟨h1,h2⟩
  ·rw[if_pos h1]
   cases hc:compOp P o with
   |none=>rw[hc] at h2;cases h2
   |some c=>
    rw[hc] at h2;exact Oper.wpIn_mono rec_ (MN hO (k:=fun T s=>fH P O xs T s k) hc E hT h2)
  ·rw[if_neg (by rw[h1];simp)]
   refine⟨fun _ _=>trivial,rec_ _ _ ?_⟩;obtain⟨T',h3,h4,h5⟩:=ID hT (VR.flat undef rfl) h2;exact⟨T',s,m,h3,Mp.le_refl m,E,h4,h5,Below.refl B w⟩
/-! ## Code -/
def TJ:iH->Exit
 | .normal=> .normal
 | .ret=> .ret
 | .exit id=> .exit id
 | .goto l=> .goto l
def DR(m:Mp):List Nat->List Deferred->Prop
 |[],l=>l=[]
 |q::D,l=>∃z y t,m q=some (z,y)/\l={ target:=.collected z,args:=#[] }::t/\DR m D t
theorem DR.mono(h:m.le m'):∀{D:List Nat} {l:List Deferred},DR m D l->DR m' D l
 |[],_,hl=>hl
 |q::D,l,⟨z,y,t,h1,h2,h3⟩=>⟨z,y,t,h _ _ h1,h2,DR.mono h h3⟩
def RR(m:Mp):Option Nat->Option Nat->Prop
 |none,r=>r=none
 |some l,r=>∃x y,m l=some (x,y)/\r=some x
theorem RR.mono(h:m.le m'){r r':Option Nat}(hr:RR m r r'):RR m' r r':=by
 cases r with
 |none=>exact hr
 |some l=>obtain⟨x,y,h1,h2⟩:=hr;exact⟨x,y,h _ _ h1,h2⟩
def lR(P:Program)(K:Kp)(B:Nat)(m:Mp)(w:World)(k:iH->BT Value->List Nat->St->Bool)(e:Exit)(a':Act)(w':World):Prop:=
 ∃x T' D' s' m',k x T' D' s'=true/\e=TJ x/\m.le m'/\dO P K B m' s' w'/\TR m' T' a'.tmps/\DR m' D' a'.defers/\Below B w w'
theorem lR.more{w w':World}{k:iH->BT Value->List Nat->St->Bool}{e:Exit}{a':Act}{w'':World}(hm:m.le m')(hB:Below B w w')(h:lR P K B m' w' k e a' w''):lR P K B m w k e a' w'':=by
 obtain⟨x,T',D',s',m'',h1,h2,h3,h4,h5,h6,h7⟩:=h;exact⟨x,T',D',s',m'',h1,h2,hm.trans h3,h4,h5,h6,hB.trans h7⟩
def tL(F:Fence)(n:Nat)(P:Program)(c:Code)(Q:Exit->Act->World->Prop)(a:Act)(w:World):Prop:=
 ∀(b:Frame) (k:List Go.Item) (cs:List Frame),b.roundOf=F.round->F.fn b.fn->F.room (cs.length+1+n) ->
  ∃e a' w',Q e a' w'/\ArrivesIn (Machine.fenced P F) P (lone (b.atR a (.code c::.inLoop c::k)) cs w) b k cs e a' w'
theorem Ci(h:c.wpIn F n P (Exit.then (tL F n P c Q) Q) a w):tL F n P c Q a w:=by
 intro b k cs hro hb hr;obtain⟨e,a₁,w₁,hq,harr⟩:=h b (.inLoop c::k) cs hro hb hr;cases e with
 |normal=>
  obtain⟨e₂,a₂,w₂,hq₂,harr₂⟩:=hq b k cs hro hb hr;exact⟨e₂,a₂,w₂,hq₂,.of_steps (StepsIn.trans harr (.one (fenced_calm hb hr rfl) stepR_inLoop)) harr₂⟩
 |exit id=>exact⟨_,a₁,w₁,hq,.pass (x:=.inLoop c) J (fun _ _=> .inl sM) harr⟩
 |goto l=>exact⟨_,a₁,w₁,hq,.pass (x:=.inLoop c) J (fun _ _=> .inl sM) harr⟩
 |ret=>exact⟨_,a₁,w₁,hq,.pass (x:=.inLoop c) J (fun _ _=> .inl sM) harr⟩
 |panic ch=>exact⟨_,a₁,w₁,hq,.pass (x:=.inLoop c) J (fun _ _=> .inl sM) harr⟩
 |outgrown=>exact⟨_,a₁,w₁,hq,.pass (x:=.inLoop c) J (fun _ _=> .inl sM) harr⟩
theorem Ai(h:tL F n P c Q a w):(Code.loop c).wpIn F n P Q a w:=by
 intro b k cs hro hb hr;obtain⟨e,a',w',hq,harr⟩:=h b k cs hro hb hr;exact⟨e,a',w',hq,.of_steps (.one (fenced_calm hb hr rfl) stepR_loop) harr⟩
theorem Dh{Q Q':Exit->Act->World->Prop}(h:tL F n P c Q a w)(hq:∀e a w,Q e a w->Q' e a w):tL F n P c Q' a w:=
 fun b k cs hro hb hr=>let ⟨e,a',w',q,r⟩:=h b k cs hro hb hr;⟨e,a',w',hq _ _ _ q,r⟩
end
end Go.Proofs.YtjkdkpckjgaplaaGreat.Ev
namespace Go.Proofs.YtjkdkpckjgaplaaGreat.Ev
open Go Go.RowKit
section
variable{P:Program}{K:Kp}{B:Nat}{O:OK}
structure nA(P:Program)(K:Kp)(B:Nat)(f:Option Nat->CC->BT Value->List Nat->St->(iH->BT Value->List Nat->St->Bool)->Bool):Prop where
 code:∀{r:Option Nat} {c:Code} {T:BT Value} {D:List Nat} {s:St} {k:iH->BT Value->List Nat->St->Bool},f r (comp P c) T D s k=true->∀{m:Mp} {w:World} {a:Act} {r':Option Nat},RR m r r'->dO P K B m s w->TR m T a.tmps->DR m D a.defers ->
  c.wpIn (Fr r') 0 P (lR P K B m w k) a w
 loop:∀{r:Option Nat} {c:Code} {T:BT Value} {D:List Nat} {s:St} {k:iH->BT Value->List Nat->St->Bool},f r (.loop (comp P c)) T D s k=true->∀{m:Mp} {w:World} {a:Act} {r':Option Nat},RR m r r'->dO P K B m s w->TR m T a.tmps->DR m D a.defers ->
  tL (Fr r') 0 P c (lR P K B m w k) a w
def EA(P:Program)(K:Kp)(B:Nat)(O:OK):Prop:=∀{r:Option Nat} {id:Nat} {ops:Array Oper} {items:List Item} {T:BT Value} {s:St} {k:BT Value->St->Bool},compRegion P ops true=some items->fH P O items T s k=true ->
 ∀{m:Mp} {w:World} {a:Act},dO P K B m s w->TR m T a.tmps->(Code.region id ops true).wpIn (Fr r) 0 P (fun e a' w'=>e = .normal/\Df P K B m a w k a' w') a w
def Fx(P:Program)(K:Kp)(B:Nat)(O:OK):Prop:=∀{r:Option Nat} {f:Operand} {F:X} {v:Value} {ps:Array Tmp} {x y:Code} {T:BT Value} {D:List Nat} {s:St} {k:iH->BT Value->List Nat->St->Bool},cx f=some F->XV T F v->B8 O r v ps.toList (comp P x) (comp P y) T D s k=true ->
 ∀{m:Mp} {w:World} {a:Act} {r':Option Nat},RR m r r'->dO P K B m s w->TR m T a.tmps->DR m D a.defers->(Code.rangeFunc f ps x y).wpIn (Fr r') 0 P (lR P K B m w k) a w
theorem lR.now{m:Mp}{w:World}{k:iH->BT Value->List Nat->St->Bool}{x:iH}{T:BT Value}{D:List Nat}{s:St}{a:Act}(hk:k x T D s=true)(E:dO P K B m s w)(hT:TR m T a.tmps)(hD:DR m D a.defers):lR P K B m w k (TJ x) a w:=
 ⟨x,T,D,s,m,hk,rfl,Mp.le_refl m,E,hT,hD,Below.refl B w⟩
theorem lE{x:iH}{n r:Bool}{e g:Nat->Bool}(h:jZ x n r e g=true):(x = .normal/\n=true)∨(x = .ret/\r=true)∨(∃i,x = .exit i/\e i=true)∨∃l,x = .goto l/\g l=true:=by
 cases x with
 |normal=>exact .inl ⟨rfl,h⟩
 |ret=>exact .inr (.inl ⟨rfl,h⟩)
 |exit i=>exact .inr (.inr (.inl ⟨i,rfl,h⟩))
 |goto l=>exact .inr (.inr (.inr ⟨l,rfl,h⟩))
theorem EB{F:Fence}{n:Nat}{Q:Exit->Act->World->Prop}{a:Act}{w:World}{c:Code}(h:c.wpIn F n P (Exit.noGoto Q) a w):(Code.scope c).wpIn F n P Q a w:=by
 intro b k cs hro hb hr;have h0:(lone (b.atR a (.code (.scope c)::k)) cs w).fenced P F:=fenced_calm hb hr rfl;have s0:step P (lone (b.atR a (.code (.scope c)::k)) cs w) = .next (lone (b.atR a (.code c::.inScope c::k)) cs w):=step_lone_go (by simp[stepG,stepG.exec,Frame.atR]);have s1:∀a w,step P (lone (b.atR a (.inScope c::k)) cs w) = .next (lone (b.atR a k) cs w):=fun a w=>step_lone_go (by simp[stepG,stepG.exec,Frame.atR])
 obtain⟨e,a₁,w₁,hq,harr⟩:=h b (.inScope c::k) cs hro hb hr;cases e with
 |normal=>exact⟨.normal,a₁,w₁,hq,.head h0 s0 (StepsIn.trans harr (.one (fenced_calm hb hr rfl) (s1 a₁ w₁)))⟩
 |exit id=>
  have hx:exitTo id (.inScope c::k)=exitTo id k:=by simp[exitTo]
  exact⟨.exit id,a₁,w₁,hq,fun k' hk=> .head h0 s0 (harr.1 k' (by rw[hx];exact hk)),
   fun hr' hk=>let ⟨k₁,h1,h2⟩:=harr.2 hr' (by rw[hx];exact hk);⟨k₁,h1,.head h0 s0 h2⟩⟩
 |goto l=>exact hq.elim
 |ret=>exact⟨_,a₁,w₁,hq,.of_steps (.one h0 s0) harr⟩
 |panic ch=>exact⟨_,a₁,w₁,hq,.of_steps (.one h0 s0) harr⟩
 |outgrown=>exact⟨_,a₁,w₁,hq,.of_steps (.one h0 s0) harr⟩
theorem Aj(hO:nA P K B O.code){r:Option Nat}{c:Code}{T:BT Value}{D:List Nat}{s:St}{k:iH->BT Value->List Nat->St->Bool}
 (hk:xB P O r (.loop (comp P c)) T D s k=true) {m:Mp} {w:World} {a:Act} {r':Option Nat} (hr:RR m r r') (E:dO P K B m s w) (hT:TR m T a.tmps) (hD:DR m D a.defers):tL (Fr r') 0 P c (lR P K B m w k) a w:=by
 have hk0:O.code r (comp P c) T D s (fun x T D s=>jZ x (O.code r (.loop (comp P c)) T D s k) (k x T D s) (fun _=>k x T D s) (fun _=>k x T D s))=true:=hk;refine Ci (wpIn_mono (hO.code hk0 hr E hT hD) ?_);rintro e a' w' ⟨x,T',D',s',m',h1,rfl,h2,h3,h4,h5,h6⟩;rcases lE h1 with ⟨rfl,h1⟩|⟨rfl,h1⟩|⟨i,rfl,h1⟩|⟨l,rfl,h1⟩
 ·exact Dh (hO.loop h1 (hr.mono h2) h3 h4 h5) (fun e a w h=>h.more h2 h6)
 all_goals exact⟨_,T',D',s',m',h1,rfl,h2,h3,h4,h5,h6⟩
theorem Fy(hC:kN P K B O)(hO:nA P K B O.code)(hDr:EA P K B O)(hRa:Fx P K B O):nA P K B (xB P O) where
 loop:=by
  intro r c T D s k hk m w a r' hr E hT hD;exact Aj hO hk hr E hT hD
 code:=by
  intro r c T D s k hk m w a r' hr E hT hD;cases c with
  |skip=>exact wpIn_skip (lR.now (x:=.normal) hk E hT hD)
  |label l=>exact wpIn_label (lR.now (x:=.normal) hk E hT hD)
  |ret=>exact wpIn_ret (lR.now (x:=.ret) hk E hT hD)
  |exit id=>exact wpIn_exit (lR.now (x:=.exit id) hk E hT hD)
  |goto l=>exact wpIn_goto (lR.now (x:=.goto l) hk E hT hD)
  |seq x y=>
   have hk0:O.code r (comp P x) T D s (fun z T D s=>jZ z (O.code r (comp P y) T D s k) (k z T D s) (fun _=>k z T D s) (fun _=>k z T D s))=true:=hk;refine wpIn_seq (wpIn_mono (hO.code hk0 hr E hT hD) ?_);rintro e a' w' ⟨z,T',D',s',m',h1,rfl,h2,h3,h4,h5,h6⟩;rcases lE h1 with ⟨rfl,h1⟩|⟨rfl,h1⟩|⟨i,rfl,h1⟩|⟨l,rfl,h1⟩
   ·exact wpIn_mono (hO.code h1 (hr.mono h2) h3 h4 h5) (fun e a w h=>h.more h2 h6)
   all_goals exact⟨_,T',D',s',m',h1,rfl,h2,h3,h4,h5,h6⟩
  |cond x y z=>
   cases hx:cx x with
   |none=>
    have:xB P O r (condOr (comp P y) (comp P z) (cx x)) T D s k=true:=hk;rw[hx] at this;cases this
   |some X=>
    have hk0:xB P O r (condOr (comp P y) (comp P z) (cx x)) T D s k=true:=hk;rw[hx] at hk0;have hk1:bO T X (fun v=>pP v (fun t=>@Bool.rec (fun _=>Bool) (O.code r (comp P z) T D s k) (O.code r (comp P y) T D s k) t))=true:=hk0;obtain⟨v,hv,hk2⟩:=Q4 hk1;obtain⟨t,rfl,hk3⟩:=pU hk2;have he:a.eval x = .bool t:=by simpa only[VR] using Cg hT hx hv
    refine wpIn_cond he ?_;cases t with
    |true=>exact hO.code hk3 hr E hT hD
    |false=>exact hO.code hk3 hr E hT hD
  |block id x=>
   have hk0:O.code r (comp P x) T D s (fun z T D s=>jZ z (k z T D s) (k z T D s) (fun j=>ifB (Nat.beq j id) (k .normal T D s) (k z T D s)) (fun _=>k z T D s))=true:=hk;refine wpIn_block (wpIn_mono (hO.code hk0 hr E hT hD) ?_);rintro e a' w' ⟨z,T',D',s',m',h1,rfl,h2,h3,h4,h5,h6⟩;rcases lE h1 with ⟨rfl,h1⟩|⟨rfl,h1⟩|⟨i,rfl,h1⟩|⟨l,rfl,h1⟩
   ·exact⟨.normal,T',D',s',m',h1,rfl,h2,h3,h4,h5,h6⟩
   ·exact⟨.ret,T',D',s',m',h1,rfl,h2,h3,h4,h5,h6⟩
   ·show Exit.inBlock id _ (.exit i) a' w'
    simp only[Exit.inBlock];rcases mX h1 with ⟨h0,h1⟩|⟨h0,h1⟩
    ·have:i=id:=by simpa using h0
     rw[if_pos this];exact⟨.normal,T',D',s',m',h1,rfl,h2,h3,h4,h5,h6⟩
    ·have:¬i=id:=by
      intro e;subst e;simp at h0
     rw[if_neg this];exact⟨.exit i,T',D',s',m',h1,rfl,h2,h3,h4,h5,h6⟩
   ·exact⟨.goto l,T',D',s',m',h1,rfl,h2,h3,h4,h5,h6⟩
  |loop x=>exact Ai (Aj hO hk hr E hT hD)
  |scope x=>
   have hk0:O.code r (comp P x) T D s (fun z T D s=>jZ z (k z T D s) (k z T D s) (fun _=>k z T D s) (fun _=>false))=true:=hk;refine EB (wpIn_mono (hO.code hk0 hr E hT hD) ?_);rintro e a' w' ⟨z,T',D',s',m',h1,rfl,h2,h3,h4,h5,h6⟩;rcases lE h1 with ⟨rfl,h1⟩|⟨rfl,h1⟩|⟨i,rfl,h1⟩|⟨l,rfl,h1⟩
   ·exact⟨.normal,T',D',s',m',h1,rfl,h2,h3,h4,h5,h6⟩
   ·exact⟨.ret,T',D',s',m',h1,rfl,h2,h3,h4,h5,h6⟩
   ·exact⟨.exit i,T',D',s',m',h1,rfl,h2,h3,h4,h5,h6⟩
   ·cases h1
  |region id ops draw=>
   have hk0:xB P O r (itemsOr (compRegion P ops draw)) T D s k=true:=hk;cases hi:compRegion P ops draw with
   |none=>rw[hi] at hk0;cases hk0
   |some items=>
    rw[hi] at hk0;have hk1:fH P O items T s (fun T s=>k .normal T D s)=true:=hk0;have out:∀{a':Act} {w':World},Df P K B m a w (fun T s=>k .normal T D s) a' w'->lR P K B m w k .normal a' w':=by
     rintro a' w' ⟨T',s',m',h1,h2,h3,h4,h5,h6⟩;exact⟨.normal,T',D,s',m',h1,rfl,h2,h3,h4,by rw[h5];exact hD.mono h2,h6⟩
    cases draw with
    |true=>exact wpIn_mono (hDr hi hk1 E hT) (by rintro e a' w' ⟨rfl,h⟩;exact out h)
    |false=>exact wpIn_region (Dg hC _ hi E hT hk1 (fun a' w' h=>out h))
  |rangeFunc f ps x y=>
   have hk0:xB P O r (rangeOr ps.toList (comp P x) (comp P y) (cx f)) T D s k=true:=hk;cases hf:cx f with
   |none=>rw[hf] at hk0;cases hk0
   |some F=>
    rw[hf] at hk0;have hk1:bO T F (fun f=>B8 O r f ps.toList (comp P x) (comp P y) T D s k)=true:=hk0;obtain⟨v,hv,hk2⟩:=Q4 hk1;exact hRa hf hv hk2 hr E hT hD
  |refuse=>cases hk
end
end Go.Proofs.YtjkdkpckjgaplaaGreat.Ev
namespace Go.Proofs.YtjkdkpckjgaplaaGreat.Ev
open Go Go.RowKit
variable{w:World}{m:Mp}{s:St}{l x y:Nat}
theorem IF{r:Option Nat}{n:Nat}{P:Program}{c:Code}{Q:Exit->Act->World->Prop}{a:Act}(h:c.wpIn (Fr r) 0 P Q a w):c.wpIn (Fr r) n P Q a w:=
 fun b k cs hro hb _=>h b k cs hro hb (fun _ h=>by simp[Fr,Fence.wide] at h)
theorem QT{T T':BT Value}{a:Array Value}{d:Nat}{v u:Value}(hT:TR m T a)(hd:(T.get d).isSome=true)(hv:VR m v u)(hg:∀j,T'.get j=if j=d then some v else T.get j):TR m T' (a.setIfInBounds d u):=by
 intro t x ht;obtain⟨x0,hx0⟩:=Option.isSome_iff_exists.1 hd;obtain⟨x1,h1,_⟩:=hT d x0 hx0;have hlt:d<a.size:=(Array.getElem?_eq_some_iff.1 h1).1;rw[hg] at ht;by_cases h:t=d
 ·subst h
  rw[if_pos rfl] at ht;cases ht;exact⟨u,by simp[hlt],hv⟩
 ·rw[if_neg h] at ht
  obtain⟨x',h2,h3⟩:=hT t x ht;exact⟨x',by rw[Array.getElem?_setIfInBounds_ne oM];exact h2,h3⟩
theorem Di{m:Mp}:∀{ps:List Nat} {vs us:List Value} {T:BT Value} {tmps:Array Value} {k:BT Value->Bool},TR m T tmps->LR m vs us->tI T ps vs k=true ->
 us.length=ps.length/\∃T',k T'=true/\TR m T' ((ps.zip us).foldl (fun tmps (p:Nat×Value)=>tmps.setIfInBounds p.1 p.2) tmps)
 |[],vs,us,T,tmps,k,hT,hv,hk=>by
  cases vs with
  |nil=>
   simp only[LR] at hv;subst hv;exact⟨rfl,T,hk,hT⟩
  |cons=>cases hk
 |p::ps,vs,us,T,tmps,k,hT,hv,hk=>by
  cases vs with
  |nil=>cases hk
  |cons v vs=>
   simp only[LR] at hv;obtain⟨u,us',rfl,h1,h2⟩:=hv;have hk0:nN T p v (fun T=>tI T ps vs k)=true:=hk;obtain⟨T1,hk1,hd,hg⟩:=oQ hk0;obtain⟨h3,T',h4,h5⟩:=Di (QT hT hd h1 hg) h2 hk1;exact⟨by simp[h3],T',h4,h5⟩
section
variable{P:Program}{K:Kp}{B:Nat}{O:OK}
theorem uK(E:dO P K B m s w)(hm:m l=some (x,y)){st:LoopState}{p:iH}{T:BT Value}{ps:List Nat}{a b:CC}{q:Nat}(hc:s.h.get l=some (.loop st p T ps a b q)) :
 ∃r:Loop,w.heap[x]? = some (.loop r)/\r.state=st/\r.pending=p.code/\TR m T r.tmps/\r.params.toList=ps/\comp P r.assign=a/\comp P r.body=b/\(∃z u,m q=some (z,u)/\r.defers=z) /\
  ∀(st':LoopState) (p':iH) (h':BT eW),(∀j,h'.get j=if j=l then some (.loop st' p' T ps a b q) else s.h.get j)->dO P K B m ⟨h',s.n⟩ (w.putObj x (.loop { r with state:=st',pending:=p'.code }))/\Below B w (w.putObj x (.loop { r with state:=st',pending:=p'.code })):=by
 obtain⟨o',hx,r,rfl,h1,h2,h3,h4,h5,h6,z,u,h7,h8⟩:=E.obj l x y _ hm hc;have hlow:B<=x/\x<w.heap.size:=⟨E.own hm hc sM,(E.low l x y hm).2⟩;refine⟨r,hx,h1,h2,h3,h4,h5,h6,⟨z,u,h7,h8⟩,fun st' p' h' hg=>⟨?_,?_⟩⟩
 ·exact E.put hm hc sM hg sM (World.putObj_heap_same hlow.2) (fun k hk=>World.putObj_heap_other hk) ⟨_,rfl,rfl,rfl,h3,h4,h5,h6,z,u,h7,h8⟩
 ·exact rF rfl rfl rfl sM (fun k hk=>World.putObj_heap_other oM)
theorem QU(E:dO P K B m s w)(hm:m l=some (x,y)){z:iH}{k:Value->St->Bool}(hk:My l z s k=true) :
 ∃v w',(Instr.endRound x z.code).run P w = .ok v w'/\∃s',k v s'=true/\dO P K B m s' w'/\Below B w w'/\VR m v v:=by
 obtain⟨st,p,T,ps,a,b,q,hc,hk⟩:=oS hk;obtain⟨r,hx,h1,h2,h3,h4,h5,h6,h7,hput⟩:=uK E hm hc;have run:=run_endRound (P:=P) z.code hx;cases st with
 |busy=>
  have hk0:jZ z (dI s l (.loop .ready .normal T ps a b q) (k (.bool true))) (dI s l (.loop .done z T ps a b q) (k (.bool false))) (fun _=>dI s l (.loop .done z T ps a b q) (k (.bool false))) (fun _=>dI s l (.loop .done z T ps a b q) (k (.bool false)))=true:=hk;rcases lE hk0 with ⟨rfl,hk1⟩|⟨rfl,hk1⟩|⟨i,rfl,hk1⟩|⟨i,rfl,hk1⟩
  all_goals
   obtain⟨h',hk2,_,hg⟩:=eS hk1;obtain⟨hE,hB⟩:=hput _ _ h' hg;exact⟨_,_,run,_,hk2,hE,hB,VR.flat _ rfl⟩
 |_=>cases hk
theorem uL(hO:nA P K B O.code){vs:List Value}{k:Value->St->Bool}(hk:Ep O l vs s k=true){us:List Value}(hm:m l=some (x,y))(E:dO P K B m s w)(hv:LR m vs us) :
 ∃f tmps assign body,(Instr.yield x ⟨us⟩).run P w = .ok (.round x f tmps assign body) w/\∀r n,RoundIn (Fr r) n P x f tmps assign body w (De P K B m w k):=by
 obtain⟨st,p,T,ps,a,b,q,hc,hk⟩:=oS hk;obtain⟨r,hx,h1,h2,h3,rfl,rfl,rfl,h7,hput⟩:=uK E hm hc;have hk0:tI T r.params.toList vs (fun T=>O.code (some l) (comp P r.assign) T [] s (fun x T D s=>jZ x (Fs O l (comp P r.body) T D s k) false (fun _=>false) (fun _=>false)))=true:=hk;obtain⟨hlen,T',hk1,hT⟩:=Di h3 hv hk0;refine⟨_,_,_,_,run_yield hx (by simpa using hlen),fun rr n=>roundIn_of_wpIn (F:=Fr rr) trivial ?_⟩;have hfold:((r.params.zip ⟨us⟩).foldl (fun tmps (p:Nat×Value)=>tmps.setIfInBounds p.1 p.2) r.tmps)=((r.params.toList.zip us).foldl (fun tmps (p:Nat×Value)=>tmps.setIfInBounds p.1 p.2) r.tmps):=by
  rw[<-Array.foldl_toList];simp[Array.toList_zip]
 have hass:=hO.code (a:=⟨(r.params.zip ⟨us⟩).foldl (fun tmps (p:Nat×Value)=>tmps.setIfInBounds p.1 p.2) r.tmps,[]⟩) (r':=some x) hk1 ⟨x,y,hm,rfl⟩ E (by show TR m T' ((r.params.zip ⟨us⟩).foldl (fun tmps (p:Nat×Value)=>tmps.setIfInBounds p.1 p.2) r.tmps);rw[hfold];exact hT) rfl;refine IF (r:=some x) (wpIn_mono hass ?_);rintro e a₁ w₁ ⟨z,T1,D1,s1,m1,g1,rfl,g2,g3,g4,g5,g6⟩;rcases lE g1 with ⟨rfl,g1⟩|⟨rfl,g1⟩|⟨i,rfl,g1⟩|⟨i,rfl,g1⟩
 ·have g1':Fs O l (comp P r.body) T1 D1 s1 k=true:=g1
  obtain⟨st1,p1,T2,ps1,c1,d1,q1,hc1,hk2⟩:=oS g1';have hm1:=g2 _ _ hm;obtain⟨r1,hx1,i1,i2,i3,i4,i5,i6,i7,hput1⟩:=uK g3 hm1 hc1;cases st1 with
  |ready=>
   have hk3:dI s1 l (.loop .busy p1 T2 ps1 c1 d1 q1) (fun s=>O.code (some l) (comp P r.body) T1 D1 s (fun x _ _ s=>My l x s k))=true:=hk2;obtain⟨h',hk4,_,hg⟩:=eS hk3;obtain⟨hE,hB⟩:=hput1 .busy p1 h' hg;have hbegin:=run_beginRound (P:=P) hx1 i1;have hre:({ r1 with state:=.busy,pending:=p1.code }:Loop)={ r1 with state:=.busy }:=by rw[<-i2]
   rw[hre] at hE hB;refine⟨_,hbegin,IF (r:=some x) (wpIn_mono (hO.code (r':=some x) hk4 ⟨x,y,hm1,rfl⟩ hE g4 g5) ?_)⟩;rintro e a₂ w₂ ⟨z,T3,D3,s3,m3,j1,rfl,j2,j3,j4,j5,j6⟩;obtain⟨v,w3,hrun,s4,hk5,hE4,hB4,hvv⟩:=QU j3 (j2 _ _ hm1) j1;have hR:De P K B m w k (.returned v) w3:=⟨v,s4,m3,hk5,g2.trans j2,hE4,g6.trans (hB.trans (j6.trans hB4)),hvv⟩;cases z with
   |normal=>exact⟨v,w3,hrun,hR⟩
   |ret=>exact⟨v,w3,hrun,hR⟩
   |exit i=>exact⟨v,w3,hrun,hR⟩
   |goto i=>exact⟨v,w3,hrun,hR⟩
  |_=>cases hk2
 all_goals cases g1
end
end Go.Proofs.YtjkdkpckjgaplaaGreat.Ev
namespace Go.Proofs.YtjkdkpckjgaplaaGreat.Ev
open Go Go.RowKit
variable{w:World}{us:List Value}
def Dj(tmps:Array Value):ResultVar->Sem Value
 | .tmp t=>pure (tmps.getD t undef)
 | .cell a t=>do loadVar t (<-asAddr (tmps.getD a undef))
section
variable{P:Program}{K:Kp}{B:Nat}{O:OK}
theorem HI{t:TypeId}{u r:Value}(h:(Instr.loadAt t u).run P w = .ok r w)(hu:∃a,u = .pointer (some a)):(do loadVar t (<-asAddr u):Sem Value).run P w = .ok r w:=by
 obtain⟨a,rfl⟩:=hu;exact h
theorem EC{m:Mp}{s:St}{w:World}(E:dO P K B m s w){T:BT Value}{tmps:Array Value}(hT:TR m T tmps):∀{l:List ResultVar} {cs:List CRes} {k:List Value->Bool},compRes P l=some cs->xX s T cs k=true ->
 ∃vs us,k vs=true/\(l.mapM (Dj tmps)).run P w = .ok us w/\LR m vs us
 |[],cs,k,hc,hk=>by
  cases hc;exact⟨[],[],hk,rfl,by simp only[LR]⟩
 | .tmp t::l,cs,k,hc,hk=>by
  simp only[compRes,Option.map_eq_some_iff] at hc;obtain⟨cs',h1,rfl⟩:=hc;have hk0:lM T t (fun v=>xX s T cs' (fun l=>k (v::l)))=true:=hk;obtain⟨v,hv,hk1⟩:=kJ hk0;obtain⟨u,hu,hvu⟩:=hT t v hv;obtain⟨vs,us,h2,h3,h4⟩:=EC E hT h1 hk1;refine⟨v::vs,u::us,h2,?_,by simp only[LR];exact⟨u,us,rfl,hvu,h4⟩⟩;have:(Dj tmps (.tmp t)).run P w = .ok u w:=by simp[Dj,Array.getD_eq_getD_getElem?,hu]
  rw[List.mapM_cons];simp only[Sem.run_bind,this,Result.andThen_ok,h3,Sem.run_pure]
 | .cell a t::l,cs,k,hc,hk=>by
  simp only[compRes] at hc;split at hc
  ·rename_i n cs' h0 h1
   cases hc;have hk0:lM T a (fun a=>En s n a (fun v=>xX s T cs' (fun l=>k (v::l))))=true:=hk;obtain⟨v,hv,hk1⟩:=kJ hk0;obtain⟨u,hu,hvu⟩:=hT a v hv;obtain⟨r,hk2,r',hr,hrr⟩:=P9 h0 E hvu hk1;obtain⟨vs,us,h2,h3,h4⟩:=EC E hT h1 hk2;refine⟨r::vs,r'::us,h2,?_,by simp only[LR];exact⟨r',us,rfl,hrr,h4⟩⟩;have hp:∃a,u = .pointer (some a):=by
    obtain⟨b,o,rfl,_⟩:=mQ hk1;obtain⟨x,y,_,rfl⟩:=hvu.ptr_inv;exact⟨_,rfl⟩
   have:(Dj tmps (.cell a t)).run P w = .ok r' w:=by
    have:=HI hr hp;simpa [Dj,Array.getD_eq_getD_getElem?,hu] using this
   rw[List.mapM_cons];simp only[Sem.run_bind,this,Result.andThen_ok,h3,Sem.run_pure]
  ·cases hc
theorem QV{m:Mp}{vs us:List Value}{k:Value->Bool}(hk:B9 vs k=true)(hv:LR m vs us):∃r,k r=true/\VR m r (if h:(⟨us⟩:Array Value).size=1 then (⟨us⟩:Array Value)[0] else .tuple ⟨us⟩):=by
 have tup:∀{vs us:List Value},LR m vs us->VR m (.tuple ⟨vs⟩) (.tuple ⟨us⟩):=by
  intro vs us h;simp only[VR,AR];exact⟨_,rfl,us,rfl,h⟩
 cases vs with
 |nil=>
  have:=hv;simp only[LR] at this;subst this;exact⟨_,hk,by simpa using tup hv⟩
 |cons v l=>
  cases l with
  |nil=>
   simp only[LR] at hv;obtain⟨u,us',rfl,h1,rfl⟩:=hv;exact⟨v,hk,by simpa using h1⟩
  |cons v' l=>
   have:=LR.length hv;refine⟨_,hk,?_⟩;rw[dif_neg (by show ¬us.length=1;rw[this];simp)];exact tup hv
theorem ED(fn:Func)(tmps:Array Value)(h:(fn.results.toList.mapM (Dj tmps)).run P w = .ok us w):(results fn tmps).run P w = .ok (if h:(⟨us⟩:Array Value).size=1 then (⟨us⟩:Array Value)[0] else .tuple ⟨us⟩) w:=by
 have e:results fn tmps=(do let vs <-fn.results.mapM (Dj tmps);pure (if h:vs.size=1 then vs[0] else .tuple vs)):=by
  unfold results
  congr 1
 have hm:(fn.results.mapM (Dj tmps)).run P w = .ok (⟨us⟩:Array Value) w:=by
  rw[Array.mapM_eq_mapM_toList,Sem.run_map,h];rfl
 rw[e,Sem.run_bind,hm];rfl
theorem wE{fn:Func}{r:List CRes}(hr:compRes P fn.results.toList=some r){tmps:Array Value}{T:BT Value}{m0:Mp}{w0:World}{k:Value->St->Bool}:∀{D:List Nat} {l:List Deferred} {m:Mp} {s:St} {w:World},DR m D l->dO P K B m s w->TR m T tmps->m0.le m->Below B w0 w ->
 uG D s (fun s=>xX s T r (fun l=>B9 l (fun v=>k v s)))=true->LeavesInM Fence.wide 0 P fn tmps (De P K B m0 w0 k) l .returning w
 |[],l,m,s,w,hD,E,hT,hle,hB,hk=>by
  have:l=[]:=hD;subst this;have hk0:xX s T r (fun l=>B9 l (fun v=>k v s))=true:=hk;obtain⟨vs,us,h1,h2,h3⟩:=EC E hT hr hk0;obtain⟨v,h4,h5⟩:=QV h1 h3;exact⟨_,ED fn tmps h2,v,s,m,h4,hle,E,hB,h5⟩
 |q::D,l,m,s,w,hD,E,hT,hle,hB,hk=>by
  obtain⟨z,y,t,h1,rfl,h3⟩:=hD;have hk0:qW s q (fun o=>@eW.casesOn (fun _=>Bool) o false (fun _ _ _ _=>false) (fun _ _ _ _ _ _ _=>false) (fun d=>@Bool.rec (fun _=>Bool) false (dI s q (.deferred false) (fun s=>uG D s (fun s=>xX s T r (fun l=>B9 l (fun v=>k v s))))) d) (fun _=>false) (fun _=>false))=true:=hk;obtain⟨o,ho,hk1⟩:=oR hk0;cases o with
  |deferred d=>
   cases d with
   |true=>
    obtain⟨h',hk2,_,hg⟩:=eS (k:=fun s=>uG D s (fun s=>xX s T r (fun l=>B9 l (fun v=>k v s)))) hk1;obtain⟨o',hx,hor⟩:=E.obj q z y _ h1 ho;have hx':w.heap[z]? = some (.deferred (some [])):=by
     have:o' = .deferred (some []):=hor;rw[hx,this]
    have hlow:B<=z/\z<w.heap.size:=⟨E.own h1 ho sM,(E.low q z y h1).2⟩;have hE:dO P K B m ⟨h',s.n⟩ (w.putObj z (.deferred none)):=E.put h1 ho sM hg sM (World.putObj_heap_same hlow.2) (fun k hk=>World.putObj_heap_other hk) rfl;have hB':Below B w (w.putObj z (.deferred none)):=rF rfl rfl rfl sM (fun k hk=>World.putObj_heap_other oM);exact⟨sM,.inl ⟨z,_,rfl,run_takeDeferred hx',wE hr h3 hE hT hle (hB.trans hB') hk2⟩⟩
   |false=>cases hk1
  |_=>cases hk1
theorem Ak:∀(n j:Nat) (v:Value),(undefs n)[j]? = some v->j<n/\v=undef
 |0,j,v,h=>by simp[undefs] at h
 |n+1,j,v,h=>by
  cases j with
  |zero=>simp[undefs] at h;exact⟨oM,h.symm⟩
  |succ j=>
   simp only[undefs,List.getElem?_cons_succ] at h;obtain⟨h1,h2⟩:=Ak n j v h;exact⟨oM,h2⟩
theorem BA{f:FuncId}{c:CF}(h:compF P f=some c):∃fn cd r,P.funcs[f]? = some fn/\fn.body=some cd/\compRes P fn.results.toList=some r/\(fn.name == "runtime.NumGoroutine")=false/\c=⟨comp P cd,fn.ntmps,r⟩:=by
 unfold compF at h;split at h
 ·rename_i fn h1
  split at h
  ·rename_i cd h2
   split at h
   ·rename_i r h3
    cases hn:fn.name == "runtime.NumGoroutine" with
    |true=>rw[hn] at h;cases h
    |false=>rw[hn] at h;cases h;exact⟨fn,cd,r,h1,h2,h3,hn,rfl⟩
   ·cases h
  ·cases h
 ·cases h
theorem Fz{C:Nat->(CF->Bool)->Bool}(hC:∀f k,C f k=true->∃c,compF P f=some c/\k c=true)(hO:nA P K B O.code){f:FuncId}{vs:List Value}{s:St}{k:Value->St->Bool}(hk:xC C O f vs s k=true){m:Mp}(E:dO P K B m s w)(hv:LR m vs us) :
 (∀w,(callFunc f ⟨us⟩).run P w = .ok (.enter f ⟨us⟩) w)/\CallsIn Fence.wide 0 P f ⟨us⟩ w (De P K B m w k):=by
 obtain⟨c,hc,hk1⟩:=hC _ _ hk;obtain⟨fn,cd,r,h1,h2,h3,h4,rfl⟩:=BA hc;have hk2:ifB (Nat.ble (mK vs) fn.ntmps) (fM (full fn.ntmps) 0 vs (fun T=>O.code none (comp P cd) T [] s (fun x T D s=>jZ x (gR r T D s k) (gR r T D s k) (fun _=>false) (fun _=>false)))) false=true:=hk1;obtain⟨hle,hk3⟩:=Z5 hk2;obtain⟨T,hk4,_,hg⟩:=lC hk3;have hlen:=LR.length hv;rw[kK,Nat.ble_eq] at hle;refine⟨fun w=>?_,callsIn_of_wp_marks h1 h2 trivial ?_⟩
 ·have h4':¬fn.name = "runtime.NumGoroutine":=by simpa using h4
  simp[callFunc,h1,h2,h4']
 ·have hT:TR m T ((⟨us⟩:Array Value)++Array.replicate (fn.ntmps-(⟨us⟩:Array Value).size) undef):=by
   intro j v hj;rw[hg] at hj;by_cases hlt:0<=j/\j<0+vs.length
   ·rw[if_pos hlt] at hj
    obtain⟨u,h5,h6⟩:=LR.get hv hj;refine⟨u,?_,h6⟩;rw[Array.getElem?_append_left (by show j-0<us.length;omega)];simpa using h5
   ·rw[if_neg hlt] at hj
    obtain⟨h5,rfl⟩:=Ak _ _ _ (pV hj);refine⟨undef,?_,VR.flat undef rfl⟩;have hj':us.length<=j:=oM
    rw[Array.getElem?_append_right (by show us.length<=j;omega)];rw[Array.getElem?_replicate];rw[if_pos (by show j-us.length<fn.ntmps-us.length;omega)]
  have hcode:=hO.code (a:=⟨(⟨us⟩:Array Value)++Array.replicate (fn.ntmps-(⟨us⟩:Array Value).size) undef,[]⟩) (r':=none) hk4 rfl E hT rfl;refine wpIn_mono hcode ?_;rintro e a' w' ⟨z,T',D',s',m',g1,rfl,g2,g3,g4,g5,g6⟩;rcases lE g1 with ⟨rfl,g1⟩|⟨rfl,g1⟩|⟨i,rfl,g1⟩|⟨i,rfl,g1⟩
  ·exact wE h3 g5 g3 g4 g2 g6 g1
  ·exact wE h3 g5 g3 g4 g2 g6 g1
  all_goals cases g1
end
end Go.Proofs.YtjkdkpckjgaplaaGreat.Ev
