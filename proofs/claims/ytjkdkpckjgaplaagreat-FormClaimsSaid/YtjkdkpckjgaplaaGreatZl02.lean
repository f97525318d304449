import Derived.Test.YtjkdkpckjgaplaaGreatZl01
set_option linter.unusedVariables false
set_option linter.unusedSimpArgs false
namespace Go.Proofs.YtjkdkpckjgaplaaGreat.Ev
open Go Go.RowKit
variable{P:Program}{K:Kp}{B x e b off:Nat}{m:Mp}{s:St}{w:World}{v u:Value}{cs:Array Value}{t:TypeId}{i:TypeInfo}{n:Option Nat}{l:List Value}
def nv:Next->Value
 | .value v=>v
 |_=>undef
def TX:Next->Prop
 | .value _ | .skip=>True
 |_=>False
def Mz(P:Program)(K:Kp)(B:Nat)(m:Mp)(w:World)(r:Result Next)(v:Value)(s':St):Prop:=
 ∃m' w' n,r = .ok n w'/\TX n/\m.le m'/\dO P K B m' s' w'/\Below B w w'/\VR m' v (nv n)
theorem Mz.pure(E:dO P K B m s w)(h:VR m v u){r:Result Next}(hr:r = .ok (.value u) w):Mz P K B m w r v s:=
 ⟨m,w,.value u,hr,trivial,Mp.le_refl m,E,Below.refl _ _,h⟩
theorem sE{fr:Nat×Nat}(h:w.heap[x]? = some (.cells cs e fr))(j:Nat):w.cell? ⟨x,j,none⟩=cs[j]?:=by simp[World.cell?,h]
theorem bQ(h:P.info? t=some i)(w:World):(sizeOf t).run P w = .ok i.size w:=by simp[sizeOf,typeInfo,h]
theorem fO(h:P.info? t=some i)(w:World):(typeInfo t).run P w = .ok i w:=by simp[typeInfo,h]
theorem Y5{d:TypeDesc}(h:P.underlying t=some d)(w:World):(underlying t).run P w = .ok d w:=by simp[underlying,h]
theorem Aa(h:aggOf P t=some none)(w:World):(isAgg t).run P w = .ok false w:=by
 unfold aggOf at h;cases hu:P.underlying t with
 |none=>simp[hu] at h
 |some d=>
  cases hi:P.info? t with
  |none=>cases d <;> simp[hu,hi] at h
  |some i=>cases d <;> simp[hu,hi] at h <;> simp[isAgg,underlying,hu]
theorem tJ{k:Nat}(h:aggOf P t=some (some k))(w:World):(isAgg t).run P w = .ok true w/\(sizeOf t).run P w = .ok k w:=by
 unfold aggOf at h;cases hu:P.underlying t with
 |none=>simp[hu] at h
 |some d=>
  cases hi:P.info? t with
  |none=>cases d <;> simp[hu,hi] at h
  |some i=>cases d <;> simp[hu,hi] at h <;> exact⟨by simp[isAgg,underlying,hu],by rw[<-h];exact bQ hi w⟩
theorem VR.ptr_inv{b o:Nat}(h:VR m (.pointer (some ⟨b,o,none⟩)) u):∃x y,m b=some (x,y)/\u = .pointer (some ⟨x,o,none⟩):=by
 simp only[VR] at h;exact h.2
theorem fA(x o n:Nat):(⟨x,o,none⟩:Addr).add n=⟨x,o+n,none⟩:=by
 unfold Addr.add;split
 ·rename_i h;subst h;rfl
 ·rfl
theorem dO.sees(E:dO P K B m s w){b x y:Nat}{f:Nat->Option Value}(hm:m b=some (x,y))(h:wB s b f) :
 ∃cs e fr,w.heap[x]? = some (.cells cs e fr)/\∀j v,f j=some v->oneCell v=true/\∃v',cs[j]? = some v'/\VR m v v':=by
 rcases h with ⟨N,c,e,op,hg,rfl⟩|hg
 ·obtain⟨o',ho,cs,rfl,_,hcs,_,hon⟩:=E.obj b x y _ hm hg
  exact⟨cs,e,_,ho,fun j v hj=>⟨(hon j v hj).1,hcs j v hj⟩⟩
 ·obtain⟨o',ho,cs,e,fr,rfl,h1⟩:=E.obj b x y _ hm hg
  exact⟨cs,e,fr,ho,h1⟩
theorem Er{k:Value->Bool}(h:tH s b (fun c=>Em c off n k) (fun g=>pT g off n k)=true):∃f,wB s b f /\
 match n with
 |none=>∃v,f off=some v/\k v=true
 |some n=>∃l,l.length=n/\(∀j,j<n->f (off+j)=l[j]?)/\k (.agg ⟨l⟩)=true:=by
 rcases zY h with ⟨N,c,e,op,h1,h2⟩|⟨g,h1,h2⟩
 ·cases n with
  |none=>exact⟨_,.inl ⟨N,c,e,op,h1,rfl⟩,kJ h2⟩
  |some n=>obtain⟨l,h3,h4,h5⟩:=uH (k:=fun l=>k (.agg ⟨l⟩)) h2;exact⟨_,.inl ⟨N,c,e,op,h1,rfl⟩,l,h4,h5,h3⟩
 ·cases n with
  |none=>exact⟨_,.inr h1,mY h2⟩
  |some n=>obtain⟨l,h3,h4,h5⟩:=nT (k:=fun l=>k (.agg ⟨l⟩)) h2;exact⟨_,.inr h1,l,h4,h5,h3⟩
theorem yI{f:Nat->Option Value}(hc:∀j v,f j=some v->∃v',cs[j]? = some v'/\VR m v v')(hl:∀j,j<l.length->f (off+j)=l[j]?) :
 ∃l',l'.length=l.length/\LR m l l'/\∀j v,l'[j]? = some v->cs[off+j]? = some v:=by
 refine⟨(List.range l.length).map (fun j=>cs.getD (off+j) undef),sM,LR.of_get sM (fun i v hv=>?_),fun j v hj=>?_⟩
 ·have hi:i<l.length:=(List.getElem?_eq_some_iff.1 hv).1
  obtain⟨v',h1,h2⟩:=hc (off+i) v (by rw[hl i hi];exact hv);refine⟨v',?_,h2⟩;have:cs.getD (off+i) undef=v':=by simp[Array.getD_eq_getD_getElem?,h1]
  simp[hi,<-this,Array.getD_eq_getD_getElem?]
 ·have hi:j<l.length:=by
   have:=(List.getElem?_eq_some_iff.1 hj).1;simpa using this
  obtain⟨v',h1,h2⟩:=hc (off+j) (l[j]) (by rw[hl j hi];exact List.getElem?_eq_getElem hi);simp[hi,h1] at hj;rw[h1,<-hj]
theorem P9{k:Value->Bool}(hn:aggOf P t=some n)(E:dO P K B m s w)(hv:VR m v u)(hk:En s n v k=true) :
 ∃r,k r=true/\∃r',(Instr.loadAt t u).run P w = .ok r' w/\VR m r r':=by
 obtain⟨b,off,rfl,hk⟩:=mQ hk;obtain⟨x,y,hm,rfl⟩:=hv.ptr_inv;obtain⟨f,hf,hk⟩:=Er hk;obtain⟨cs,e,fr,ho,hcs1⟩:=E.sees hm hf;have hcs:∀j v,f j=some v->∃v',cs[j]? = some v'/\VR m v v':=fun j v hj=>(hcs1 j v hj).2
 cases n with
 |none=>
  obtain⟨v,h1,h2⟩:=hk;obtain⟨v',h3,h4⟩:=hcs off v h1;refine⟨v,h2,v',?_,h4⟩;simp[Instr.loadAt,Instr.sureAddr,loadVar,Aa hn,sE ho,h3]
 |some n=>
  obtain⟨l,h1,h2,h3⟩:=hk;obtain⟨l',h4,h5,h6⟩:=yI (off:=off) hcs (by rw[h1];exact h2);obtain⟨ha,hsz⟩:=tJ hn w;refine⟨_,h3,.agg ⟨l'⟩,?_,by simp only[VR,AR];exact⟨_,rfl,l',rfl,h5⟩⟩;have hl:=run_loadCells_list (P:=P) w ⟨x,off,none⟩ l' (fun j v hj=>by rw[fA,sE ho];exact h6 j v hj);rw[h4,h1] at hl;simp[Instr.loadAt,Instr.sureAddr,loadVar,ha,hsz,hl]
theorem MA{i N e:Nat}{c c':BT Value}{op:Bool}{l l':List Value}(hN:N<=cs.size)(hcs:∀j v,c.get j=some v->∃v',cs[j]? = some v'/\VR m v v')
 (hop:op=true->∃x y,m i=some (x,y)/\y*P.cellsOf e=cs.size) (hl:LR m l l') (h1:∀v∈l,oneCell v=true) (h2:∀j v,c.get j=some v->oneCell v=true/\j<N) (ho:off+l.length<=N) (hg:∀j,c'.get j=if off<=j/\j<off+l.length then l[j-off]? else c.get j) :
 OR P m i (.cells N c' e op) (.cells (cs.toList.take off++l'++cs.toList.drop (off+l'.length)).toArray e (0,0)):=by
 have hll:=LR.length hl;have hsz:(cs.toList.take off++l'++cs.toList.drop (off+l'.length)).toArray.size=cs.size:=by
  simp[hll];omega
 refine⟨_,rfl,by rw[hsz];exact hN,fun j v hj=>?_,fun h=>by obtain⟨x,y,h1,h2⟩:=hop h;exact⟨x,y,h1,by rw[hsz];exact h2⟩,fun j v hj=>by
  rw[hg] at hj;by_cases h:off<=j/\j<off+l.length
  ·rw[if_pos h] at hj;exact⟨h1 v (List.mem_of_getElem? hj),oM⟩
  ·rw[if_neg h] at hj;exact h2 j v hj⟩
 rw[hg] at hj;have key:(cs.toList.take off++l'++cs.toList.drop (off+l'.length)).toArray[j]? = if off<=j/\j<off+l.length then l'[j-off]? else cs[j]?:=by
  rw[List.getElem?_toArray];have h1:(cs.toList.take off).length=off:=by simp;omega
  by_cases h2:j<off
  ·rw[if_neg oM,List.append_assoc,List.getElem?_append_left oM]
   simp[h2]
  ·by_cases h3:j<off+l.length
   ·rw[if_pos ⟨oM,h3⟩,List.append_assoc,List.getElem?_append_right oM,h1,List.getElem?_append_left oM]
   ·rw[if_neg oM,List.getElem?_append_right (by simp;omega)]
    simp only[List.length_append,h1,List.getElem?_drop];rw[show off+l'.length+(j-(off+l'.length))=j by omega];simp
 rw[key];by_cases h:off<=j/\j<off+l.length
 ·rw[if_pos h] at hj ⊢
  exact LR.get hl hj
 ·rw[if_neg h] at hj ⊢
  exact hcs j v hj
theorem Es(v:Value):v.oneCell'=oneCell v:=by cases v <;> rfl
theorem LR.ones:∀{l l':List Value},LR m l l'->(∀v∈l,oneCell v=true)->∀v∈l',v.oneCell'=true
 |[],_,h,_,v,hv=>by simp only[LR] at h;subst h;cases hv
 |u::l,_,h,k,v,hv=>by
  simp only[LR] at h;obtain⟨u',t,rfl,h1,h2⟩:=h;rcases List.mem_cons.1 hv with rfl|hv
  ·rw[Es,h1.one];exact k u sM
  ·exact LR.ones h2 (fun x hx=>k x (by simp[hx])) v hv
theorem Bu(E:dO P K B m s w){b x y N e:Nat}{c c':BT Value}{op:Bool}{l l':List Value}{h':BT eW}(hm:m b=some (x,y))(hb:s.h.get b=some (.cells N c e op))
 (hl:LR m l l') (h1:∀v∈l,oneCell v=true) (ho:off+l.length<=N) (hg:∀j,c'.get j=if off<=j/\j<off+l.length then l[j-off]? else c.get j) (hh:∀j,h'.get j=if j=b then some (.cells N c' e op) else s.h.get j) :
 ∃w',(storeCells ⟨x,off,none⟩ l').run P w = .ok () w'/\dO P K B m ⟨h',s.n⟩ w'/\Below B w w':=by
 obtain⟨o',hx,cs,rfl,hsz,hcs,hop,hon⟩:=E.obj b x y _ hm hb;have hll:=LR.length hl;have hrun:=run_storeCells_at (P:=P) x off e l' 0 cs w hx (by rw[hll];omega) (hl.ones h1);simp only[Nat.add_zero] at hrun;refine⟨_,hrun,E.put hm hb sM hh sM (setRow_heap w x cs _ e _ hx) (fun k hk=>setRow_other w x k _ hk) (MA hsz hcs hop hl h1 hon oM hg),?_⟩;have:=E.own hm hb sM;exact rF sM sM sM sM (fun k hk=>setRow_other w x k _ oM)
theorem Sq{v u a b:Value}{k:St->Bool}(hn:aggOf P t=some n)(hi:P.info? t=some i)(h1:n=none->i.size=1)
 (E:dO P K B m s w) (hv:VR m v u) (ha:VR m a b) (hk:Mx s n v a k=true) :
 ∃s',k s'=true/\∃w',(Instr.storeAt t b u).run P w = .ok () w'/\dO P K B m s' w'/\Below B w w':=by
 obtain⟨g,off,rfl,hk⟩:=mQ hk;obtain⟨x,y,hm,rfl⟩:=ha.ptr_inv;obtain⟨N,c,e,op,hg,hk⟩:=zX hk;cases n with
 |none=>
  obtain⟨hone,hk⟩:=Z5 (x:=ifB (Nat.blt off N) _ false) hk;obtain⟨hlt,hk⟩:=Z5 hk;obtain⟨c',hk,_,hc'⟩:=oQ hk;obtain⟨h',hk,_,hh⟩:=eS hk;have hna:∀l,v≠.agg l:=by rintro l rfl;simp[Ev.oneCell] at hone
  obtain⟨⟨_,hu⟩,_⟩:=hv.plain hna;have hlt':off<N:=by simpa [Nat.blt_eq] using hlt
  obtain⟨w',hr,hE,hB⟩:=Bu E (off:=off) (l:=[v]) (l':=[u]) (c':=c') hm hg (by simp only[LR];exact⟨u,[],rfl,hv,rfl⟩) (by simpa using hone) (by simp;omega) (fun j=>by
   rw[hc'];by_cases hj:j=off
   ·subst hj;simp
   ·rw[if_neg hj,if_neg (by simp;omega)]) hh
  refine⟨_,hk,w',?_,hE,hB⟩;simp[Instr.storeAt,Instr.sureAddr,storeVar,bQ hi,hu,h1 rfl,hr]
 |some n=>
  obtain⟨hs1,hs2⟩:=tJ hn w;have hin:i.size=n:=by rw[bQ hi] at hs2;exact(Result.ok.inj hs2).1
  obtain⟨l,rfl,hk⟩:=wA hk;obtain⟨hlen,hk⟩:=Z5 hk;obtain⟨hle,hk⟩:=Z5 hk;obtain⟨hall,hk⟩:=Z5 hk;obtain⟨c',hk,_,hc'⟩:=lC hk;obtain⟨h',hk,_,hh⟩:=eS hk;simp only[VR,AR] at hv;obtain⟨_,rfl,l',rfl,hl⟩:=hv;have hlen':l.length=n:=by simpa using hlen
  have hle':off+n<=N:=by simpa using hle
  obtain⟨w',hr,hE,hB⟩:=Bu E (l:=l) (l':=l') (c':=c') hm hg hl (sD l hall) oM hc' hh;refine⟨_,hk,w',?_,hE,hB⟩;have:=LR.length hl;simp[Instr.storeAt,Instr.sureAddr,storeVar,bQ hi,Value.cells,hin,this,hlen',hr]
end Go.Proofs.YtjkdkpckjgaplaaGreat.Ev
namespace Go.Proofs.YtjkdkpckjgaplaaGreat.Ev
open Go Go.RowKit
variable{P:Program}{t:TypeId}{v u i j:Value}{α:Type}{m:Mp}{e B:Nat}{l l':List Value}{K:Kp}{s:St}{w:World}{k:Value->Bool}{inf:TypeInfo}{n:Option Nat}
theorem fB{z:Array Value}(h:zeroOf P t=some z):∃i v,P.info? t=some i/\i.zero=some v/\v.cells=z/\flatL z.toList=true/\∀u∈z.toList,oneCell u=true:=by
 unfold zeroOf at h;cases hi:P.info? t with
 |none=>simp[hi] at h
 |some i=>
  cases hz:i.zero with
  |none=>simp[hi,hz] at h
  |some v=>
   simp only[hi,hz,sel] at h;cases hc:flatA v.cells && v.cells.toList.all oneCell with
   |false=>rw[hc] at h;cases h
   |true=>
    rw[hc] at h;simp only[Option.some.injEq] at h;subst h;simp only[Bool.and_eq_true,List.all_eq_true] at hc;refine⟨i,v,rfl,hz,rfl,?_,hc.2⟩;have:=hc.1;cases hv:v.cells with
    |mk l=>rw[hv] at this;exact this
theorem gD{i:TypeInfo}(hi:P.info? t=some i)(hz:i.zero=some v)(w:World):(zeroValue t).run P w = .ok v w:=by
 simp[zeroValue,fO hi,hz]
theorem Iq:∀(l:List α) (t:BT α) (n:Nat) (j:Nat) (v:α),(t.adds n l).get j=some v->(∀i,n<=i->t.get i=none)->(n<=j->l[j-n]? = some v)/\(j<n->t.get j=some v):=by
 have add_get:∀(t:BT α) (n j:Nat) (x v:α),(t.add n x).get j=some v->(j=n/\v=x/\t.get n=none)∨t.get j=some v:=by
  intro t
  induction t with
  |leaf=>
   intro n j x v h;unfold BT.add at h;by_cases h0:n=0
   ·rw[if_pos h0] at h
    unfold BT.get at h;by_cases hj:j=0
    ·rw[if_pos hj] at h;cases h;exact .inl ⟨oM,rfl,rfl⟩
    ·rw[if_neg hj] at h;split at h <;> simp[BT.get] at h
   ·rw[if_neg h0] at h;simp[BT.get] at h
  |node a l r il ir=>
   intro n j x v h;unfold BT.add at h;by_cases h0:n=0
   ·rw[if_pos h0] at h;exact .inr h
   ·rw[if_neg h0] at h
    by_cases h1:n % 2=1
    ·rw[if_pos h1] at h
     simp only[BT.get] at h ⊢;by_cases hj:j=0
     ·rw[if_pos hj] at h ⊢;exact .inr h
     ·rw[if_neg hj] at h ⊢
      by_cases hj1:j % 2=1
      ·rw[if_pos hj1] at h ⊢
       rcases il _ _ _ _ h with ⟨e,rfl,hn⟩|h
       ·refine .inl ⟨oM,rfl,?_⟩
        rw[if_neg h0,if_pos h1];exact hn
       ·exact .inr h
      ·rw[if_neg hj1] at h ⊢;exact .inr h
    ·rw[if_neg h1] at h
     simp only[BT.get] at h ⊢;by_cases hj:j=0
     ·rw[if_pos hj] at h ⊢;exact .inr h
     ·rw[if_neg hj] at h ⊢
      by_cases hj1:j % 2=1
      ·rw[if_pos hj1] at h ⊢;exact .inr h
      ·rw[if_neg hj1] at h ⊢
       rcases ir _ _ _ _ h with ⟨e,rfl,hn⟩|h
       ·refine .inl ⟨oM,rfl,?_⟩
        rw[if_neg h0,if_neg h1];exact hn
       ·exact .inr h
 intro l
 induction l with
 |nil=>
  intro t n j v h hn;refine⟨fun hj=>?_,fun _=>h⟩;have:=hn j hj;simp only[BT.adds] at h;rw[h] at this;cases this
 |cons x l ih=>
  intro t n j v h hn;simp only[BT.adds] at h;have hn':∀i,n+1<=i->(t.add n x).get i=none:=by
   intro i hi;cases hg:(t.add n x).get i with
   |none=>rfl
   |some u=>
    rcases add_get t n i x u hg with ⟨e,_⟩|h2
    ·omega
    ·rw[hn i oM] at h2;cases h2
  obtain⟨h1,h2⟩:=ih (t.add n x) (n+1) j v h hn';refine⟨fun hj=>?_,fun hj=>?_⟩
  ·by_cases he:j=n
   ·subst he
    rcases add_get t j j x v (h2 oM) with ⟨_,rfl,_⟩|h3
    ·simp
    ·rw[hn j (Nat.le_refl _)] at h3;cases h3
   ·have:=h1 oM
    rw[show j-n=(j-(n+1))+1 by omega,List.getElem?_cons_succ];exact this
  ·rcases add_get t n j x v (h2 oM) with ⟨e,_⟩|h3
   ·omega
   ·exact h3
theorem pV{l:List α}{j:Nat}{v:α}(h:(BT.ofList l).get j=some v):l[j]? = some v:=by
 have:=(Iq l .leaf 0 j v h (fun _ _=>rfl)).1 (Nat.zero_le _);simpa using this
theorem sF{i N e:Nat}{c:BT Value}(hc:∀j v,c.get j=some v->l[j]? = some v)(hl:LR m l l')(h1:∀v∈l,oneCell v=true)(hN:N=l.length):OR P m i (.cells N c e false) (.cells ⟨l'⟩ e (0,0)):=by
 have:=LR.length hl;refine⟨_,rfl,by show N<=l'.length;omega,fun j v hj=>?_,sM,fun j v hj=>⟨h1 v (List.mem_of_getElem? (hc j v hj)),by rw[hN];exact(List.getElem?_eq_some_iff.1 (hc j v hj)).1⟩⟩;obtain⟨v',h1,h2⟩:=LR.get hl (hc j v hj);exact⟨v',by simpa using h1,h2⟩
theorem rG(E:dO P K B m s w){o:eW}{o':Obj}{k:St->Bool}(y:Nat)(hr:OR P (m.put s.n w.heap.size y) s.n o o')(hk:jY s o k=true) :
 ∃s',k s'=true/\dO P K B (m.put s.n w.heap.size y) s' (w.alloc o')/\Below B w (w.alloc o')/\m.le (m.put s.n w.heap.size y)/\s'.n=s.n+1:=by
 obtain⟨h',hk,_,hg⟩:=oU hk;exact⟨_,hk,E.new y hg hr,xE E.base o',Mp.put_le E.none,rfl⟩
theorem Ir{z:Array Value}{k:Value->St->Bool}(hz:zeroOf P t=some z)(E:dO P K B m s w)
 (hk:C1 s (fun g=>jY s (.cells z.size (.ofList z.toList) t false) (k (ptr g)))=true) :
 ∃v s',k v s'=true/\∃m' w' u,(Instr.alloc t true (.tuple #[])).run P w = .ok u w'/\m.le m'/\dO P K B m' s' w'/\Below B w w'/\VR m' v u:=by
 obtain⟨i,v,hi,hv,rfl,hf,h1⟩:=fB hz;have hk:=gM hk;have hr:OR P (m.put s.n w.heap.size 0) s.n (.cells v.cells.size (.ofList v.cells.toList) t false) (.cells v.cells t (0,0)):=by
  have:=sF (P:=P) (m:=m.put s.n w.heap.size 0) (i:=s.n) (N:=v.cells.size) (e:=t) (fun j u h=>pV h) (LR.flat v.cells.toList hf) h1 sM;simpa using this
 obtain⟨s',hk,hE,hB,hle,_⟩:=rG E 0 hr hk;refine⟨_,s',hk,_,_,.pointer (some ⟨w.heap.size,0,none⟩),?_,hle,hE,hB,?_⟩
 ·simp[Instr.alloc,gD hi hv,newVar,newRow]
 ·simp only[ptr,VR];exact⟨trivial,_,_,Mp.put_same _ _ _ _,rfl⟩
theorem Qw{k:Value->St->Bool}(E:dO P K B m s w)(hv:VR m v u)(hk:HB s t v k=true) :
 ∃r s',k r s'=true/\∃m' w' r',(Instr.box t u).run P w = .ok r' w'/\m.le m'/\dO P K B m' s' w'/\Below B w w'/\VR m' r r':=by
 have hk:=gM hk;rw[eC] at hk;obtain⟨l,hl⟩:∃l,v.cells=⟨l⟩:=⟨v.cells.toList,rfl⟩;rw[hl] at hk;have hk0:ifB (eZ l) (dG (mK l) (fun m=>eY .leaf 0 l (fun c=>jY s (.cells m c t false) (k (ptr s.n))))) false=true:=hk;obtain⟨hall,hk'⟩:=Z5 hk0;rw[bG] at hk';obtain⟨c,hk',_,hc⟩:=vX hk';have hcells:=hv.cells;rw[hl] at hcells;have hr:OR P (m.put s.n w.heap.size 0) s.n (.cells (mK l) c t false) (.cells u.cells t (0,0)):=by
  have:=sF (P:=P) (m:=m.put s.n w.heap.size 0) (i:=s.n) (N:=mK l) (e:=t) (c:=c) (l:=l) (fun j x h=>by
   rw[hc] at h;by_cases hj:0<=j/\j<0+l.length
   ·rw[if_pos hj] at h;simpa using h
   ·rw[if_neg hj] at h;simp[BT.get] at h) (LR.mono (Mp.put_le E.none) _ hcells) (sD l hall) (kK l)
  simpa using this
 obtain⟨s',hk,hE,hB,hle,_⟩:=rG E 0 hr hk';refine⟨_,s',hk,_,_,.pointer (some ⟨w.heap.size,0,none⟩),?_,hle,hE,hB,?_⟩
 ·simp[Instr.box,newVar,newRow]
 ·simp only[ptr,VR];exact⟨trivial,_,_,Mp.put_same _ _ _ _,rfl⟩
theorem Sr{fs:Array Field}{f:Nat}{fd:Field}{i:TypeInfo}(ht:P.underlying t=some (.struct fs))(hf:fs[f]? = some fd)(hi:P.info? fd.type=some i)
 (h0:i.size≠0) (hv:VR m v u) (hk:R9 v fd.offset k=true):∃r,k r=true/\∃r',(Instr.fieldAt t u f).run P w = .ok r' w/\VR m r r':=by
 unfold R9 at hk;obtain⟨b,o,hb,hk2⟩:=mQ hk;subst hb;obtain⟨x,y,hm,rfl⟩:=hv.ptr_inv;rw[bG] at hk2;refine⟨_,hk2,.pointer (some ⟨x,o+fd.offset,none⟩),?_,by simp only[VR];exact⟨trivial,x,y,hm,rfl⟩⟩;simp[Instr.fieldAt,Y5 ht,hf,Instr.sureAddr,fieldPlace,bQ hi,h0,fA]
theorem VR.slice_inv{b o n c:Nat}(h:VR m (.slice (some ⟨b,o,none⟩) n c) u) :
 (c<OPEN/\∃x y,m b=some (x,y)/\u = .slice (some ⟨x,o,none⟩) n c)∨(OPEN<=c/\(c=OPEN∨n≠0)/\∃x y,m b=some (x,y)/\u = .slice (some ⟨x,o,none⟩) n (y-(c-OPEN)))∨(OPEN<c/\n=0/\∃a c',u = .slice (some a) 0 c'):=by
 simp only[VR] at h;have h:=h.2;by_cases h1:c<OPEN
 ·rw[if_pos h1] at h;exact .inl ⟨h1,h⟩
 ·rw[if_neg h1] at h
  by_cases h2:c=OPEN∨n≠0
  ·rw[if_pos h2] at h;exact .inr (.inl ⟨oM,h2,h⟩)
  ·rw[if_neg h2] at h;exact .inr (.inr ⟨oM,oM,h⟩)
theorem VR.slice_pos{b o n c:Nat}(h:VR m (.slice (some ⟨b,o,none⟩) n c) u)(hn:n≠0):∃x y c',m b=some (x,y)/\u = .slice (some ⟨x,o,none⟩) n c':=by
 rcases h.slice_inv with ⟨_,x,y,h1,h2⟩|⟨_,_,x,y,h1,h2⟩|⟨_,h0,_⟩
 ·exact⟨x,y,_,h1,h2⟩
 ·exact⟨x,y,_,h1,h2⟩
 ·exact absurd h0 hn
theorem VR.int_inv{i:IntKind}{n:Int}(h:VR m (.int i n) u):u = .int i n:=by simpa only[VR] using h
theorem Ss{t e:TypeId}(ht:P.underlying t=some (.slice e))(hi:P.info? e=some inf)
 (hv:VR m v u) (hj:VR m i j) (hk:Sa v i inf.size k=true):∃r,k r=true/\∃r',(Instr.indexAt t u j).run P w = .ok r' w/\VR m r r':=by
 rcases gK hk with ⟨_,_,_,h⟩|⟨b,o,n,c,rfl,hk⟩
 ·cases h
 obtain⟨ki,x,rfl,hk⟩:=kB hk;obtain⟨hlt,hk⟩:=Z5 hk;have hlt':x<n:=by simpa [Nat.blt_eq] using hlt
 have hj':=hj.int_inv;subst hj';obtain⟨X,y,c',hm,rfl⟩:=hv.slice_pos oM;rw[bG] at hk;refine⟨_,hk,.pointer (some ⟨X,o+x*inf.size,none⟩),?_,by simp only[VR];exact⟨trivial,X,y,hm,rfl⟩⟩;have h1:(0:Int)<=Int.ofNat x/\Int.ofNat x<(n:Int):=⟨Int.natCast_nonneg x,by simpa using hlt'⟩;simp[Instr.indexAt,asIntOf,Y5 ht,bQ hi,hlt',fA]
theorem Qx{t e len:Nat}(ht:P.underlying t=some (.array len e))(hi:P.info? e=some inf)
 (hv:VR m v u) (hj:VR m i j) (hk:Eo v i len inf.size k=true):∃r,k r=true/\∃r',(Instr.indexAt t u j).run P w = .ok r' w/\VR m r r':=by
 unfold Eo at hk;obtain⟨b,o,rfl,hk⟩:=mQ hk;obtain⟨X,y,hm,rfl⟩:=hv.ptr_inv;obtain⟨ki,x,rfl,hk⟩:=kB hk;obtain⟨hlt,hk⟩:=Z5 hk;have hlt':x<len:=by simpa [Nat.blt_eq] using hlt
 have hj':=hj.int_inv;subst hj';rw[bG] at hk;refine⟨_,hk,.pointer (some ⟨X,o+x*inf.size,none⟩),?_,by simp only[VR];exact⟨trivial,X,y,hm,rfl⟩⟩;simp[Instr.indexAt,asIntOf,Y5 ht,bQ hi,hlt',fA,Instr.sureAddr]
theorem LR.drop_take(h:LR m l l')(i n:Nat):LR m ((l.drop i).take n) ((l'.drop i).take n):=by
 have hl:=LR.length h;refine LR.of_get (by simp[hl]) (fun j v hj=>?_);rw[List.getElem?_take] at hj ⊢;split at hj
 ·rename_i hlt
  rw[if_pos hlt];rw[List.getElem?_drop] at hj ⊢;exact LR.get h hj
 ·cases hj
theorem Ft{off:Nat}(hn:aggOf P t=some n)(hl:LR m l l')(hk:Bs l off n k=true) :
 ∃r,k r=true/\∃r',(part t ⟨l'⟩ off).run P w = .ok r' w/\VR m r r':=by
 cases n with
 |none=>
  obtain⟨v,hv,hk⟩:=Db (l:=l) (i:=off) hk;obtain⟨v',h1,h2⟩:=LR.get hl hv;refine⟨v,hk,v',?_,h2⟩;simp[part,Aa hn,h1]
 |some n=>
  have hk':C5 l off n (fun l=>k (.agg ⟨l⟩))=true:=hk;obtain⟨ha,hs⟩:=tJ hn w;refine⟨_,Ip hk',.agg ⟨(l'.drop off).take n⟩,?_,by simp only[VR,AR];exact⟨_,rfl,_,rfl,hl.drop_take off n⟩⟩;have he:(⟨l'⟩:Array Value).extract off (off+n)=⟨(l'.drop off).take n⟩:=by
   apply Array.ext'
   simp[Array.toList_extract,List.extract]
  simp[part,ha,hs,he]
theorem Qy{fs:Array Field}{f:Nat}{fd:Field}(ht:P.underlying t=some (.struct fs))(hf:fs[f]? = some fd)(hn:aggOf P fd.type=some n)
 (hv:VR m v u) (hk:uD v (fun l=>Bs l fd.offset n k)=true):∃r,k r=true/\∃r',(Instr.field t u f).run P w = .ok r' w/\VR m r r':=by
 obtain⟨l,rfl,hk⟩:=wA hk;simp only[VR,AR] at hv;obtain⟨_,rfl,l',rfl,hl⟩:=hv;obtain⟨r,h1,r',h2,h3⟩:=Ft (w:=w) hn hl hk;exact⟨r,h1,r',by simp[Instr.field,Y5 ht,hf,asAgg,h2],h3⟩
theorem Su{t e len:Nat}(ht:P.underlying t=some (.array len e))(hi:P.info? e=some inf)(hn:aggOf P e=some n)
 (hv:VR m v u) (hj:VR m i j) (hk:Sm v i len inf.size n k=true):∃r,k r=true/\∃r',(Instr.index t u j).run P w = .ok r' w/\VR m r r':=by
 unfold Sm at hk;obtain⟨l,rfl,hk⟩:=wA hk;simp only[VR,AR] at hv;obtain⟨_,rfl,l',rfl,hl⟩:=hv;obtain⟨ki,x,rfl,hk⟩:=kB hk;obtain⟨hlt,hk⟩:=Z5 hk;have hlt':x<len:=by simpa [Nat.blt_eq] using hlt
 have hj':=hj.int_inv;subst hj';obtain⟨r,h1,r',h2,h3⟩:=Ft (w:=w) hn hl hk;refine⟨r,h1,r',?_,h3⟩;have h2':(part e ⟨l'⟩ (x*inf.size)).run P w = .ok r' w:=h2;simp[Instr.index,asIntOf,Y5 ht,bQ hi,hlt',h2']
theorem Qz{i:Nat}(hv:VR m v u)(hk:pR v (fun l=>B6 l i k)=true):∃r,k r=true/\∃r',(Instr.extract u i).run P w = .ok r' w/\VR m r r':=by
 obtain⟨l,rfl,hk⟩:=Da hk;simp only[VR,AR] at hv;obtain⟨_,rfl,l',rfl,hl⟩:=hv;obtain⟨r,h1,hk⟩:=Db hk;obtain⟨r',h2,h3⟩:=LR.get hl h1;exact⟨r,hk,r',by simp[Instr.extract,h2],h3⟩
theorem lP:∀{e:Sem α} {a:α},pureVal P e=some a->∀w,e.run P w = .ok a w:=by
 intro e
 induction e with
 |pure a=>intro b h w;simp[pureVal] at h;subst h;rfl
 |program k ih=>intro b h w;exact ih P (by simpa [pureVal] using h) w
 |mark x k ih=>intro b h w;exact ih (by simpa [pureVal] using h) w
 |_=>intro b h w;simp[pureVal] at h
theorem oV{x:Option Value}(h:flatR x=some v):x=some v/\flat v=true:=by
 cases x with
 |none=>simp[flatR] at h
 |some u=>
  unfold flatR at h;cases hu:flat u with
  |true=>simp[sel,hu] at h;subst h;exact⟨rfl,hu⟩
  |false=>simp[sel,hu] at h
theorem Cb{f:Value->Sem Value}{v u r:Value}(hv:VR m v u)(h:ev1 P f v=some r):(f u).run P w = .ok r w/\VR m r r:=by
 unfold ev1 at h;cases hf:flat v with
 |false=>simp[sel,hf] at h
 |true=>
  simp only[sel,hf] at h;obtain⟨h1,h2⟩:=oV h;rw[VR.same v hf hv];exact⟨lP h1 w,VR.flat r h2⟩
end Go.Proofs.YtjkdkpckjgaplaaGreat.Ev
namespace Go.Proofs.YtjkdkpckjgaplaaGreat.Ev
open Go Go.RowKit
variable{P:Program}{t:Nat}{b:BinOp}{x y v u:Value}{m:Mp}
theorem kC{a b:IntKind}(h:kindEq a b=true):a=b:=by cases a <;> cases b <;> first|rfl|(simp[kindEq] at h)
theorem aB(a b:Int):intEq a b=(a == b):=by
 apply Bool.eq_iff_iff.2
 cases a <;> cases b <;> simp[intEq,Nat.beq_eq] <;> omega
theorem jC(a b:Int):intLt a b=decide (a<b):=by
 apply Bool.eq_iff_iff.2
 cases a <;> cases b <;> simp[intLt,Nat.blt_eq] <;> omega
theorem gS(k:IntKind)(n:Int):wrapq k n=k.wrap n:=by
 cases k <;> try rfl
 simp only[wrapq];cases hf:fits n with
 |false=>rfl
 |true=>
  show n=IntKind.wrap .i64 n;have hr:-9223372036854775808<=n/\n<9223372036854775808:=by
   cases n with
   |ofNat a=>simp only[fits,Nat.blt_eq] at hf;show -9223372036854775808<=(a:Int)/\(a:Int)<9223372036854775808;constructor <;> omega
   |negSucc a=>simp only[fits,Nat.blt_eq] at hf;constructor <;> omega
  have e1:((2:Int) ^ IntKind.i64.bits)=18446744073709551616:=dE
  have e2:((2:Int) ^ (IntKind.i64.bits-1))=9223372036854775808:=dE
  unfold IntKind.wrap;simp only[e1,e2];have e3:IntKind.i64.signed=true:=rfl;rw[e3];simp only[Bool.true_and,decide_eq_true_eq];split <;> omega
theorem Cc(h:nilKind P t=5):P.eqGuardType P.depth t=false:=by
 have hs:sel (P.eqGuardType P.depth t) 0 5=5->P.eqGuardType P.depth t=false:=by cases P.eqGuardType P.depth t <;> simp[sel]
 unfold nilKind at h;cases hu:P.underlying t with
 |none=>rw[hu] at h;cases h
 |some D=>
  rw[hu] at h;cases D with
  |struct fs=>exact hs h
  |array n e=>exact hs h
  |_=>cases h
theorem xF{t:TypeId}{xo yo:Operand}(h:noGuard (nilKind P t) x=true)(w:World):(eqGuard b t xo yo x y).run P w = .ok () w:=by
 cases x with
 |agg l=>
  have h5:nilKind P t=5:=by simpa [noGuard] using h
  have:=Cc h5;unfold eqGuard;cases b <;> simp <;> (cases y <;> simp_all)
 |nilIface=>cases h
 |_=>
  unfold eqGuard;cases b <;> simp
theorem HC{i:IntKind}{x y:Int}(h:intBin b i x y=some v)(t:TypeId)(w:World):(binOp b t (.int i x) (.int i y)).run P w = .ok v w/\flat v=true:=by
 have hd:∀(r:Value),sel (intEq y 0) none (some r)=some v->y≠0/\v=r:=by
  intro r h;rw[aB] at h;by_cases hy:y=0
  ·subst hy;simp[sel] at h
  ·have:(y == 0)=false:=by simpa using hy
   rw[this] at h;exact⟨hy,(Option.some.inj h).symm⟩
 cases b with
 |quo=>
  obtain⟨hy,rfl⟩:=hd _ h;refine⟨?_,rfl⟩;simp[binOp,Op.intDiv,hy,gS]
 |rem=>
  obtain⟨hy,rfl⟩:=hd _ h;refine⟨?_,rfl⟩;simp[binOp,Op.intDiv,hy]
 |and|or|xor|shl|shr|andNot=>simp[intBin] at h
 |add|sub|mul=>
  simp only[intBin,gS,Option.some.injEq] at h;subst h;exact⟨by simp[binOp,Op.intArith],rfl⟩
 |eql|neq=>
  simp only[intBin,aB,Option.some.injEq] at h;subst h;exact⟨by simp[binOp,Op.intCmp,bne],rfl⟩
 |lss|gtr=>
  simp only[intBin,jC,Option.some.injEq] at h;subst h;exact⟨by simp[binOp,Op.intCmp],rfl⟩
 |leq|geq=>
  simp only[intBin,jC,Option.some.injEq] at h;subst h;exact⟨by simp[binOp,Op.intCmp,<-decide_not],rfl⟩
theorem VR.slice_some{a:Addr}{n c:Nat}(h:VR m (.slice (some a) n c) u):∃a' n' c',u = .slice (some a') n' c':=by
 simp only[VR] at h;have h:=h.2;by_cases h1:c<OPEN
 ·rw[if_pos h1] at h;obtain⟨x,y,_,rfl⟩:=h;exact⟨_,_,_,rfl⟩
 ·rw[if_neg h1] at h
  by_cases h2:c=OPEN∨n≠0
  ·rw[if_pos h2] at h;obtain⟨x,y,_,rfl⟩:=h;exact⟨_,_,_,rfl⟩
  ·rw[if_neg h2] at h;obtain⟨x,y,rfl⟩:=h;exact⟨_,_,_,rfl⟩
theorem VR.slice_none{n c:Nat}(h:VR m (.slice none n c) u):u = .slice none n c:=by simp only[VR] at h;exact h.2
theorem VR.ptr_some{a:Addr}(h:VR m (.pointer (some a)) u):∃a',u = .pointer (some a'):=by
 simp only[VR] at h;obtain⟨_,x,y,_,rfl⟩:=h;exact⟨_,rfl⟩
theorem VR.func_inv{f:Fn}{p c:Array Value}(h:VR m (.func f p c) u):∃f' p' c',u = .func f' p' c':=by
 cases f with
 |func g=>simp only[VR] at h;obtain⟨p',c',rfl,_⟩:=h;exact⟨_,_,_,rfl⟩
 |yield l=>simp only[VR] at h;obtain⟨x,y,p',c',_,rfl,_⟩:=h;exact⟨_,_,_,rfl⟩
 |_=>simp[VR] at h
theorem Dc{t d:Nat}(hd:nilKind P t=d)(h0:d≠0)(h5:d≠5):∃D,P.underlying t=some D/\((∃e,D = .slice e/\d=1)∨(∃e,D = .pointer e/\d=2)∨(∃a b c,D = .func a b c/\d=3)∨(∃e,D = .interface e/\d=4)):=by
 unfold nilKind at hd;cases hu:P.underlying t with
 |none=>rw[hu] at hd;exact absurd hd.symm h0
 |some D=>
  rw[hu] at hd;refine⟨D,rfl,?_⟩;cases D with
  |slice e=>exact .inl ⟨e,rfl,hd.symm⟩
  |pointer e=>exact .inr (.inl ⟨e,rfl,hd.symm⟩)
  |func a b c=>exact .inr (.inr (.inl ⟨a,b,c,rfl,hd.symm⟩))
  |interface e=>exact .inr (.inr (.inr ⟨e,rfl,hd.symm⟩))
  |struct fs=>
   have:d=0∨d=5:=by rw[<-hd];show sel (P.eqGuardType P.depth t) 0 5=0∨sel (P.eqGuardType P.depth t) 0 5=5;cases P.eqGuardType P.depth t <;> simp[sel]
   rcases this with e|e
   ·exact absurd e h0
   ·exact absurd e h5
  |array n e=>
   have:d=0∨d=5:=by rw[<-hd];show sel (P.eqGuardType P.depth t) 0 5=0∨sel (P.eqGuardType P.depth t) 0 5=5;cases P.eqGuardType P.depth t <;> simp[sel]
   rcases this with e|e
   ·exact absurd e h0
   ·exact absurd e h5
  |_=>exact absurd hd.symm h0
theorem HD{t:TypeId}(xo yo:Operand)(ha:∀l l',¬(u = .agg l/\v = .agg l'))(hni:¬(u = .nilIface/\v = .nilIface))(w:World):(eqGuard b t xo yo u v).run P w = .ok () w:=by
 have key:∀c:Bool,((do
  if !c then return
  match u,v with
  | .nilIface,.nilIface=>
   if (xo matches .const _) || (yo matches .const _) then return
   if <-Op.eqGuardIn Op.maxDepth t u v then unsupported (.noEntry "binop/eql: two nil values of an interface type with methods, neither of them the literal nil")
  | .agg _,.agg _=>
   if !(<-program).eqGuardType (<-program).depth t then return
   if <-Op.eqGuardIn Op.maxDepth t u v then unsupported (.noEntry "binop/eql: two nil values of an interface type with methods, in a part of a struct or an array")
  |_,_=>pure ()):Sem Unit).run P w = .ok () w:=by
  intro c;cases c with
  |false=>rfl
  |true=>
   simp only[Bool.not_true,Bool.false_eq_true,if_false];split
   ·exact absurd ⟨rfl,rfl⟩ hni
   ·rename_i l l';exact absurd ⟨rfl,rfl⟩ (ha l l')
   ·rfl
 exact key _
set_option maxHeartbeats 1000000 in
theorem QA{t d:Nat}{x y u v r:Value}(hd:nilKind P t=d)(hx:VR m x u)(hy:VR m y v)(hn:nilCmp d x y=true)(hr:evNil b=some r)(xo yo:Operand)(w:World) :
 (do eqGuard b t xo yo u v;binOp b t u v:Sem Value).run P w = .ok r w/\flat r=true:=by
 have h0:d≠0:=by rintro rfl;simp[nilCmp] at hn
 obtain⟨D,hu,hD⟩:=Dc hd h0 (by rintro rfl;simp[nilCmp] at hn);have h1:∀u v,(Op.equal t u v).run P w = .ok false w->(∀xo yo,(eqGuard b t xo yo u v).run P w = .ok () w)->(∀b',(b' = .eql∨b' = .neq)->binOp b' t u v=(match b' with | .eql=>do pure (.bool (<-Op.equal t u v))|_=>do pure (.bool (!(<-Op.equal t u v))))) ->
  (do eqGuard b t xo yo u v;binOp b t u v:Sem Value).run P w = .ok r w/\flat r=true:=by
  intro u v he hg hb;cases b <;> simp[evNil] at hr <;> subst hr
  ·refine⟨?_,rfl⟩
   rw[hb _ (.inl rfl)];simp[hg,he]
  ·refine⟨?_,rfl⟩
   rw[hb _ (.inr rfl)];simp[hg,he]
 have step:∀u v,(∀n,(Op.equalIn (n+1) t u v).run P w = .ok false w)->(Op.equal t u v).run P w = .ok false w:=fun u v h=>h 9999
 have guard:∀(u v:Value) xo yo,(∀l l',¬(u = .agg l/\v = .agg l'))->¬(u = .nilIface/\v = .nilIface)->(eqGuard b t xo yo u v).run P w = .ok () w:=fun u v xo yo ha hni=>HD xo yo ha hni w
 unfold nilCmp at hn;split at hn
 ·obtain⟨a',n',c',rfl⟩:=hy.slice_some
  have:=hx.slice_none;subst this;rcases hD with ⟨e,rfl,_⟩|⟨e,_,h⟩|⟨_,_,_,_,h⟩|⟨e,_,h⟩ <;> try (simp at h;done)
  refine h1 _ _ ?_ (fun xo yo=>guard _ _ xo yo sM sM) (by rintro b' (rfl|rfl) <;> rfl);exact step _ _ (fun n=>by unfold Op.equalIn;simp[Y5 hu])
 ·obtain⟨a',n',c',rfl⟩:=hx.slice_some
  have:=hy.slice_none;subst this;rcases hD with ⟨e,rfl,_⟩|⟨e,_,h⟩|⟨_,_,_,_,h⟩|⟨e,_,h⟩ <;> try (simp at h;done)
  refine h1 _ _ ?_ (fun xo yo=>guard _ _ xo yo sM sM) (by rintro b' (rfl|rfl) <;> rfl);exact step _ _ (fun n=>by unfold Op.equalIn;simp[Y5 hu])
 ·obtain⟨a',rfl⟩:=hy.ptr_some
  have:u = .pointer none:=by simpa only[VR] using hx
  subst this;rcases hD with ⟨e,_,h⟩|⟨e,rfl,_⟩|⟨_,_,_,_,h⟩|⟨e,_,h⟩ <;> try (simp at h;done)
  refine h1 _ _ ?_ (fun xo yo=>guard _ _ xo yo sM sM) (by rintro b' (rfl|rfl) <;> rfl);exact step _ _ (fun n=>by unfold Op.equalIn;simp[Y5 hu])
 ·obtain⟨a',rfl⟩:=hx.ptr_some
  have:v = .pointer none:=by simpa only[VR] using hy
  subst this;rcases hD with ⟨e,_,h⟩|⟨e,rfl,_⟩|⟨_,_,_,_,h⟩|⟨e,_,h⟩ <;> try (simp at h;done)
  refine h1 _ _ ?_ (fun xo yo=>guard _ _ xo yo sM sM) (by rintro b' (rfl|rfl) <;> rfl);exact step _ _ (fun n=>by unfold Op.equalIn;simp[Y5 hu])
 ·obtain⟨f',p',c',rfl⟩:=hy.func_inv
  have:u = .nilFunc:=by simpa only[VR] using hx
  subst this;rcases hD with ⟨e,_,h⟩|⟨e,_,h⟩|⟨_,_,_,rfl,_⟩|⟨e,_,h⟩ <;> try (simp at h;done)
  refine h1 _ _ ?_ (fun xo yo=>guard _ _ xo yo sM sM) (by rintro b' (rfl|rfl) <;> rfl);exact step _ _ (fun n=>by unfold Op.equalIn;simp[Y5 hu])
 ·obtain⟨f',p',c',rfl⟩:=hx.func_inv
  have:v = .nilFunc:=by simpa only[VR] using hy
  subst this;rcases hD with ⟨e,_,h⟩|⟨e,_,h⟩|⟨_,_,_,rfl,_⟩|⟨e,_,h⟩ <;> try (simp at h;done)
  refine h1 _ _ ?_ (fun xo yo=>guard _ _ xo yo sM sM) (by rintro b' (rfl|rfl) <;> rfl);exact step _ _ (fun n=>by unfold Op.equalIn;simp[Y5 hu])
 ·have:u = .nilIface:=by simpa only[VR] using hx
  subst this;simp only[VR] at hy;obtain⟨v',rfl,_⟩:=hy;rcases hD with ⟨e,_,h⟩|⟨e,_,h⟩|⟨_,_,_,_,h⟩|⟨e,rfl,_⟩ <;> try (simp at h;done)
  refine h1 _ _ ?_ (fun xo yo=>guard _ _ xo yo sM sM) (by rintro b' (rfl|rfl) <;> rfl);exact step _ _ (fun n=>by unfold Op.equalIn;simp[Y5 hu])
 ·have:v = .nilIface:=by simpa only[VR] using hy
  subst this;simp only[VR] at hx;obtain⟨v',rfl,_⟩:=hx;rcases hD with ⟨e,_,h⟩|⟨e,_,h⟩|⟨_,_,_,_,h⟩|⟨e,rfl,_⟩ <;> try (simp at h;done)
  refine h1 _ _ ?_ (fun xo yo=>guard _ _ xo yo sM sM) (by rintro b' (rfl|rfl) <;> rfl);exact step _ _ (fun n=>by unfold Op.equalIn;simp[Y5 hu])
 ·cases hn
theorem QB{x y u v r:Value}(hx:VR m x u)(hy:VR m y v)(h:evBin P b t (nilKind P t) x y=some r)(xo yo:Operand)(w:World) :
 (do eqGuard b t xo yo u v;binOp b t u v:Sem Value).run P w = .ok r w/\VR m r r:=by
 have two:∀{x y u v r:Value},VR m x u->VR m y v->evBin2 P b t (nilKind P t) x y=some r->(do eqGuard b t xo yo u v;binOp b t u v:Sem Value).run P w = .ok r w/\VR m r r:=by
  intro x y u v r hx hy h;unfold evBin2 at h;cases hf:flat x && flat y && noGuard (nilKind P t) x with
  |false=>rw[hf] at h;cases h
  |true=>
   rw[hf] at h;simp only[Bool.and_eq_true] at hf;obtain⟨h1,h2⟩:=oV (show flatR (pureVal P (binOp b t x y))=some r from h);rw[VR.same x hf.1.1 hx,VR.same y hf.1.2 hy];refine⟨?_,VR.flat r h2⟩;rw[Sem.run_bind,xF hf.2];exact lP h1 w
 unfold evBin at h;split at h
 ·rename_i k mm k' nn
  have e1:=hx.int_inv;subst e1;have e2:=hy.int_inv;subst e2;cases hk:kindEq k k' with
  |false=>rw[hk] at h;exact two hx hy h
  |true=>
   rw[hk] at h;have:=kC hk;subst this;have h':orElse (intBin b k mm nn) (evBin2 P b t (nilKind P t) (.int k mm) (.int k nn))=some r:=h;cases hi:intBin b k mm nn with
   |none=>rw[hi] at h';exact two hx hy h'
   |some q=>
    rw[hi] at h';have hq:q=r:=Option.some.inj h';subst hq;obtain⟨h1,h2⟩:=HC (P:=P) hi t w;refine⟨?_,VR.flat _ h2⟩;rw[Sem.run_bind,xF (by rfl)];exact h1
 ·cases hc:nilCmp (nilKind P t) x y with
  |true=>
   rw[hc] at h;obtain⟨h1,h2⟩:=QA (P:=P) (t:=t) J hx hy hc (show evNil b=some r from h) xo yo w;exact⟨h1,VR.flat _ h2⟩
  |false=>rw[hc] at h;exact two hx hy h
end Go.Proofs.YtjkdkpckjgaplaaGreat.Ev
namespace Go.Proofs.YtjkdkpckjgaplaaGreat.Ev
open Go Go.RowKit
variable{v u r:Value}{P:Program}{m:Mp}{w:World}{e:Nat}
def VO(m:Mp):Option Value->Option Value->Prop
 |none,v=>v=none
 |some u,v=>∃u',v=some u'/\VR m u u'
theorem HE{n:Nat}(h:natOf v=some n):∃k,v = .int k (.ofNat n):=by
 unfold natOf at h;split at h
 ·rename_i k j;cases h;exact⟨k,rfl⟩
 ·cases h
theorem mR{n y:Nat}(hv:VR m v u)(h:natOf v=some n)(hle:n<=y)(code:BoundsCode)(w:World):(Instr.sliceBound u y code).run P w = .ok n w:=by
 obtain⟨k,rfl⟩:=HE h;have:=hv.int_inv;subst this;simp[Instr.sliceBound,asIntOf,hle]
theorem lD{lo hi mx lo' hi' mx':Option Value}{len cap l h:Nat}{M:Option Nat}(h1:VO m lo lo')(h2:VO m hi hi')(h3:VO m mx mx')(b1:bnd 0 lo=some l)(b2:bnd len hi=some h)(b3:evMx mx=some M)
 (hx:mx.isNone=true∨hi.isSome=true) (hl:l<=h) (hh:hi.isSome=true->h<=M.getD cap) (hM:∀n,M=some n->n<=cap) (w:World) :
 (Instr.sliceBounds true len cap lo' hi' mx').run P w = .ok (l,h,M.getD cap) w:=by
 cases mx with
 |none=>
  simp only[VO] at h3;subst h3;simp only[evMx,Option.some.injEq] at b3;subst b3;cases hi with
  |none=>
   simp only[VO] at h2;subst h2;simp only[bnd,Option.some.injEq] at b2;subst b2;cases lo with
   |none=>simp only[VO] at h1;subst h1;simp only[bnd,Option.some.injEq] at b1;subst b1;simp[Instr.sliceBounds]
   |some v=>obtain⟨u,rfl,hv⟩:=h1;simp[Instr.sliceBounds,mR hv (show natOf v=some l from b1) hl]
  |some a=>
   obtain⟨a',rfl,ha⟩:=h2;have e2:=fun c=>mR (P:=P) ha (show natOf a=some h from b2) (show h<=cap from hh rfl) c w
   cases lo with
   |none=>simp only[VO] at h1;subst h1;simp only[bnd,Option.some.injEq] at b1;subst b1;simp[Instr.sliceBounds,e2]
   |some v=>obtain⟨u,rfl,hv⟩:=h1;simp[Instr.sliceBounds,e2,mR hv (show natOf v=some l from b1) hl]
 |some q=>
  obtain⟨q',rfl,hq⟩:=h3;cases hn:natOf q with
  |none=>simp[evMx,hn] at b3
  |some n=>
   simp only[evMx,hn,Option.map_some,Option.some.injEq] at b3;subst b3;have e3:=fun c=>mR (P:=P) hq hn (hM n rfl) c w
   rcases hx with hx|hx
   ·cases hx
   cases hi with
   |none=>cases hx
   |some a=>
    obtain⟨a',rfl,ha⟩:=h2;have e2:=fun c=>mR (P:=P) ha (show natOf a=some h from b2) (show h<=n from hh rfl) c w
    cases lo with
    |none=>simp only[VO] at h1;subst h1;simp only[bnd,Option.some.injEq] at b1;subst b1;simp[Instr.sliceBounds,e2,e3]
    |some v=>obtain⟨u,rfl,hv⟩:=h1;simp[Instr.sliceBounds,e2,e3,mR hv (show natOf v=some l from b1) hl]
theorem cV{α:Type}{b:Bool}{x:Option α}{v:α}(h:sel b x none=some v):b=true/\x=some v:=by cases b <;> simp_all [sel]
theorem tK{α:Type}(b:Bool)(x y:α):sel b x y=if b=true then x else y:=by cases b <;> rfl
theorem QC{K:Kp}{B:Nat}{s:St}{t e:Nat}{i:TypeInfo}{x u r:Value}{lo hi mx lo' hi' mx':Option Value}(ht:P.underlying t=some (.slice e))(hin:P.info? e=some i)(hx:mx.isNone=true∨hi.isSome=true)
 (E:dO P K B m s w) (hv:VR m x u) (h1:VO m lo lo') (h2:VO m hi hi') (h3:VO m mx mx') (h:evSlc (iW s) e i.size x lo hi mx=some r) :
 ∃r',(Instr.slice t u lo' hi' mx').run P w = .ok r' w/\VR m r r':=by
 unfold evSlc at h;split at h
 ·rename_i b off len cap
  split at h
  ·rename_i l hh M b1 b2 b3
   rw[tK] at h;split at h
   ·-- an open row
    rename_i hop
    have hop':OPEN<=cap:=by simpa using hop
    split at h
    ·rename_i k e' op hrow
     obtain⟨hc,hS⟩:=cV h;clear h;simp only[Bool.and_eq_true,Bool.or_eq_true,Bool.not_eq_true',Nat.beq_eq] at hc;obtain⟨⟨⟨⟨hop1,hee⟩,hoff⟩,hsz⟩,hj⟩:=hc;have hee':e=e':=by simpa using hee
     subst hee';have hsz':i.size≠0:=by intro h0;rw[h0] at hsz;simp at hsz
     have hoff':off=(cap-OPEN)*i.size:=by simpa using hoff
     obtain⟨N,c,hg,hN⟩:∃N c,s.h.get b=some (.cells N c e true)/\N=k:=by
      unfold iW at hrow;split at hrow
      ·rename_i n c e2 op2 hg
       simp only[Option.some.injEq,Prod.mk.injEq] at hrow;obtain⟨rfl,rfl,rfl⟩:=hrow;subst hop1;exact⟨_,_,hg,rfl⟩
      ·cases hrow
     subst hN;have hcell:P.cellsOf e=i.size:=by simp[Program.cellsOf,hin]
     have hj':cap=OPEN∨len≠0:=by
      rcases hj with h0|h0
      ·exact .inl (by simpa using h0)
      ·exact .inr (by intro h5;rw[h5] at h0;simp at h0)
     obtain⟨X,y,hm,hu⟩:∃X y,m b=some (X,y)/\u = .slice (some ⟨X,off,none⟩) len (y-(cap-OPEN)):=by
      rcases hv.slice_inv with ⟨h5,_⟩|⟨_,_,X,y,h5,h6⟩|⟨h5,h6,_⟩
      ·omega
      ·exact⟨X,y,h5,h6⟩
      ·rcases hj' with h7|h7 <;> omega
     subst hu;obtain⟨o',_,cs,rfl,hNs,_,hopn,_⟩:=E.obj b X y _ hm hg;obtain⟨X2,y2,hm2,hy⟩:=hopn rfl;rw[hm] at hm2;cases hm2;rw[hcell] at hy;obtain⟨j,hjd⟩:∃j,cap-OPEN=j:=⟨_,rfl⟩;rw[hjd] at hS hoff' ⊢;have fit:∀n,n*i.size<=N->n<=y:=fun n hn=>Nat.le_of_mul_le_mul_right (by omega:n*i.size<=y*i.size) oM
     unfold evSlcOpen at hS;cases M with
     |none=>
      obtain⟨hd,hq⟩:=cV hS;simp only[Bool.and_eq_true,Nat.ble_eq] at hd;have hfit:=fit (j+hh) hd.2;have hq:=Option.some.inj hq;subst hq;have hr:=lD (P:=P) (cap:=y-j) h1 h2 h3 b1 b2 b3 hx hd.1 (fun _=>by show hh<=y-j;omega) (fun n hn=>by cases hn) w;refine⟨.slice (some (if y-j=l then ⟨X,off,none⟩ else (⟨X,off,none⟩:Addr).add (l*i.size))) (hh-l) (y-j-l),?_,?_⟩
      ·simp only[Instr.slice,Sem.run_bind,Y5 ht,Result.andThen_ok,hr,bQ hin,Option.getD_none]
       split <;> simp_all
      ·simp only[VR]
       refine⟨trivial,?_⟩;rw[if_neg oM];by_cases h0:j+l=0∨hh-l≠0
       ·rw[if_pos (by
         rcases h0 with h0|h0;· left;omega
         ·right;exact h0)]
        refine⟨X,y,hm,?_⟩;have e1:OPEN+(j+l)-OPEN=j+l:=oM
        rw[e1];by_cases hml:y-j=l
        ·have:l=0/\j=0:=oM
         obtain⟨rfl,rfl⟩:=this;rw[if_pos hml,hoff'];simp
        ·rw[if_neg hml,fA,hoff',Nat.add_mul,show y-j-l=y-(j+l) by omega]
       ·rw[if_neg oM]
        have:hh-l=0:=oM
        exact⟨_,_,by rw[this]⟩
     |some M=>
      obtain⟨hd,hq⟩:=cV hS;simp only[Bool.and_eq_true,Nat.ble_eq,Nat.blt_eq] at hd;have hfit:=fit (j+M) hd.2;have hq:=Option.some.inj hq;subst hq;have hr:=lD (P:=P) (cap:=y-j) h1 h2 h3 b1 b2 b3 hx hd.1.1.1 (fun _=>hd.1.1.2) (fun n hn=>by cases hn;omega) w;refine⟨.slice (some (if M=l then ⟨X,off,none⟩ else (⟨X,off,none⟩:Addr).add (l*i.size))) (hh-l) (M-l),?_,?_⟩
      ·simp only[Instr.slice,Sem.run_bind,Y5 ht,Result.andThen_ok,hr,bQ hin,Option.getD_some]
       split <;> simp_all
      ·simp only[VR]
       refine⟨trivial,?_⟩;rw[if_pos oM];refine⟨X,y,hm,?_⟩;rw[tK];by_cases hml:M=l
       ·rw[if_pos hml,if_pos (by simpa using hml),hoff']
       ·rw[if_neg hml,if_neg (by simpa using hml),fA,hoff',Nat.add_mul]
    ·cases h
   ·-- a row whose cap is known
    rename_i hop
    have hop':cap<OPEN:=by
     have:¬OPEN<=cap:=by simpa using hop
     omega
    obtain⟨hhc,h⟩:=cV h;have hhc':hh<=cap:=by simpa using hhc
    obtain⟨X,y,hm,hu⟩:∃X y,m b=some (X,y)/\u = .slice (some ⟨X,off,none⟩) len cap:=by
     rcases hv.slice_inv with ⟨_,X,y,h5,h6⟩|⟨h5,_⟩|⟨h5,_⟩
     ·exact⟨X,y,h5,h6⟩
     ·omega
     ·omega
    subst hu;unfold evSlcAt at h;cases M with
    |none=>
     obtain⟨hc,h⟩:=cV h;have hc':l<=hh:=by simpa using hc
     cases h;have hr:=lD (P:=P) (cap:=cap) h1 h2 h3 b1 b2 b3 hx hc' (fun _=>hhc') (fun n hn=>by cases hn) w;refine⟨.slice (some (if cap=l then ⟨X,off,none⟩ else (⟨X,off,none⟩:Addr).add (l*i.size))) (hh-l) (cap-l),?_,?_⟩
     ·simp only[Instr.slice,Sem.run_bind,Y5 ht,Result.andThen_ok,hr,bQ hin,Option.getD_none]
      split <;> simp_all
     ·simp only[VR]
      refine⟨trivial,?_⟩;rw[if_pos oM];refine⟨X,y,hm,?_⟩;rw[tK];by_cases hml:cap=l
      ·rw[if_pos hml,if_pos (by simpa using hml)]
      ·rw[if_neg hml,if_neg (by simpa using hml),fA]
    |some M=>
     obtain⟨hc,h⟩:=cV h;simp only[Bool.and_eq_true,Nat.ble_eq] at hc;cases h;have hr:=lD (P:=P) (cap:=cap) h1 h2 h3 b1 b2 b3 hx hc.1.1 (fun _=>hc.1.2) (fun n hn=>by cases hn;exact hc.2) w;refine⟨.slice (some (if M=l then ⟨X,off,none⟩ else (⟨X,off,none⟩:Addr).add (l*i.size))) (hh-l) (M-l),?_,?_⟩
     ·simp only[Instr.slice,Sem.run_bind,Y5 ht,Result.andThen_ok,hr,bQ hin,Option.getD_some]
      split <;> simp_all
     ·simp only[VR]
      refine⟨trivial,?_⟩;rw[if_pos oM];refine⟨X,y,hm,?_⟩;rw[tK];by_cases hml:M=l
      ·rw[if_pos hml,if_pos (by simpa using hml)]
      ·rw[if_neg hml,if_neg (by simpa using hml),fA]
  ·cases h
 ·-- nil
  have hu:=hv.slice_none;subst hu;split at h
  ·rename_i b1 b2 b3
   cases h;have hr:=lD (P:=P) (len:=0) (cap:=0) h1 h2 h3 b1 b2 b3 hx (Nat.le_refl 0) (fun _=>Nat.le_refl _) (fun n hn=>by cases hn) w;refine⟨.slice none 0 0,?_,by simp only[VR];exact⟨dE,trivial⟩⟩;simp only[Instr.slice,Sem.run_bind,Y5 ht,Result.andThen_ok,hr,bQ hin,Option.getD_none];rfl
  ·rename_i b1 b2 b3
   cases h;have hr:=lD (P:=P) (len:=0) (cap:=0) h1 h2 h3 b1 b2 b3 hx (Nat.le_refl 0) (fun _=>Nat.le_refl _) (fun n hn=>by cases hn;exact Nat.le_refl _) w;refine⟨.slice none 0 0,?_,by simp only[VR];exact⟨dE,trivial⟩⟩;simp only[Instr.slice,Sem.run_bind,Y5 ht,Result.andThen_ok,hr,bQ hin,Option.getD_some];rfl
  ·cases h
 ·cases h
theorem QD{s:St}{ts:Array Nat}{t0 e:Nat}{k:Value->St->Bool}{ty:Nat}(h0:ts[0]? = some t0)(ht:P.underlying t0=some (.slice e))(hv:VR m v u)
 (hk:fX v (fun n _=>k (.int .i64 (.ofNat n)) s) (fun _ _ n _=>k (.int .i64 (.ofNat n)) s)=true) :
 ∃r,k r s=true/\(Builtin.len_ ts ty #[u]).run P w = .ok r w/\VR m r r:=by
 have run:∀a n c,(Builtin.len_ ts ty #[.slice a n c]).run P w = .ok (.int .i64 n) w:=by
  intro a n c;simp[Builtin.len_,h0,Y5 ht,goInt]
 rcases gK hk with ⟨n,c,rfl,hk⟩|⟨b,o,n,c,rfl,hk⟩
 ·have:=hv.slice_none;subst this
  exact⟨_,hk,run _ _ _,by simp only[VR]⟩
 ·refine⟨_,hk,?_,by simp only[VR]⟩
  rcases hv.slice_inv with ⟨_,X,y,_,rfl⟩|⟨_,_,X,y,_,rfl⟩|⟨_,rfl,a,c',rfl⟩
  ·exact run _ _ _
  ·exact run _ _ _
  ·exact run _ _ _
theorem QE{ts:Array Nat}{t0 e:Nat}{ty:Nat}(h0:ts[0]? = some t0)(ht:P.underlying t0=some (.slice e))(hv:VR m v u)(h:evCap v=some r) :
 (Builtin.cap_ ts ty #[u]).run P w = .ok r w/\VR m r r:=by
 have run:∀a n c,(Builtin.cap_ ts ty #[.slice a n c]).run P w = .ok (.int .i64 c) w:=by
  intro a n c;simp[Builtin.cap_,h0,Y5 ht,goInt]
 unfold evCap at h;split at h
 ·rename_i a n c
  rw[tK] at h;split at h
  ·cases h
  ·rename_i hc
   have hc':c<OPEN:=by
    have:¬OPEN<=c:=by simpa using hc
    omega
   cases h;refine⟨?_,by simp only[VR]⟩;cases a with
   |none=>have:=hv.slice_none;subst this;exact run _ _ _
   |some a=>
    simp only[VR] at hv;have hv:=hv.2;rw[if_pos hc'] at hv;obtain⟨X,y,_,rfl⟩:=hv;exact run _ _ _
 ·cases h
theorem MB(hv:VR m v u)(h:evNilc v=some r):(∃a,u = .pointer (some a))∨∃f p c,u = .func (.func f) p c:=by
 unfold evNilc at h;split at h
 ·obtain⟨a,rfl⟩:=hv.ptr_some;exact .inl ⟨a,rfl⟩
 ·simp only[VR] at hv
  obtain⟨p',c',rfl,_⟩:=hv;exact .inr ⟨_,_,_,rfl⟩
 ·cases h
end Go.Proofs.YtjkdkpckjgaplaaGreat.Ev
namespace Go.Proofs.YtjkdkpckjgaplaaGreat.Ev
open Go Go.RowKit
variable{P:Program}{K:Kp}{B e:Nat}{m:Mp}{s:St}{w:World}{i:TypeInfo}{k:Value->St->Bool}{u:Value}
theorem cZ(z:List Value):∀c,(repeatN z c).length=c*z.length
 |0=>by simp[repeatN]
 |c+1=>by simp[repeatN,cZ z c,Nat.add_mul];omega
theorem xG(z:List Value):∀(c j:Nat),j<c*z.length->(repeatN z c)[j]? = z[j % z.length]?
 |0,j,h=>by simp at h
 |c+1,j,h=>by
  simp only[repeatN];by_cases hj:j<z.length
  ·rw[List.getElem?_append_left hj,Nat.mod_eq_of_lt hj]
  ·have h1:z.length<=j:=oM
   have h2:j-z.length<c*z.length:=by rw[Nat.add_mul] at h;omega
   rw[List.getElem?_append_right h1,xG z c _ h2,Nat.mod_eq_sub_mod h1]
theorem iJ{z:List Value}(h:flatL z=true):∀c,flatL (repeatN z c)=true:=by
 have app:∀(a b:List Value),flatL a=true->flatL b=true->flatL (a++b)=true:=by
  intro a
  induction a with
  |nil=>intro b _ hb;exact hb
  |cons x a ih=>
   intro b ha hb;simp only[List.cons_append,flatL,Bool.and_eq_true] at ha ⊢;exact⟨ha.1,ih b ha.2 hb⟩
 intro c
 induction c with
 |zero=>rfl
 |succ c ih=>exact app z _ h ih
theorem kD{z:List Value}(h:∀v∈z,oneCell v=true)(c:Nat):∀v∈repeatN z c,oneCell v=true:=by
 induction c with
 |zero=>intro v hv;cases hv
 |succ c ih=>
  intro v hv;rcases List.mem_append.1 hv with hv|hv
  ·exact h v hv
  ·exact ih v hv
theorem lQ(z:Array Value)(c:Nat):((Array.range (c*z.size)).map (fun j=>z[j % z.size]!))=⟨repeatN z.toList c⟩:=by
 apply Array.ext'
 simp only[Array.toList_map,Array.toList_range]
 apply List.ext_getElem?
 intro j;have hl:z.toList.length=z.size:=rfl;by_cases hj:j<c*z.size
 ·rw[xG z.toList c j (by rw[hl];exact hj)]
  have h0:0<z.size:=by
   rcases Nat.eq_zero_or_pos z.size with h|h;· rw[h] at hj;simp at hj
   ·exact h
  have hm:j % z.size<z.size:=Nat.mod_lt _ h0;simp[hj,hm]
 ·rw[List.getElem?_eq_none (by simp;omega),List.getElem?_eq_none (by rw[cZ,hl];omega)]
theorem kL{l:List Value}{k:BT Value->Bool}(h:eY .leaf 0 l k=true):∃c,k c=true/\∀j v,c.get j=some v->l[j]? = some v:=by
 obtain⟨c,hk,_,hc⟩:=vX h;refine⟨c,hk,fun j v hj=>?_⟩;rw[hc] at hj;by_cases h0:0<=j/\j<0+l.length
 ·rw[if_pos h0] at hj;simpa using hj
 ·rw[if_neg h0] at hj;simp[BT.get] at hj
theorem QF{t e:Nat}{z:Array Value}{a a' b b':Value}(ht:P.underlying t=some (.slice e))(hi:P.info? e=some i)(hz:zeroOf P e=some z)(hs:z.size=i.size)
 (E:dO P K B m s w) (ha:VR m a a') (hb:VR m b b') (hk:C7 s e i.size i.bytes z.toList a b k=true) :
 ∃r s',k r s'=true/\∃m' w' r',(Instr.makeSlice t a' b').run P w = .ok r' w'/\m.le m'/\dO P K B m' s' w'/\Below B w w'/\VR m' r r':=by
 obtain⟨i',v,hi2,hv,hvz,hf,h1⟩:=fB hz;rw[hi] at hi2;cases hi2;unfold C7 at hk;obtain⟨ka,na,rfl,hk⟩:=vZ hk;obtain⟨kb,nb,rfl,hk1⟩:=vZ hk;clear hk;obtain⟨h2,hk2⟩:=Z5 hk1;clear hk1;obtain⟨h3,hk3⟩:=Z5 hk2;clear hk2;have:=kC h2;subst this;have:=kC h3;subst this;obtain⟨_,l,hl,hk4⟩:=kB hk3;clear hk3;cases hl;obtain⟨_,c,hc,hk5⟩:=kB hk4;clear hk4;cases hc;obtain⟨h4,hk6⟩:=Z5 hk5;clear hk5;obtain⟨h5,hk7⟩:=Z5 hk6;clear hk6;obtain⟨h6,hk8⟩:=Z5 hk7;clear hk7;have h4':l<=c:=by simpa using h4
 have h5':c<=1048576:=by simpa using h5
 have h6':i.bytes*c<=1073741824:=by simpa using h6
 obtain⟨tr,hk9,htr⟩:=kL hk8;have hk10:=gM hk9;rw[bG] at hk10;have hr:OR P (m.put s.n w.heap.size 0) s.n (.cells (Nat.mul c i.size) tr e false) (.cells ⟨repeatN z.toList c⟩ e (0,0)):=
  sF htr (LR.flat _ (iJ hf c)) (kD h1 c) (by rw[cZ];show c*i.size=c*z.size;rw[hs])
 obtain⟨s',hk,hE,hB,hle,_⟩:=rG E 0 hr hk10;have ea:=ha.int_inv;subst ea;have eb:=hb.int_inv;subst eb;refine⟨_,s',hk,_,_,.slice (some ⟨w.heap.size,0,none⟩) l c,?_,hle,hE,hB,?_⟩
 ·have w1:IntKind.i64.wrap (Int.ofNat l)=l:=by
   rw[<-gS];simp only[wrapq];have:fits (Int.ofNat l)=true:=by simp only[fits,Nat.blt_eq];omega
   rw[this];rfl
  have w2:IntKind.i64.wrap (Int.ofNat c)=c:=by
   rw[<-gS];simp only[wrapq];have:fits (Int.ofNat c)=true:=by simp only[fits,Nat.blt_eq];omega
   rw[this];rfl
  have hz2:(if c*i.size=0 then pure #[] else do pure (<-zeroValue e).cells:Sem (Array Value)).run P w = .ok (if c*i.size=0 then #[] else z) w:=by
   by_cases h0:c*i.size=0
   ·rw[if_pos h0,if_pos h0];rfl
   ·rw[if_neg h0,if_neg h0,Sem.run_bind,gD hi hv]
    show Result.ok v.cells w=_;rw[hvz]
  have hcell:(Array.range (c*i.size)).map (fun j=>(if c*i.size=0 then #[] else z)[j % (if c*i.size=0 then #[] else z).size]!)=⟨repeatN z.toList c⟩:=by
   by_cases h0:c*i.size=0
   ·rw[h0]
    apply Array.ext'
    have:(repeatN z.toList c).length=0:=by rw[cZ];show c*z.size=0;rw[hs];exact h0
    have e0:=List.eq_nil_of_length_eq_zero this;simp only[e0,Array.toList_map,Array.toList_range,List.range_zero,List.map_nil]
   ·rw[if_neg h0,<-hs];exact lQ z c
  have hb1:¬(i.bytes:Int)*(c:Int)>2 ^ 48:=by
   rw[<-Int.natCast_mul];omega
  have hc0:¬((c:Int)<0):=oM
  have hl0:¬((l:Int)<0):=oM
  have hlc:¬((l:Int)>(c:Int)):=oM
  unfold Instr.makeSlice;simp only[Sem.run_bind,Y5 ht,Result.andThen_ok,asInt,asIntOf,Sem.run_pure,fO hi,w1,w2];rw[if_neg (by simp only[hc0,hl0,hlc,hb1,decide_false,Bool.or_self,Bool.false_eq_true,not_false_eq_true])];simp only[Sem.run_bind,run_askRoom,bQ hi,Result.andThen_ok,Int.toNat_natCast,Sem.run_ite];by_cases h0:c*i.size=0
  ·rw[if_pos h0]
   rw[if_pos h0] at hcell;simp only[Sem.run_bind,Sem.run_pure,Result.andThen_ok,newRow,run_newObj];rw[hcell];rfl
  ·rw[if_neg h0]
   rw[if_neg h0] at hcell;simp only[Sem.run_bind,Sem.run_pure,Result.andThen_ok,newRow,run_newObj,gD hi hv,hvz];rw[hcell];rfl
 ·simp only[VR]
  refine⟨trivial,?_⟩;rw[if_pos (by unfold OPEN;omega)];exact⟨_,_,Mp.put_same _ _ _ _,rfl⟩
theorem It{ts:Array Nat}{t0 e ty:Nat}{z:Array Value}{x u:Value}(h0:ts[0]? = some t0)(ht:P.underlying t0=some (.slice e))(hi:P.info? e=some i)(hz:zeroOf P e=some z)(hs:z.size=i.size)
 (E:dO P K B m s w) (hx:VR m x u) (hk:B7 s i.size z.toList x k=true) :
 ∃s',k (.tuple #[]) s'=true/\∃w',(Builtin.clear_ ts ty #[u]).run P w = .ok (.tuple #[]) w'/\dO P K B m s' w'/\Below B w w':=by
 obtain⟨i',v,hi2,hv,hvz,hf,h1⟩:=fB hz;rw[hi] at hi2;cases hi2;unfold B7 at hk;have zero:∀a c,(Builtin.clear_ ts ty #[.slice a 0 c]).run P w = .ok (.tuple #[]) w:=by
  intro a c;cases a <;> simp[Builtin.clear_,h0,Y5 ht]
 rcases gK hk with ⟨n,c,rfl,hk1⟩|⟨b,off,n,c,rfl,hk1⟩
 ·have:=hx.slice_none;subst this
  exact⟨s,hk1,w,by simp[Builtin.clear_,h0,Y5 ht],E,Below.refl _ _⟩
 ·rcases mX hk1 with ⟨hn,hk2⟩|⟨hn,hk2⟩
  ·have hn':n=0:=by simpa using hn
   subst hn';refine⟨s,hk2,w,?_,E,Below.refl _ _⟩;rcases hx.slice_inv with ⟨_,X,y,_,rfl⟩|⟨_,_,X,y,_,rfl⟩|⟨_,_,a,c',rfl⟩ <;> exact zero _ _
  ·have hn':n≠0:=by intro h;subst h;simp at hn
   obtain⟨X,y,c',hm,rfl⟩:=hx.slice_pos hn';obtain⟨N,tr,e',op,hg,hk3⟩:=zX hk2;obtain⟨hle,hk4⟩:=Z5 hk3;have hle':off+n*i.size<=N:=by simpa using hle
   obtain⟨tr',hk5,_,htr⟩:=lC hk4;obtain⟨h',hk6,_,hh⟩:=eS hk5;have hl:(repeatN z.toList n).length=n*i.size:=by rw[cZ];show n*z.size=_;rw[hs]
   obtain⟨w',hr,hE,hB⟩:=Bu E (off:=off) (l:=repeatN z.toList n) (l':=repeatN z.toList n) hm hg (LR.flat _ (iJ hf n)) (kD h1 n) (by rw[hl];exact hle') htr hh;refine⟨_,hk6,w',?_,hE,hB⟩;obtain⟨n',rfl⟩:∃n',n=n'+1:=⟨n-1,oM⟩;have hzc:Builtin.zeroCells z (n'+1)=⟨repeatN z.toList (n'+1)⟩:=lQ z (n'+1);simp[Builtin.clear_,h0,Y5 ht,gD hi hv,hvz,hzc,hr]
theorem Iu{b off n c j sz:Nat}{k:List Value->Bool}(E:dO P K B m s w)(hv:VR m (.slice (some ⟨b,off,none⟩) n c) u)(hj:j<=n)
 (hk:tH s b (fun tr=>mJ tr off (j*sz) k) (fun g=>fY g off (j*sz) k)=true):∃f l l',wB s b f/\k l=true/\l.length=j*sz/\(∀i,i<j*sz->f (off+i)=l[i]?)/\LR m l l'/\(Builtin.firstCells sz j u).run P w = .ok ⟨l'⟩ w:=by
 obtain⟨f,l,hf,hk,hl,hc⟩:=zZ hk;by_cases hn:n=0
 ·subst hn
  have hj0:j=0:=oM
  subst hj0;have:l=[]:=List.eq_nil_of_length_eq_zero (by simpa using hl);subst this;refine⟨f,[],[],hf,hk,sM,fun i hi=>by simp at hi,by simp only[LR],?_⟩;rcases hv.slice_inv with ⟨_,X,y,_,rfl⟩|⟨_,_,X,y,_,rfl⟩|⟨_,_,a,c',rfl⟩ <;> simp[Builtin.firstCells,loadCells,loadCellsFrom]
 ·obtain⟨X,y,c',hm,rfl⟩:=hv.slice_pos hn
  obtain⟨cs,e,fr,ho,hcs1⟩:=E.sees hm hf;have hcs:∀j v,f j=some v->∃v',cs[j]? = some v'/\VR m v v':=fun j v hj=>(hcs1 j v hj).2
  obtain⟨l',h4,h5,h6⟩:=yI (off:=off) hcs (by rw[hl];exact hc);refine⟨f,l,l',hf,hk,hl,hc,h5,?_⟩;have:=run_loadCells_list (P:=P) w ⟨X,off,none⟩ l' (fun i v hi=>by rw[fA,sE ho];exact h6 i v hi);rw[h4,hl] at this;simpa [Builtin.firstCells] using this
theorem Cd(E:dO P K B m s w){b X y off:Nat}{f:Nat->Option Value}{l:List Value}(hm:m b=some (X,y))(hg:wB s b f)(hc:∀j,j<l.length->f (off+j)=l[j]?) :
 ∀v∈l,oneCell v=true:=by
 obtain⟨cs,_,_,_,hon⟩:=E.sees hm hg;intro v hv;obtain⟨j,hj,rfl⟩:=List.getElem_of_mem hv;exact(hon (off+j) _ (by rw[hc j hj];exact List.getElem?_eq_getElem hj)).1
theorem MC{ts:Array Nat}{t0 e ty:Nat}{x y u v:Value}(h0:ts[0]? = some t0)(ht:P.underlying t0=some (.slice e))(hi:P.info? e=some i)
 (E:dO P K B m s w) (hx:VR m x u) (hy:VR m y v) (hk:Fq s i.size x y k=true) :
 ∃r s',k r s'=true/\∃w',(Builtin.copy_ ts ty #[u,v]).run P w = .ok r w'/\dO P K B m s' w'/\Below B w w'/\VR m r r:=by
 unfold Fq at hk;have z:∀(a a':Option Addr) (n n' c c':Nat),(n=0∨n'=0)->(Builtin.copy_ ts ty #[.slice a n c,.slice a' n' c']).run P w = .ok (.int .i64 0) w:=by
  intro a a' n n' c c' h;have hm:Nat.min n' n=0:=by rcases h with rfl|rfl <;> simp
  have hf:(Builtin.firstCells i.size 0 (.slice a' n' c')).run P w = .ok #[] w:=by cases a' <;> simp[Builtin.firstCells,loadCells,loadCellsFrom]
  cases a <;> simp[Builtin.copy_,h0,Y5 ht,Builtin.lenOf,hm,bQ hi,hf,goInt,storeCells]
 rcases gK hk with ⟨n,c,rfl,hk1⟩|⟨b,off,n,c,rfl,hk1⟩
 ·obtain⟨hn,hk2⟩:=Z5 hk1
  have hn':n=0:=by simpa using hn
  subst hn';have:=hx.slice_none;subst this;rcases gK hk2 with ⟨n2,c2,rfl,hk3⟩|⟨b,off,n2,c2,rfl,hk3⟩
  ·have:=hy.slice_none;subst this
   exact⟨_,s,hk3,w,z _ _ _ _ _ _ (.inl rfl),E,Below.refl _ _,by simp only[VR]⟩
  ·obtain⟨a',n',c',rfl⟩:=hy.slice_some
   exact⟨_,s,hk3,w,z _ _ _ _ _ _ (.inl rfl),E,Below.refl _ _,by simp only[VR]⟩
 ·rcases gK hk1 with ⟨n2,c2,rfl,hk2⟩|⟨b',off',n2,c2,rfl,hk2⟩
  ·obtain⟨hn,hk3⟩:=Z5 hk2
   have hn':n2=0:=by simpa using hn
   subst hn';have:=hy.slice_none;subst this;obtain⟨a',n',c',rfl⟩:=hx.slice_some;exact⟨_,s,hk3,w,z _ _ _ _ _ _ (.inr rfl),E,Below.refl _ _,by simp only[VR]⟩
  ·obtain⟨j,hj,hk3⟩:∃j,j=Nat.min n2 n/\ifB (Nat.beq j 0) (k (.int .i64 (.ofNat 0)) s) (C4 s b (fun m c e op=>Fp (fun h=>tH s b' (fun c'=>mJ c' off' (Nat.mul j i.size) h) (fun g=>fY g off' (Nat.mul j i.size) h)) (fun l=>
    ifB (Nat.ble (Nat.add off (Nat.mul j i.size)) m) (fM c off l (fun c=>dI s b (.cells m c e op) (k (.int .i64 (.ofNat j))))) false)))=true:=by
    rcases mX (show ifB (Nat.ble n2 n) _ _=true from hk2) with ⟨h5,h6⟩|⟨h5,h6⟩
    ·have:n2<=n:=by simpa using h5
     exact⟨n2,(Nat.min_eq_left this).symm,h6⟩
    ·have:¬n2<=n:=by intro h7;rw[<-Nat.ble_eq] at h7;rw[h7] at h5;cases h5
     exact⟨n,(Nat.min_eq_right oM).symm,h6⟩
   rcases mX hk3 with ⟨hz,hk4⟩|⟨hz,hk4⟩
   ·have hz':j=0:=by simpa using hz
    have hzero:n=0∨n2=0:=by
     rw[hz'] at hj;rcases Nat.le_total n2 n with h5|h5
     ·right;have:Nat.min n2 n=n2:=Nat.min_eq_left h5;omega
     ·left;have:Nat.min n2 n=n:=Nat.min_eq_right h5;omega
    have sl:∀{b off n c:Nat} {u:Value},VR m (.slice (some ⟨b,off,none⟩) n c) u->∃a c',u = .slice (some a) n c':=by
     intro b off n c u h;rcases h.slice_inv with ⟨_,X,y,_,rfl⟩|⟨_,_,X,y,_,rfl⟩|⟨_,rfl,a,c',rfl⟩
     ·exact⟨_,_,rfl⟩
     ·exact⟨_,_,rfl⟩
     ·exact⟨_,_,rfl⟩
    obtain⟨a,ca,rfl⟩:=sl hx;obtain⟨a',ca',rfl⟩:=sl hy;exact⟨_,s,hk4,w,z _ _ _ _ _ _ hzero,E,Below.refl _ _,by simp only[VR]⟩
   ·have hz':j≠0:=by intro h;subst h;simp at hz
    have hjn:j<=n:=by rw[hj];exact Nat.min_le_right _ _
    have hjn2:j<=n2:=by rw[hj];exact Nat.min_le_left _ _
    obtain⟨N,tr,e1,op,hg,hk5⟩:=zX hk4;obtain⟨X',y',c',hm',_⟩:=hy.slice_pos oM;obtain⟨f,l,l',hg',hk8,hll,hc,hlr,hrun⟩:=Iu E hy hjn2 hk5;obtain⟨hle,hk9⟩:=Z5 hk8;have hle':off+j*i.size<=N:=by simpa using hle
    obtain⟨tr2,hk10,_,htr⟩:=lC hk9;obtain⟨h',hk11,_,hh⟩:=eS hk10;obtain⟨X,y,cx,hm,rfl⟩:=hx.slice_pos oM;obtain⟨w',hr,hE,hB⟩:=Bu E (off:=off) (l:=l) (l':=l') hm hg hlr (Cd E hm' hg' (by rw[hll];exact hc)) (by rw[hll];exact hle') htr hh;refine⟨_,_,hk11,w',?_,hE,hB,by simp only[VR]⟩;obtain⟨a',n',ca',rfl⟩:=hy.slice_some;have hlen:(Builtin.lenOf (.slice (some a') n' ca')).run P w = .ok n2 w:=by
     rcases hy.slice_inv with ⟨_,X,y,_,e⟩|⟨_,_,X,y,_,e⟩|⟨_,h,a,c',e⟩
     ·cases e;rfl
     ·cases e;rfl
     ·omega
    simp[Builtin.copy_,h0,Y5 ht,hlen,<-hj,bQ hi,hrun,hr,goInt]
end Go.Proofs.YtjkdkpckjgaplaaGreat.Ev
namespace Go.Proofs.YtjkdkpckjgaplaaGreat.Ev
open Go Go.RowKit
variable{P:Program}{e ty n B:Nat}{i:TypeInfo}{z:Array Value}{zv x:Value}{ts:Array Nat}{w:World}{new:List Value}{K:Kp}{m:Mp}{s:St}
inductive HF(P:Program)(e:Nat)(i:TypeInfo)(z:Array Value)(ts:Array Nat)(w:World):Value->Nat->List Value->Prop where
 |ints {t1:Nat} {k:IntKind} {n:Nat} (h1:ts[1]? = some t1) (h2:P.underlying t1=some (.int k)) (hn:n<=1048576):HF P e i z ts w (.int .i64 (.ofNat n)) n (repeatN z.toList n)
 |row {t1 e1:Nat} {x:Value} {n:Nat} {new:List Value} (h1:ts[1]? = some t1) (h2:P.underlying t1=some (.slice e1)) (h3:∀W:World,(Builtin.lenOf x).run P W = .ok n W) (h4:∀W:World,W.heap=w.heap->(Builtin.firstCells i.size n x).run P W = .ok ⟨new⟩ W):HF P e i z ts w x n new
theorem lJ{e t0 ty:Nat}{w w':World}{n len cap:Nat}{a:Addr}(h0:ts[0]? = some t0)(ht:P.underlying t0=some (.slice e))(hi:P.info? e=some i)
 (hz:i.zero=some zv) (hzv:zv.cells=z) (hzs:z.size=i.size) (hb:i.bytes*n<=1073741824) (hM:HF P e i z ts w x n new) (hc:len+n<=cap) (hs:(storeCells (a.add (len*i.size)) new).run P w = .ok () w') :
 (Builtin.append_ ts ty #[.slice (some a) len cap,x]).run P w = .ok (.slice (some a) (len+n) cap) w':=by
 cases hM with
 |ints h1 h2 hn=>
  have w1:IntKind.i64.wrap (Int.ofNat n)=(n:Int):=by
   rw[<-gS];simp only[wrapq];have:fits (Int.ofNat n)=true:=by simp only[fits,Nat.blt_eq];omega
   rw[this];rfl
  have c1:¬((n:Int)<0):=oM
  have c2:¬((n:Int)*(i.bytes:Int)>2 ^ 48):=by rw[<-Int.natCast_mul,Nat.mul_comm];omega
  have hap:(if n*i.size=0 then pure #[] else do pure (Builtin.zeroCells (<-zeroValue e).cells n):Sem (Array Value)).run P w = .ok ⟨repeatN z.toList n⟩ w:=by
   by_cases hq:n*i.size=0
   ·rw[if_pos hq]
    have:(repeatN z.toList n).length=0:=by rw[cZ];show n*z.size=0;rw[hzs];exact hq
    rw[List.eq_nil_of_length_eq_zero this];rfl
   ·rw[if_neg hq,Sem.run_bind,gD hi hz]
    show Result.ok (Builtin.zeroCells zv.cells n) w=_;rw[hzv];exact congrArg (fun q=>Result.ok q w) (lQ z n)
  unfold Builtin.append_;simp only[h0,h1,List.getElem?_toArray,List.getElem?_cons_zero,List.getElem?_cons_succ,Sem.run_bind,Y5 ht,Y5 h2,bQ hi,Result.andThen_ok,Sem.run_pure,if_true,asInt,asIntOf,w1,if_neg c1,fO hi,if_neg c2,Int.toNat_natCast,if_pos hc];rw[if_neg sM,hap];simp only[Result.andThen_ok,hs]
 |row h1 h2 h3 h4=>
  unfold Builtin.append_;simp only[h0,h1,List.getElem?_toArray,List.getElem?_cons_zero,List.getElem?_cons_succ,Sem.run_bind,Y5 ht,Y5 h2,bQ hi,Result.andThen_ok,Sem.run_pure,Bool.false_eq_true,if_false,h3,if_pos hc,Bool.not_false,if_true,h4 w rfl,hs]
theorem Bv(n:Nat):∀(r c:Nat),c<=2*n+1000->Builtin.growBy n r c<=2*n+1000
 |0,c,h=>h
 |r+1,c,h=>by
  unfold Builtin.growBy;split
  ·exact h
  ·exact Bv n r _ oM
theorem Et{n c:Nat}(h:c<n):Builtin.nextslicecap n c<=2*n+1000:=by
 unfold Builtin.nextslicecap;split
 ·omega
 ·split
  ·omega
  ·exact Bv n 4 c oM
def qQ(w:World)(need cap e:Nat):Nat:=(Question.appendCap need cap e).cut (w.tape w.drawn (.appendCap need cap e))
theorem Iv(w:World)(need cap e:Nat):need<=qQ w need cap e:=by show need<=need+_;omega
theorem Ab{e t0 ty:Nat}{n len cap:Nat}{old new:List Value}{a:Option Addr}(h0:ts[0]? = some t0)(ht:P.underlying t0=some (.slice e))(hi:P.info? e=some i)
 (hz:i.zero=some zv) (hzv:zv.cells=z) (hzs:z.size=i.size) (hln:len+n<=1048576) (hb:i.bytes*(len+n)<=1073741824) (hM:HF P e i z ts w x n new) (hc:cap<len+n) (ho:∀W:World,W.heap=w.heap->(Builtin.firstCells i.size len (.slice a len cap)).run P W = .ok ⟨old⟩ W) :
 (Builtin.append_ ts ty #[.slice a len cap,x]).run P w = .ok (.slice (some ⟨w.heap.size,0,none⟩) (len+n) (qQ w (len+n) cap e))
  (w.drew.alloc (.cells ⟨old++new++repeatN z.toList (qQ w (len+n) cap e-(len+n))⟩ e (0,0))):=by
 have hb1:i.bytes*n<=1073741824:=Nat.le_trans (Nat.mul_le_mul_left _ oM) hb;have hbig:¬(Builtin.nextslicecap (len+n) cap*i.bytes>2 ^ 48):=by
  have h1:=Et hc;have h2:i.bytes<=1073741824:=Nat.le_trans (Nat.le_mul_of_pos_right _ oM) hb;have h3:Builtin.nextslicecap (len+n) cap*i.bytes<=(2*(len+n)+1000)*i.bytes:=Nat.mul_le_mul_right _ h1;have h4:(2*(len+n)+1000)*i.bytes=2*(i.bytes*(len+n))+1000*i.bytes:=by rw[Nat.add_mul,Nat.mul_assoc,Nat.mul_comm (len+n)]
  omega
 have hmax:∀p:Prop,¬(((len+n:Nat):Int)>IntKind.i64.max/\p):=by
  rintro p ⟨h,_⟩;have:IntKind.i64.max=9223372036854775807:=dE
  rw[this] at h;omega
 have hrest:(zeroValue e).run P w.drew = .ok zv w.drew:=gD hi hz _;have hch:(choose (.appendCap (len+n) cap e)).run P w = .ok (qQ w (len+n) cap e) w.drew:=by
  simp[run_choose,Question.forced,qQ]
 have hzr:Builtin.zeroCells zv.cells (qQ w (len+n) cap e-(len+n))=⟨repeatN z.toList (qQ w (len+n) cap e-(len+n))⟩:=by rw[hzv];exact lQ z _
 have happ:(⟨old⟩:Array Value)++⟨new⟩++⟨repeatN z.toList (qQ w (len+n) cap e-(len+n))⟩=⟨old++new++repeatN z.toList (qQ w (len+n) cap e-(len+n))⟩:=sM
 cases hM with
 |ints h1 h2 hn=>
  have w1:IntKind.i64.wrap (Int.ofNat n)=(n:Int):=by
   rw[<-gS];simp only[wrapq];have:fits (Int.ofNat n)=true:=by simp only[fits,Nat.blt_eq];omega
   rw[this];rfl
  have c1:¬((n:Int)<0):=oM
  have c2:¬((n:Int)*(i.bytes:Int)>2 ^ 48):=by rw[<-Int.natCast_mul,Nat.mul_comm];omega
  have hap:∀W:World,(if n*i.size=0 then pure #[] else do pure (Builtin.zeroCells (<-zeroValue e).cells n):Sem (Array Value)).run P W = .ok ⟨repeatN z.toList n⟩ W:=by
   intro W;by_cases hq:n*i.size=0
   ·rw[if_pos hq]
    have:(repeatN z.toList n).length=0:=by rw[cZ];show n*z.size=0;rw[hzs];exact hq
    rw[List.eq_nil_of_length_eq_zero this];rfl
   ·rw[if_neg hq,Sem.run_bind,gD hi hz]
    show Result.ok (Builtin.zeroCells zv.cells n) W=_;rw[hzv];exact congrArg (fun q=>Result.ok q W) (lQ z n)
  unfold Builtin.append_;simp only[h0,h1,List.getElem?_toArray,List.getElem?_cons_zero,List.getElem?_cons_succ,Sem.run_bind,Y5 ht,Y5 h2,bQ hi,Result.andThen_ok,Sem.run_pure,if_true,asInt,asIntOf,w1,if_neg c1,fO hi,if_neg c2,Int.toNat_natCast,if_neg (show ¬len+n<=cap from oM),if_neg (hmax _),if_neg hbig,hch,run_askRoom,ho w.drew rfl];rw[if_neg sM,hap];simp only[Result.andThen_ok,hrest,hzr,newRow,Sem.run_bind,run_newObj,Sem.run_pure,happ];rfl
 |row h1 h2 h3 h4=>
  unfold Builtin.append_;simp only[h0,h1,List.getElem?_toArray,List.getElem?_cons_zero,List.getElem?_cons_succ,Sem.run_bind,Y5 ht,Y5 h2,bQ hi,Result.andThen_ok,Sem.run_pure,Bool.false_eq_true,if_false,h3,if_neg (show ¬len+n<=cap from oM),fO hi,if_neg (hmax _),if_neg hbig,hch,run_askRoom,ho w.drew rfl,Bool.not_false,if_true,h4 w.drew rfl,hrest,hzr,newRow,run_newObj,happ];rfl
theorem MD{ints:Bool}{t1:Nat}{d:TypeDesc}{y v:Value}{k:Nat->List Value->Bool}(hz:zeroOf P e=some z)(hzs:z.size=i.size)(h1:ts[1]? = some t1)(h2:P.underlying t1=some d)
 (hd:(ints=true/\∃q,d = .int q)∨(ints=false/\∃q,d = .slice q)) (E:dO P K B m s w) (hy:VR m y v) (hk:Fm s i.size z.toList ints y k=true) :
 ∃n l l',k n l=true/\HF P e i z ts w v n l'/\LR m l l'/\l.length=n*i.size/\∀u∈l,oneCell u=true:=by
 obtain⟨_,zv,_,_,_,hf,hone⟩:=fB hz;rcases hd with ⟨rfl,q,rfl⟩|⟨rfl,q,rfl⟩
 ·have hk1:tA y (fun i _=>ifB (kindEq i .i64) (uE y (fun n=>ifB (Nat.ble n 1048576) (k n (repeatN z.toList n)) false)) false) false=true:=hk
  obtain⟨ki,n0,rfl,hk2⟩:=vZ hk1;obtain⟨h3,hk3⟩:=Z5 hk2;have:=kC h3;subst this;obtain⟨_,n,hn,hk4⟩:=kB hk3;cases hn;obtain⟨h4,hk5⟩:=Z5 hk4;have h4':n<=1048576:=by simpa using h4
  have:=hy.int_inv;subst this;exact⟨n,_,_,hk5,.ints h1 h2 h4',LR.flat _ (iJ hf n),by rw[cZ];show n*z.size=_;rw[hzs],kD hone n⟩
 ·have hk1:fX y (fun n _=>ifB (Nat.beq n 0) (k 0 []) false) (fun b off n _=>ifB (Nat.beq n 0) (k 0 []) (tH s b (fun c=>mJ c off (Nat.mul n i.size) (fun l=>k n l)) (fun g=>fY g off (Nat.mul n i.size) (fun l=>k n l))))=true:=hk
  rcases gK hk1 with ⟨n,c,rfl,hk2⟩|⟨b,off,n,c,rfl,hk2⟩
  ·obtain⟨h3,hk3⟩:=Z5 hk2
   have h3':n=0:=by simpa using h3
   subst h3';have:=hy.slice_none;subst this;exact⟨0,[],[],hk3,.row h1 h2 (fun W=>rfl) (fun W _=>rfl),by simp only[LR],sM,sM⟩
  ·rcases mX hk2 with ⟨h0,hk4⟩|⟨h0,hk2⟩
   ·have h0':n=0:=by simpa using h0
    subst h0';obtain⟨a',n',c',rfl⟩:=hy.slice_some;have hn':n'=0:=by
     rcases hy.slice_inv with ⟨_,X,y,_,e⟩|⟨_,_,X,y,_,e⟩|⟨_,h,a,c',e⟩ <;> cases e <;> rfl
    subst hn';exact⟨0,[],[],hk4,.row h1 h2 (fun W=>rfl) (fun W _=>by simp[Builtin.firstCells,loadCells,loadCellsFrom]),by simp only[LR],sM,sM⟩
   ·have h0':n≠0:=by intro h;subst h;simp at h0
    obtain⟨f,l,hg,hk4,hl,hc⟩:=zZ hk2;obtain⟨X,yy,c',hm,rfl⟩:=hy.slice_pos h0';obtain⟨cs,e,fr,ho,hcs1⟩:=E.sees hm hg;have hcs:∀j v,f j=some v->∃v',cs[j]? = some v'/\VR m v v':=fun j v hj=>(hcs1 j v hj).2
    have hl':l.length=n*i.size:=hl;obtain⟨l',h4,h5,h6⟩:=yI (off:=off) hcs (by rw[hl];exact hc);refine⟨n,l,l',hk4,.row h1 h2 (fun W=>rfl) (fun W hW=>?_),h5,hl',Cd E hm hg (by rw[hl];exact hc)⟩;have:=run_loadCells_list (P:=P) W ⟨X,off,none⟩ l' (fun j v hi=>by rw[fA,sE (by rw[hW];exact ho)];exact h6 j v hi);rw[h4,hl'] at this;simpa [Builtin.firstCells] using this
theorem dO.drew(E:dO P K B m s w):dO P K B m s w.drew:=⟨E.low,E.old,E.obj,E.inj,E.base,E.kept⟩
theorem Eu:Below B w w.drew:=(Below.refl B w).drew
theorem Ac{e t0 ty:Nat}(h0:ts[0]? = some t0)(ht:P.underlying t0=some (.slice e))(hi:P.info? e=some i)
 (hz:i.zero=some zv) (hM:HF P e i z ts w x 0 new):(Builtin.append_ ts ty #[.slice none 0 0,x]).run P w = .ok (.slice none 0 0) w:=by
 cases hM with
 |ints h1 h2 hn=>
  unfold Builtin.append_;simp only[h0,h1,List.getElem?_toArray,List.getElem?_cons_zero,List.getElem?_cons_succ,Sem.run_bind,Y5 ht,Y5 h2,bQ hi,Result.andThen_ok,Sem.run_pure,if_true,asInt,asIntOf];have w1:IntKind.i64.wrap (Int.ofNat 0)=0:=dE
  simp only[w1];simp[fO hi]
 |row h1 h2 h3 h4=>
  unfold Builtin.append_;simp only[h0,h1,List.getElem?_toArray,List.getElem?_cons_zero,List.getElem?_cons_succ,Sem.run_bind,Y5 ht,Y5 h2,bQ hi,Result.andThen_ok,Sem.run_pure,Bool.false_eq_true,if_false,h3,Bool.not_false,if_true];simp[h4 w rfl]
theorem dO.move{w w':World}(E:dO P K B m s w){h2:BT eW}{b X y:Nat}{o c:eW}{o':Obj}(hb:m b=some (X,y))(hc:s.h.get b=some c)(hd:c≠.dead/\∀g,c≠.rom g)
 (hg:∀j,h2.get j=if j=s.n then some o else if j=b then some .dead else s.h.get j) (hs:w'.heap.size=w.heap.size) (hx:w'.heap[X]? = some o') (hw:∀k,k≠X->w'.heap[k]? = w.heap[k]?) (hr:OR P (m.put s.n X y) s.n o o') :
 dO P K B (m.put s.n X y) ⟨h2,s.n+1⟩ w':=by
 have hn:=E.none;have hBb:=E.own hb hc hd.2;have hbn:b≠s.n:=by intro h;subst h;rw[hn] at hb;cases hb
 refine⟨fun i x u hi=>?_,fun i p hi=>?_,fun i x u d hi hd'=>?_,fun i j x u u' hi hj hij hBx=>?_,by rw[hs];exact E.base,fun i o2 hi=>?_⟩
 ·rw[hs]
  by_cases he:i=s.n
  ·subst he;rw[Mp.put_same] at hi;cases hi;exact⟨.inl hBb,(E.low b X y hb).2⟩
  ·rw[Mp.put_ne he] at hi
   refine⟨?_,(E.low i x u hi).2⟩;by_cases hib:i=b
   ·subst hib;rw[hb] at hi;cases hi;exact .inl hBb
   ·refine(E.low i x u hi).1.imp id (fun ⟨g,h⟩=>⟨g,?_⟩)
    show h2.get i=_;rw[hg,if_neg he,if_neg hib];exact h
 ·by_cases he:i=s.n
  ·subst he;exact Nat.lt_succ_self _
  ·rw[Mp.put_ne he] at hi;exact Nat.lt_succ_of_lt (E.old i p hi)
 ·have hd2:h2.get i=some d:=hd'
  rw[hg] at hd2;by_cases he:i=s.n
  ·subst he
   rw[if_pos rfl] at hd2;cases hd2;rw[Mp.put_same] at hi;cases hi;exact⟨o',hx,hr⟩
  ·rw[if_neg he] at hd2
   rw[Mp.put_ne he] at hi;by_cases hib:i=b
   ·subst hib
    rw[if_pos rfl] at hd2;cases hd2;rw[hb] at hi;cases hi;exact⟨o',hx,trivial⟩
   ·rw[if_neg hib] at hd2
    obtain⟨o2,h5,h6⟩:=E.obj i x u d hi hd2;by_cases hxx:x=X
    ·subst hxx
     rcases E.inj i b x u y hi hb hib hBb with h7|h7
     ·rw[hd2] at h7;cases h7;exact⟨o',hx,trivial⟩
     ·rw[hc] at h7;cases h7;exact absurd rfl hd.1
    ·exact⟨o2,by rw[hw x hxx];exact h5,h6.mono (Mp.put_le hn)⟩
 ·show h2.get i=some .dead∨h2.get j=some .dead
  have old:∀i j x u u',i≠s.n->j≠s.n->m i=some (x,u)->m j=some (x,u')->i≠j->B<=x->h2.get i=some .dead∨h2.get j=some .dead:=by
   intro i j x u u' h5 h6 hi hj hij hBx;rw[hg,hg,if_neg h5,if_neg h6];rcases E.inj i j x u u' hi hj hij hBx with h7|h7
   ·left;by_cases h8:i=b
    ·rw[if_pos h8]
    ·rw[if_neg h8];exact h7
   ·right;by_cases h8:j=b
    ·rw[if_pos h8]
    ·rw[if_neg h8];exact h7
  have atb:∀j u',j≠s.n->m j=some (X,u')->h2.get j=some .dead:=by
   intro j u' h6 hj;rw[hg,if_neg h6];by_cases h8:j=b
   ·rw[if_pos h8]
   ·rw[if_neg h8]
    rcases E.inj j b X u' y hj hb h8 hBb with h7|h7
    ·exact h7
    ·rw[hc] at h7;cases h7;exact absurd rfl hd.1
  by_cases h5:i=s.n
  ·subst h5
   rw[Mp.put_same] at hi;cases hi;have h6:j≠s.n:=Ne.symm hij;rw[Mp.put_ne h6] at hj;exact .inr (atb j u' h6 hj)
  ·rw[Mp.put_ne h5] at hi
   by_cases h6:j=s.n
   ·subst h6
    rw[Mp.put_same] at hj;cases hj;exact .inl (atb i u h5 hi)
   ·rw[Mp.put_ne h6] at hj
    exact old i j x u u' h5 h6 hi hj hij hBx
 ·obtain⟨h1,h3,h4⟩:=E.kept i o2 hi
  have he:i≠s.n:=oM
  have hb':i≠b:=by rintro rfl;rw[hb] at h1;cases h1
  exact⟨by rw[Mp.put_ne he];exact h1,by show h2.get i=_;rw[hg,if_neg he,if_neg hb'];exact h3,Nat.lt_succ_of_lt h4⟩
theorem dO.die(E:dO P K B m s w){h1:BT eW}{b x0 y0:Nat}{c:eW}(hb:m b=some (x0,y0))(hc:s.h.get b=some c)(hd:∀g,c≠.rom g)(hg:∀j,h1.get j=if j=b then some .dead else s.h.get j):dO P K B m ⟨h1,s.n⟩ w:=by
 refine⟨fun i x u hi=>⟨?_,(E.low i x u hi).2⟩,E.old,fun i x u d hi hd'=>?_,fun i j x u u' hi hj hij hBx=>?_,E.base,fun i o2 hi=>?_⟩
 ·by_cases he:i=b
  ·subst he;rw[hb] at hi;cases hi;exact .inl (E.own hb hc hd)
  ·refine(E.low i x u hi).1.imp id (fun ⟨g,h⟩=>⟨g,?_⟩)
   show h1.get i=_;rw[hg,if_neg he];exact h
 ·have hd2:h1.get i=some d:=hd'
  rw[hg] at hd2;by_cases he:i=b
  ·subst he
   rw[if_pos rfl] at hd2;cases hd2;have:=(E.low i x u hi).2;exact⟨w.heap[x],Array.getElem?_eq_getElem this,trivial⟩
  ·rw[if_neg he] at hd2
   exact E.obj i x u d hi hd2
 ·show h1.get i=some .dead∨h1.get j=some .dead
  rw[hg,hg];rcases E.inj i j x u u' hi hj hij hBx with h7|h7
  ·left;by_cases h8:i=b
   ·rw[if_pos h8]
   ·rw[if_neg h8];exact h7
  ·right;by_cases h8:j=b
   ·rw[if_pos h8]
   ·rw[if_neg h8];exact h7
 ·obtain⟨h3,h4,h5⟩:=E.kept i o2 hi
  have he:i≠b:=by rintro rfl;rw[hb] at h3;cases h3
  exact⟨h3,by show h1.get i=_;rw[hg,if_neg he];exact h4,h5⟩
end Go.Proofs.YtjkdkpckjgaplaaGreat.Ev
namespace Go.Proofs.YtjkdkpckjgaplaaGreat.Ev
open Go Go.RowKit
theorem Iw{l:List Value}{t:BT Value}{n:Nat}{k:BT Value->Bool}(h:eY t n l k=true):∃c,k c=true/\∀j v,c.get j=some v->(n<=j/\j<n+l.length/\l[j-n]? = some v)∨t.get j=some v:=by
 obtain⟨c,hk,_,hc⟩:=vX h;refine⟨c,hk,fun j v hj=>?_⟩;rw[hc] at hj;by_cases h0:n<=j/\j<n+l.length
 ·rw[if_pos h0] at hj;exact .inl ⟨h0.1,h0.2,hj⟩
 ·rw[if_neg h0] at hj;exact .inr hj
theorem Bw{P:Program}{m:Mp}{j X y N e:Nat}{c:BT Value}{old new r:List Value}(hc:∀i v,c.get i=some v->oneCell v=true/\∃v',(old++new)[i]? = some v'/\VR m v v')(hN:N=(old++new).length)(hm:m j=some (X,y))
 (hy:y*P.cellsOf e=(old++new).length+r.length):OR P m j (.cells N c e true) (.cells ⟨old++new++r⟩ e (0,0)):=by
 refine⟨_,rfl,by show N<=(old++new++r).length;rw[List.length_append];omega,fun i v hi=>?_,fun _=>⟨X,y,hm,by rw[hy];simp;omega⟩,fun i v hi=>⟨(hc i v hi).1,by obtain⟨_,v',h1,_⟩:=hc i v hi;rw[hN];exact(List.getElem?_eq_some_iff.1 h1).1⟩⟩;obtain⟨_,v',h1,h2⟩:=hc i v hi;refine⟨v',?_,h2⟩;have hlt:i<(old++new).length:=(List.getElem?_eq_some_iff.1 h1).1;rw[List.getElem?_toArray,List.getElem?_append_left hlt];exact h1
theorem Ix{b y:Bool}(h:ifB b false y=true):b=false/\y=true:=by cases b <;> simp_all [ifB]
theorem ME{s:St}{b:Nat}{o:eW}{F:Nat->BT Value->Nat->Bool->Bool}{R:(Nat->Option Value)->Bool}(h0:s.h.get b=some o)(h:@eW.casesOn (fun _=>Bool) o false F (fun _ _ _ _ _ _ _=>false) (fun _=>false) (fun _=>false) R=true) :
 (∃n c e op,s.h.get b=some (.cells n c e op)/\F n c e op=true)∨∃g,s.h.get b=some (.rom g)/\R g=true:=by
 cases o with
 |cells n c e op=>exact .inl ⟨n,c,e,op,h0,h⟩
 |rom g=>exact .inr ⟨g,h0,h⟩
 |_=>cases h
theorem QG{P:Program}{K:Kp}{B:Nat}{m:Mp}{s:St}{w:World}{e t0 t1 ty:Nat}{i:TypeInfo}{z:Array Value}{ts:Array Nat}{ints:Bool}{d:TypeDesc}{x y u v:Value}{k:Value->St->Bool}(h0:ts[0]? = some t0)(ht:P.underlying t0=some (.slice e))(h1:ts[1]? = some t1)(h2:P.underlying t1=some d)
 (hd:(ints=true/\∃q,d = .int q)∨(ints=false/\∃q,d = .slice q)) (hi:P.info? e=some i) (hz:zeroOf P e=some z) (hzs:z.size=i.size) (hs0:i.size≠0) (E:dO P K B m s w) (hx:VR m x u) (hy:VR m y v)
 (hk:kX s e i.size i.bytes z.toList ints x y k=true) :
 ∃r s',k r s'=true/\∃m' w' r',(Builtin.append_ ts ty #[u,v]).run P w = .ok r' w'/\m.le m'/\dO P K B m' s' w'/\Below B w w'/\VR m' r r':=by
 obtain⟨i',zv,hi2,hzv,hvz,hf,hone⟩:=fB hz;rw[hi] at hi2;cases hi2;have hcell:P.cellsOf e=i.size:=by simp[Program.cellsOf,hi]
 have hrl:∀c,(repeatN z.toList c).length=c*i.size:=fun c=>by rw[cZ];show c*z.size=_;rw[hzs]
 unfold kX at hk;obtain⟨n,more,new,hk1,hM,hmr,hml,hmo⟩:=MD (w:=w) hz hzs h1 h2 hd E hy hk;clear hk;have hnl:new.length=n*i.size:=by rw[LR.length hmr,hml]
 -- a new row
 have grown:∀(s1:St) (E1:dO P K B m s1 w) (old:List Value) (len cap:Nat) (a:Option Addr) (tr c:BT Value) (k1:St->Bool),old.length=len*i.size->len+n<=1048576->i.bytes*(len+n)<=1073741824->cap<len+n ->
  (∀W:World,W.heap=w.heap->(Builtin.firstCells i.size len (.slice a len cap)).run P W = .ok ⟨old⟩ W) ->
  (∀j q,tr.get j=some q->j<len*i.size->oneCell q=true/\∃q',old[j]? = some q'/\VR m q q') ->
  (∀j q,c.get j=some q->(len*i.size<=j/\j<len*i.size+more.length/\more[j-len*i.size]? = some q)∨(tr.get j=some q/\j<len*i.size)) ->
  jY s1 (.cells ((len+n)*i.size) c e true) k1=true ->
  ∃s',k1 s'=true/\∃m' w',(Builtin.append_ ts ty #[.slice a len cap,v]).run P w = .ok (.slice (some ⟨w.heap.size,0,none⟩) (len+n) (qQ w (len+n) cap e)) w'/\m.le m'/\dO P K B m' s' w'/\Below B w w'/\m' s1.n=some (w.heap.size,qQ w (len+n) cap e):=by
  intro s1 E1 old len cap a tr c k1 ho hl hb hc hf1 htr hcr hk2;have hrun:=Ab (ty:=ty) h0 ht hi hzv hvz hzs hl hb hM hc hf1;have hge:=Iv w (len+n) cap e;obtain⟨cp,hcp⟩:∃cp,qQ w (len+n) cap e=cp:=⟨_,rfl⟩;rw[hcp] at hrun hge ⊢;have hr:OR P (m.put s1.n w.drew.heap.size cp) s1.n (.cells ((len+n)*i.size) c e true) (.cells ⟨old++new++repeatN z.toList (cp-(len+n))⟩ e (0,0)):=by
   refine Bw (X:=w.drew.heap.size) (y:=cp) (fun j q hj=>?_) ?_ (Mp.put_same _ _ _ _) ?_
   ·rcases hcr j q hj with ⟨h5,h6,h7⟩|⟨h5,h6⟩
    ·obtain⟨q',h8,h9⟩:=LR.get hmr h7
     refine⟨hmo q (List.mem_of_getElem? h7),q',?_,h9.mono (Mp.put_le E1.none)⟩;rw[List.getElem?_append_right oM,ho];exact h8
    ·obtain⟨h7,q',h8,h9⟩:=htr j q h5 h6
     refine⟨h7,q',?_,h9.mono (Mp.put_le E1.none)⟩;rw[List.getElem?_append_left oM];exact h8
   ·rw[List.length_append,ho,hnl,<-Nat.add_mul]
   ·rw[hcell,hrl,List.length_append,ho,hnl,<-Nat.add_mul,<-Nat.add_mul];congr 1;omega
  obtain⟨s',hk3,hE,hB,hle,_⟩:=rG E1.drew cp hr hk2;exact⟨s',hk3,_,_,hrun,hle,hE,Eu.trans hB,Mp.put_same _ _ _ _⟩
 rcases gK hk1 with ⟨len,cap,rfl,hk2⟩|⟨b,off,len,cap,rfl,hk2⟩
 ·obtain⟨hl,hk3⟩:=Z5 hk2
  obtain⟨hc,hk4⟩:=Z5 hk3;have hl':len=0:=by simpa using hl
  have hc':cap=0:=by simpa using hc
  subst hl';subst hc';have:=hx.slice_none;subst this;rcases mX hk4 with ⟨hn,hk5⟩|⟨hn,hk5⟩
  ·have hn':n=0:=by simpa using hn
   subst hn';exact⟨_,s,hk5,m,w,_,Ac h0 ht hi hzv hM,Mp.le_refl m,E,Below.refl _ _,by simp only[VR];exact⟨dE,trivial⟩⟩
  ·have hn':n≠0:=by intro h;subst h;simp at hn
   obtain⟨hq1,hk6⟩:=Z5 hk5;obtain⟨hq2,hk7⟩:=Z5 hk6;have hq1':n<=1048576:=by simpa using hq1
   have hq2':i.bytes*n<=1073741824:=by simpa using hq2
   obtain⟨c,hk8,hc⟩:=kL hk7;have hk9:=gM hk8;rw[bG] at hk9;obtain⟨s',hk10,m',w',hrun,hle,hE,hB,hm'⟩:=grown s E [] 0 0 none .leaf c (fun s'=>k (.slice (some ⟨s.n,0,none⟩) n OPEN) s') sM oM (by rw[Nat.zero_add];exact hq2') oM (fun W _=>by simp[Builtin.firstCells])
    (fun j q hj _=>by simp[BT.get] at hj) (fun j q hj=> .inl (by have:=hc j q hj;have h5:=(List.getElem?_eq_some_iff.1 this).1;simpa using ⟨h5,this⟩)) (by rw[Nat.zero_add];exact hk9)
   rw[Nat.zero_add] at hrun hm';refine⟨_,s',hk10,m',w',_,hrun,hle,hE,hB,?_⟩;simp only[VR];refine⟨trivial,?_⟩;rw[if_neg oM,if_pos (.inl trivial)];exact⟨_,_,hm',sM⟩
 ·rcases mX hk2 with ⟨hz0,hk2⟩|⟨_,hk2⟩
  ·obtain⟨hl,hk3⟩:=Z5 hk2
   have hl':len=0:=by simpa using hl
   have hc':cap=0:=by simpa using hz0
   subst hl';subst hc';obtain⟨X,Y,hm,rfl⟩:∃X Y,m b=some (X,Y)/\u = .slice (some ⟨X,off,none⟩) 0 0:=by
    rcases hx.slice_inv with ⟨_,X,Y,h5,h6⟩|⟨h5,_⟩|⟨h5,_⟩
    ·exact⟨X,Y,h5,h6⟩
    ·cases h5
    ·exact absurd h5 dE
   rcases mX hk3 with ⟨hn,hk5⟩|⟨hn,hk5⟩
   ·have hn':n=0:=by simpa using hn
    subst hn';have hnew:new=[]:=List.eq_nil_of_length_eq_zero (by rw[hnl,Nat.zero_mul]);refine⟨_,s,hk5,m,w,_,lJ h0 ht hi hzv hvz hzs oM hM (Nat.le_refl 0) (by rw[hnew];rfl),Mp.le_refl m,E,Below.refl _ _,?_⟩;simp only[VR];exact⟨trivial,by rw[if_pos dE];exact⟨X,Y,hm,rfl⟩⟩
   ·have hn':n≠0:=by intro h;subst h;simp at hn
    obtain⟨hq1,hk6⟩:=Z5 hk5;obtain⟨hq2,hk7⟩:=Z5 hk6;have hq1':n<=1048576:=by simpa using hq1
    have hq2':i.bytes*n<=1073741824:=by simpa using hq2
    obtain⟨c,hk8,hc⟩:=kL hk7;have hk9:=gM hk8;rw[bG] at hk9;obtain⟨s',hk10,m',w',hrun,hle,hE,hB,hm'⟩:=grown s E [] 0 0 (some ⟨X,off,none⟩) .leaf c (fun s'=>k (.slice (some ⟨s.n,0,none⟩) n OPEN) s') sM oM (by rw[Nat.zero_add];exact hq2') oM (fun W _=>by
     have:=run_loadCells_list (P:=P) W ⟨X,off,none⟩ [] (fun j q hj=>by simp at hj);simpa [Builtin.firstCells] using this)
     (fun j q hj _=>by simp[BT.get] at hj) (fun j q hj=> .inl (by have:=hc j q hj;have h5:=(List.getElem?_eq_some_iff.1 this).1;simpa using ⟨h5,this⟩)) (by rw[Nat.zero_add];exact hk9)
    rw[Nat.zero_add] at hrun hm';refine⟨_,s',hk10,m',w',_,hrun,hle,hE,hB,?_⟩;simp only[VR];refine⟨trivial,?_⟩;rw[if_neg oM,if_pos (.inl trivial)];exact⟨_,_,hm',sM⟩
  obtain⟨hq1,hk3⟩:=Z5 hk2;obtain⟨hq2,hk4⟩:=Z5 hk3;have hq1':len+n<=1048576:=by simpa using hq1
  have hq2':i.bytes*(len+n)<=1073741824:=by simpa using hq2
  have hbn:i.bytes*n<=1073741824:=Nat.le_trans (Nat.mul_le_mul_left _ oM) hq2';unfold eR at hk4
  -- a new row is made
  have grows:∀{f:Nat->Option Value} {oldc:List Value},wB s b f->tB s e i.size len n more oldc k=true->oldc.length=len*i.size->(∀j,j<len*i.size->f (off+j)=oldc[j]?)->cap<OPEN->¬len+n<=cap->∃r s',k r s'=true/\∃m' w' r',(Builtin.append_ ts ty #[u,v]).run P w = .ok r' w'/\m.le m'/\dO P K B m' s' w'/\Below B w w'/\VR m' r r':=fun {f oldc} hg hk9 hol hoc hop' hle'=>by
   unfold tB at hk9;obtain⟨X,Y,hm,rfl⟩:∃X Y,m b=some (X,Y)/\u = .slice (some ⟨X,off,none⟩) len cap:=by
    rcases hx.slice_inv with ⟨_,X,Y,h5,h6⟩|⟨h5,_⟩|⟨h5,_⟩
    ·exact⟨X,Y,h5,h6⟩
    ·omega
    ·omega
   obtain⟨cs,e0,fr,hox,hcs1⟩:=E.sees hm hg;have hcs:∀j v,f j=some v->∃v',cs[j]? = some v'/\VR m v v':=fun j v hj=>(hcs1 j v hj).2
   obtain⟨c1,hk10,hc1⟩:=kL hk9;obtain⟨c2,hk11,hc2⟩:=Iw hk10;have hk12:=gM hk11;rw[bG] at hk12;have hol':oldc.length=len*i.size:=hol;obtain⟨old',h4,h5,h6⟩:=yI (off:=off) hcs (by rw[hol];exact hoc);have hone':=Cd E hm hg (by rw[hol];exact hoc);obtain⟨s',hk13,m',w',hrun,hle2,hE,hB,hm'⟩:=grown s E old' len cap (some ⟨X,off,none⟩) c1 c2 (fun s'=>dG (Nat.add len n) (fun l=>k (.slice (some ⟨s.n,0,none⟩) l OPEN) s')) (by rw[h4,hol']) hq1' hq2' oM
    (fun W hW=>by
     have:=run_loadCells_list (P:=P) W ⟨X,off,none⟩ old' (fun j q hj=>by rw[fA,sE (by rw[hW];exact hox)];exact h6 j q hj);rw[h4,hol'] at this;simpa [Builtin.firstCells] using this)
    (fun j q hj _=>by
     have h7:=hc1 j q hj;obtain⟨q',h8,h9⟩:=LR.get h5 h7;exact⟨hone' q (List.mem_of_getElem? h7),q',h8,h9⟩)
    (fun j q hj=>by
     rcases hc2 j q hj with h7|h7
     ·exact .inl h7
     ·exact .inr ⟨h7,by rw[<-hol'];exact(List.getElem?_eq_some_iff.1 (hc1 j q h7)).1⟩) hk12
   rw[bG] at hk13;refine⟨_,s',hk13,m',w',_,hrun,hle2,hE,hB,?_⟩;simp only[VR];refine⟨trivial,?_⟩;rw[if_neg oM,if_pos (.inl trivial)];exact⟨_,_,hm',sM⟩
  obtain⟨ob,hg0,hk5⟩:=oR hk4;rcases ME hg0 hk5 with ⟨N,tr,e',op,hg,hk5⟩|⟨g,hg,hk5⟩
  rotate_left
  ·obtain⟨h7,hk6⟩:=Ix hk5
   obtain⟨h8,hk7⟩:=Ix hk6;obtain⟨oldc,hk8,hol,hoc⟩:=nT hk7;refine grows (.inr hg) hk8 hol hoc ?_ ?_
   ·rcases Nat.lt_or_ge cap OPEN with h|h
    ·exact h
    ·rw[show Nat.ble OPEN cap=true from by rw[Nat.ble_eq];exact h] at h7;cases h7
   ·intro h;rw[<-Nat.ble_eq] at h;rw[show Nat.ble (Nat.add len n) cap=true from h] at h8;cases h8
  obtain⟨hee,hk6⟩:=Z5 hk5;have hee':e=e':=by simpa using hee
  subst hee';rcases mX hk6 with ⟨hop,hk7⟩|⟨hop,hk7⟩
  ·-- what the row bears is not known
   obtain⟨ho1,hk8⟩:=Z5 hk7;obtain⟨ho2,hk9⟩:=Z5 hk8;obtain⟨ho3,hk10⟩:=Z5 hk9;clear hk1 hk2 hk3 hk4 hk5 hk6 hk7 hk8 hk9;have ho2':off=0:=by simpa using ho2
   have ho3':cap=OPEN:=by simpa using ho3
   subst ho2';subst ho3';subst ho1;obtain⟨X,Y,hm,rfl⟩:∃X Y,m b=some (X,Y)/\u = .slice (some ⟨X,0,none⟩) len Y:=by
    rcases hx.slice_inv with ⟨h5,_⟩|⟨_,_,X,Y,h5,h6⟩|⟨h5,_⟩
    ·exact absurd h5 (Nat.lt_irrefl _)
    ·exact⟨X,Y,h5,by simpa using h6⟩
    ·exact absurd h5 (Nat.lt_irrefl _)
   obtain⟨o',hox,cs,rfl,hNs,hcs,hopn,hon⟩:=E.obj b X Y _ hm hg;obtain⟨X2,Y2,hm2,hY⟩:=hopn rfl;rw[hm] at hm2;cases hm2;rw[hcell] at hY;have fit:∀q,q*i.size<=Y*i.size->q<=Y:=fun q hq=>Nat.le_of_mul_le_mul_right hq oM
   have hVR:∀(m':Mp) (g X' Y':Nat),m' g=some (X',Y')->VR m' (.slice (some ⟨g,0,none⟩) (len+n) OPEN) (.slice (some ⟨X',0,none⟩) (len+n) Y'):=by
    intro m' g X' Y' h;simp only[VR];refine⟨trivial,?_⟩;rw[if_neg oM,if_pos (.inl trivial)];exact⟨_,_,h,sM⟩
   rcases mX hk10 with ⟨hle,hk11⟩|⟨hle,hk11⟩
   ·-- room that is known
    have hle':(len+n)*i.size<=N:=by simpa using hle
    obtain⟨tr',hk12,_,htr⟩:=lC hk11;obtain⟨h',hk13,_,hh⟩:=eS hk12;rw[bG] at hk13;have hfit:len+n<=Y:=fit _ oM;obtain⟨w',hr,hE,hB⟩:=Bu E (off:=len*i.size) (l:=more) (l':=new) hm hg hmr hmo (by rw[hml,<-Nat.add_mul];exact hle') htr hh;refine⟨_,_,hk13,m,w',_,lJ h0 ht hi hzv hvz hzs hbn hM hfit (by rw[fA,Nat.zero_add];exact hr),Mp.le_refl m,hE,hB,?_⟩;exact hVR m b X Y hm
   ·-- it goes on behind what is known
    obtain⟨heq,hk12⟩:=Z5 hk11;have heq':len*i.size=N:=by simpa using heq
    obtain⟨tr',hk13,htr⟩:=Iw hk12;have hk14:=gM hk13;obtain⟨h1',hk15,_,hh1⟩:=eS hk14;rw[bG] at hk15;obtain⟨h2',hk16,_,hh2⟩:=oU hk15;rw[bG] at hk16;have hlenN:(len+n)*i.size=N+more.length:=by rw[Nat.add_mul,heq',hml]
    by_cases hfit:len+n<=Y
    ·have hroom:N+new.length<=cs.size:=by
      rw[hnl,<-heq',<-Nat.add_mul,<-hY];exact Nat.mul_le_mul_right _ hfit
     have hst:=run_storeCells_at (P:=P) X N e new 0 cs w hox oM (hmr.ones hmo);simp only[Nat.add_zero] at hst;have hsz:(cs.toList.take N++new++cs.toList.drop (N+new.length)).length=cs.size:=by simp;omega
     have hr:OR P (m.put s.n X Y) s.n (.cells ((len+n)*i.size) tr' e true) (.cells (cs.toList.take N++new++cs.toList.drop (N+new.length)).toArray e (0,0)):=by
      refine Bw (old:=cs.toList.take N) (new:=new) (r:=cs.toList.drop (N+new.length)) (X:=X) (y:=Y) (fun j q hj=>?_) (by rw[List.length_append,hnl,hlenN,hml];simp;omega) (Mp.put_same _ _ _ _) ?_
      ·rcases htr j q hj with ⟨h5,h6,h7⟩|h5
       ·obtain⟨q',h8,h9⟩:=LR.get hmr h7
        refine⟨hmo q (List.mem_of_getElem? h7),q',?_,h9.mono (Mp.put_le E.none)⟩;have hlt:(cs.toList.take N).length=N:=by simp;omega
        have h5':N<=j:=by rw[<-heq'];exact h5
        rw[List.getElem?_append_right oM,hlt,<-heq'];exact h8
       ·obtain⟨q',h8,h9⟩:=hcs j q h5
        by_cases hjN:j<N
        ·refine⟨(hon j q h5).1,q',?_,h9.mono (Mp.put_le E.none)⟩
         have hlt:(cs.toList.take N).length=N:=by simp;omega
         rw[List.getElem?_append_left oM,List.getElem?_take,if_pos hjN];simpa using h8
        ·exact absurd (hon j q h5).2 hjN
      ·rw[hcell,hY,<-List.length_append];exact hsz.symm
     refine⟨_,_,hk16,m.put s.n X Y,_,_,lJ h0 ht hi hzv hvz hzs hbn hM hfit (by rw[fA,Nat.zero_add,heq'];exact hst),Mp.put_le E.none,?_,?_,hVR _ _ X Y (Mp.put_same _ _ _ _)⟩
     ·refine E.move hm hg sM (fun j=>?_) sM (setRow_heap w X cs _ e _ hox) (fun q hq=>setRow_other w X q _ hq) hr
      rw[hh2];by_cases hj:j=s.n
      ·rw[if_pos hj,if_pos hj];rfl
      ·rw[if_neg hj,if_neg hj];exact hh1 j
     ·have:=E.own hm hg sM
      exact rF sM sM sM sM (fun q hq=>setRow_other w X q _ oM)
    ·have hlt:(cs.toList.take N).length=N:=by simp;omega
     obtain⟨s',hk17,m',w',hrun,hle2,hE,hB,hm'⟩:=grown ⟨h1',s.n⟩ (E.die hm hg sM hh1) (cs.toList.take N) len Y (some ⟨X,0,none⟩) tr tr' (fun s'=>dG (Nat.add len n) (fun l=>k (.slice (some ⟨s.n,0,none⟩) l OPEN) s')) (by rw[hlt,heq']) hq1' hq2' oM
      (fun W hW=>by
       have:=run_loadCells_list (P:=P) W ⟨X,0,none⟩ (cs.toList.take N) (fun j q hj=>by
        rw[fA,Nat.zero_add,sE (by rw[hW];exact hox)];rw[List.getElem?_take] at hj;split at hj
        ·simpa using hj
        ·cases hj)
       rw[hlt,<-heq'] at this;rw[<-heq'];simpa [Builtin.firstCells] using this)
      (fun j q hj hjl=>by
       obtain⟨q',h8,h9⟩:=hcs j q hj;refine⟨(hon j q hj).1,q',?_,h9⟩;rw[List.getElem?_take,if_pos (by rw[<-heq'];exact hjl)];simpa using h8)
      (fun j q hj=>by
       rcases htr j q hj with h5|h5
       ·exact .inl h5
       ·exact .inr ⟨h5,by have:=(hon j q h5).2;rw[<-heq'] at this;exact this⟩) hk15
     rw[bG] at hk17;exact⟨_,s',hk17,m',w',_,hrun,hle2,hE,hB,hVR _ _ _ _ hm'⟩
  ·-- what the row bears is known
   have hop':cap<OPEN:=by
    rcases Nat.lt_or_ge cap OPEN with h|h
    ·exact h
    ·rw[show Nat.ble OPEN cap=true from by rw[Nat.ble_eq];exact h] at hop;cases hop
   obtain⟨X,Y,hm,rfl⟩:∃X Y,m b=some (X,Y)/\u = .slice (some ⟨X,off,none⟩) len cap:=by
    rcases hx.slice_inv with ⟨_,X,Y,h5,h6⟩|⟨h5,_⟩|⟨h5,_⟩
    ·exact⟨X,Y,h5,h6⟩
    ·omega
    ·omega
   obtain⟨o',hox,cs,rfl,hNs,hcs,hopn,hon⟩:=E.obj b X Y _ hm hg;rcases mX hk7 with ⟨hle,hk8⟩|⟨hle,hk8⟩
   ·have hle':len+n<=cap:=by simpa using hle
    obtain⟨hro,hk9⟩:=Z5 hk8;have hro':off+(len+n)*i.size<=N:=by simpa using hro
    obtain⟨tr',hk10,_,htr⟩:=lC hk9;obtain⟨h',hk11,_,hh⟩:=eS hk10;rw[bG] at hk11;obtain⟨w',hr,hE,hB⟩:=Bu E (off:=off+len*i.size) (l:=more) (l':=new) hm hg hmr hmo (by rw[hml,Nat.add_assoc,<-Nat.add_mul];exact hro') htr hh;refine⟨_,_,hk11,m,w',_,lJ h0 ht hi hzv hvz hzs hbn hM hle' (by rw[fA];exact hr),Mp.le_refl m,hE,hB,?_⟩;simp only[VR];refine⟨trivial,?_⟩;rw[if_pos hop'];exact⟨X,Y,hm,rfl⟩
   ·have hle':¬len+n<=cap:=by intro h;rw[<-Nat.ble_eq] at h;rw[show Nat.ble (Nat.add len n) cap=true from h] at hle;cases hle
    obtain⟨oldc,hk9,hol,hoc⟩:=uH hk8;exact grows (.inl ⟨N,tr,e,op,hg,rfl⟩) hk9 hol hoc hop' hle'
end Go.Proofs.YtjkdkpckjgaplaaGreat.Ev
