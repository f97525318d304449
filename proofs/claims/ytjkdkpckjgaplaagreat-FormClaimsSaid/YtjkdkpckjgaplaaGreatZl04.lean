import Derived.Test.YtjkdkpckjgaplaaGreatZl03
set_option linter.unusedVariables false
set_option linter.unusedSimpArgs false
namespace Go.Proofs.YtjkdkpckjgaplaaGreat.Ev
open Go Go.RowKit
variable{w:World}
section
variable{P:Program}{K:Kp}{B:Nat}{O:OK}
theorem Dk{r:Option Nat}{n:Nat}{f:FuncId}{args:Array Value}{R R':Ending->World->Prop}(h:CallsIn Fence.wide 0 P f args w R)(hr:∀e w,R e w->R' e w):CallsIn (Fr r) n P f args w R':=CallsIn.mono (Ag h) hr
def rec_(fn:FuncId)(tmps:Array Value)(ps:Array Tmp)(x y:Code)(z:Nat):Obj:=.loop { state:=.ready,pending:=none,fn,tmps,params:=ps,assign:=x,body:=y,defers:=z }
theorem sV{l:Nat}{r:Loop}(h:w.heap[l]? = some (.loop r))(fn:FuncId)(tmps:Array Value)(ps:Array Tmp)(x y:Code):(Instr.enterLoop fn tmps ps x y (some l)).run P w = .ok (w.heap.size,[]) (w.alloc (rec_ fn tmps ps x y r.defers)):=by
 unfold Instr.enterLoop rec_;simp only[Sem.run_bind,run_getLoop h,run_newObj_alloc,Result.andThen,Sem.run_pure]
theorem Dl{m:Mp}{s:St}(E:dO P K B m s w){l x y:Nat}(hm:m l=some (x,y)){T:BT Value}{D:List Nat}{k:iH->BT Value->List Nat->St->Bool}(hk:sC l T D s k=true){a:Act}(hT:TR m T a.tmps)(hD:DR m D a.defers){r:Option Nat}(v:Value) :
 rangePost (Fr r) 0 P x (lR P K B m w k) a (.returned v) w:=by
 obtain⟨st,p,T',ps,c,d,q,hc,hk⟩:=oS hk;obtain⟨rr,hx,h1,h2,h3,h4,h5,h6,h7,hput⟩:=uK E hm hc;have key:dI s l (.loop .exhausted p T' ps c d q) (k p T D)=true->st≠.busy->rangePost (Fr r) 0 P x (lR P K B m w k) a (.returned v) w:=by
  intro hk hb;obtain⟨h',hk2,_,hg⟩:=eS hk;obtain⟨hE,hB⟩:=hput .exhausted p h' hg;have hre:({ rr with state:=.exhausted,pending:=p.code }:Loop)={ rr with state:=.exhausted }:=by rw[<-h2]
  rw[hre] at hE hB;have hl:lR P K B m w k (TJ p) a (w.putObj x (.loop { rr with state:=.exhausted })):=⟨p,T,D,_,m,hk2,rfl,Mp.le_refl m,hE,hT,hD,hB⟩;refine⟨rr.pending,_,run_endLoop hx (by rw[h1];exact hb),?_⟩;have key2:∀(j:Option Code) (W:World),j=p.code->lR P K B m w k (TJ p) a W->(match j with
   |none=>lR P K B m w k .normal a W
   |some c=>c.wpIn (Fr r) 0 P (lR P K B m w k) a W):=by
   rintro j W rfl hl;cases p with
   |normal=>exact hl
   |ret=>exact wpIn_ret hl
   |exit i=>exact wpIn_exit hl
   |goto i=>exact wpIn_goto hl
  exact key2 _ _ h2 hl
 cases st with
 |busy=>cases hk
 |ready=>exact key hk sM
 |done=>exact key hk sM
 |exhausted=>exact key hk sM
theorem Am(hCa:kN P K B O){m:Mp}{s:St}{g:Operand}{v:Value}{a:Act}{ps:Array Tmp}{x y:Code}{T:BT Value}{D:List Nat}{q z u:Nat}{k:iH->BT Value->List Nat->St->Bool}(hf:VR m v (a.eval g))(hk:lO O v ps.toList (comp P x) (comp P y) T D q s k=true)
 (E:dO P K B m s w) (hT:TR m T a.tmps) (hq:m q=some (z,u)) (fn:FuncId) {a':Act} (ha:a'.tmps=a.tmps) (hD:DR m D a'.defers) {r:Option Nat} :
 ∃d gf args,(resolve a.eval (rangeCall g w.heap.size) 0).run P (w.alloc (rec_ fn a.tmps ps x y z)) = .ok d (w.alloc (rec_ fn a.tmps ps x y z))/\(invoke d.target d.args).run P (w.alloc (rec_ fn a.tmps ps x y z)) = .ok (.enter gf args) (w.alloc (rec_ fn a.tmps ps x y z)) /\
  CallsIn (Fr r) 0 P gf args (w.alloc (rec_ fn a.tmps ps x y z)) (rangePost (Fr r) 0 P w.heap.size (lR P K B m w k) a'):=by
 have hk:=gM hk;rcases zW hk with ⟨gf,p,c,rfl,hk5⟩|⟨_,_,_,_,hk5⟩
 ·simp only[VR,AR] at hf
  obtain⟨p',c',hfe,⟨pl,rfl,hp⟩,⟨cl,rfl,hcl⟩⟩:=hf;have hr:OR P (m.put s.n w.heap.size 0) s.n (.loop .ready .normal T ps.toList (comp P x) (comp P y) q) (rec_ fn a.tmps ps x y z):=
   ⟨_,rfl,rfl,rfl,hT.mono (Mp.put_le E.none),rfl,rfl,rfl,z,u,Mp.put_le E.none _ _ hq,rfl⟩
  obtain⟨s',hk1,hE,hB,hle,_⟩:=rG E 0 hr hk5;rw[sG] at hk1;have hl:(m.put s.n w.heap.size 0) s.n=some (w.heap.size,0):=sM
  have hargs:LR (m.put s.n w.heap.size 0) (p++(Value.func (.yield s.n) #[] #[]::c)) (pl++(Value.func (.yield w.heap.size) #[] #[]::cl)):=by
   refine(LR.mono hle _ hp).append ?_;simp only[LR];refine⟨_,_,rfl,?_,LR.mono hle _ hcl⟩;simp only[VR,AR,LR];exact⟨w.heap.size,0,#[],#[],hl,rfl,⟨[],rfl,rfl⟩,⟨[],rfl,rfl⟩⟩
  obtain⟨hcf,hcall⟩:=hCa.call hk1 hE hargs;refine⟨{ target:=.fn (.func gf) ⟨cl⟩,args:=(⟨pl⟩:Array Value)++#[.func (.yield w.heap.size) #[] #[]] },gf,_,?_,?_,Dk hcall ?_⟩
  ·show(Deferred.ofValue (a.eval g) _).run P _=_
   rw[hfe];simp[Deferred.ofValue,Act.eval]
  ·show(callFunc gf (((⟨pl⟩:Array Value)++#[.func (.yield w.heap.size) #[] #[]])++(⟨cl⟩:Array Value))).run P _=_
   have e:(((⟨pl⟩:Array Value)++#[.func (.yield w.heap.size) #[] #[]])++(⟨cl⟩:Array Value))=⟨pl++(Value.func (.yield w.heap.size) #[] #[]::cl)⟩:=by
    apply Array.ext'
    simp
   rw[e];exact hcf _
  ·intro e w3 he
   cases e with
   |returned v=>
    obtain⟨v',s3,m3,hk3,hle3,hE3,hB3,hv3⟩:=he;have hle':=hle.trans hle3;have:=Dl (r:=r) hE3 (hle3 _ _ hl) hk3 (a:=a') (by rw[ha];exact hT.mono hle') (hD.mono hle') v;obtain⟨jump,w4,h1,h2⟩:=this;refine⟨jump,w4,h1,?_⟩;have hBB:=hB.trans hB3;cases jump with
    |none=>exact lR.more hle' hBB h2
    |some c=>exact wpIn_mono h2 (fun e a w h=>lR.more hle' hBB h)
   |panicked=>exact he.elim
   |outgrown=>exact he.elim
 ·cases hk5
theorem Dm(hCa:kN P K B O):Fx P K B O:=by
 intro r f F v ps x y T D s k hf hv hk m w a r' hr E hT hD;have hfv:=Cg hT hf hv;refine wpIn_rangeFunc fun fn _=>?_
 cases r with
 |none=>
  have hr':r'=none:=hr;subst hr';have hk0:C1 s (fun q=>jY s (.deferred true) (fun s=>lO O v ps.toList (comp P x) (comp P y) T (q::D) q s k))=true:=hk;have hk1:=gM hk0;have ho:OR P (m.put s.n w.heap.size 0) s.n (.deferred true) (.deferred (some [])):=rfl;obtain⟨s',hk2,hE,hB,hle,_⟩:=rG E 0 ho hk1;have hq:(m.put s.n w.heap.size 0) s.n=some (w.heap.size,0):=sM
  obtain⟨d,gf,args,h1,h2,h3⟩:=Am hCa (VR.mono hle _ hfv) hk2 hE (hT.mono hle) hq fn (a':={ a with defers:=[{ target:=.collected w.heap.size,args:=#[] }]++a.defers }) rfl
   ⟨w.heap.size,0,a.defers,hq,rfl,hD.mono hle⟩ (r:=none)
  have hsz:(w.alloc (.deferred (some []))).heap.size=w.heap.size+1:=sM
  rw[hsz] at h1 h3;refine⟨_,_,_,d,_,gf,args,_,run_enterLoop_outer fn a.tmps ps x y,h1,fun _ _=>trivial,h2,(fun h=>by cases h),?_⟩;refine CallsIn.mono h3 (fun e w3 he=>?_);cases e with
  |returned v=>
   obtain⟨jump,w4,g1,g2⟩:=he;refine⟨jump,w4,g1,?_⟩;cases jump with
   |none=>exact lR.more hle hB g2
   |some c=>exact wpIn_mono g2 (fun e a w h=>lR.more hle hB h)
  |panicked=>obtain⟨z,_,_,_,_,_,hh,_⟩:=he;cases z <;> cases hh
  |outgrown=>obtain⟨_,_,z,_,_,_,_,_,hh,_⟩:=he;cases z <;> cases hh
 |some l=>
  obtain⟨X,Y,hm,rfl⟩:=hr;obtain⟨st,p,T',ps',c,d,q,hc,hk0⟩:=oS (k:=fun _ _ _ _ _ _ q=>lO O v ps.toList (comp P x) (comp P y) T D q s k) hk;obtain⟨rr,hx,_,_,_,_,_,_,⟨z,u,hq,hz⟩,_⟩:=uK E hm hc;obtain⟨d,gf,args,h1,h2,h3⟩:=Am hCa hfv hk0 E hT hq fn (a':={ a with defers:=[]++a.defers }) J hD (r:=some X);subst hz;exact⟨_,_,_,d,_,gf,args,_,sV hx fn a.tmps ps x y,h1,fun _ _=>trivial,h2,(fun h=>by cases h),h3⟩
/-! ## All levels -/
theorem SC{C:Nat->(CF->Bool)->Bool}(hC:∀f k,C f k=true->∃c,compF P f=some c/\k c=true)(hDr:∀O,(∀K,kN P K B O)->∀K,EA P K B O)(n:Nat):∀K,nA P K B (Bt P C n).code/\kN P K B (Bt P C n):=by
 induction n with
 |zero=>
  intro K;have hcode:nA P K B (Bt P C 0).code:={ code:=(by intro r c T D s k h;cases h),loop:=(by intro r c T D s k h;cases h) };exact⟨hcode,{ call:=(by intro f vs s k h;cases h),round:=(by intro l vs s k hk m w us x y hm E hv;exact uL hcode hk hm E hv) }⟩
 |succ n ih=>
  intro K;have hcode:nA P K B (Bt P C (n+1)).code:=Fy (ih K).2 (ih K).1 (hDr _ (fun K=>(ih K).2) K) (Dm (ih K).2);exact⟨hcode,{ call:=(by intro f vs s k hk m w us E hv;exact Fz hC (ih K).1 hk E hv),round:=(by intro l vs s k hk m w us x y hm E hv;exact uL hcode hk hm E hv) }⟩
end
end Go.Proofs.YtjkdkpckjgaplaaGreat.Ev
namespace Go.Proofs.YtjkdkpckjgaplaaGreat.Ev
open Go Go.RowKit
variable{α:Type}
def EE(K:Kp)(g:Nat)(o:eW):Kp:=fun j=>if j=g then some o else K j
def HJ(K:Kp)(g:Nat):Kp:=fun j=>if j=g then none else K j
section
variable{P:Program}{K:Kp}{B:Nat}{m:Mp}{s:St}{w:World}
theorem dO.less{K':Kp}(E:dO P K B m s w)(h:∀i o,K' i=some o->K i=some o):dO P K' B m s w:=
 ⟨E.low,E.old,E.obj,E.inj,E.base,fun i o hi=>E.kept i o (h i o hi)⟩
theorem dO.ahead(E:dO P K B m s w){h':BT eW}{o:eW}(hg:∀j,h'.get j=if j=s.n then some o else s.h.get j):dO P (EE K s.n o) B m ⟨h',s.n+1⟩ w:=by
 have at_:∀i,i<s.n->h'.get i=s.h.get i:=fun i h=>by rw[hg,if_neg oM]
 refine⟨fun i x y hi=>⟨(E.low i x y hi).1.imp id (fun ⟨g,h⟩=>⟨g,(at_ i (E.old i _ hi)).trans h⟩),(E.low i x y hi).2⟩,fun i p hi=>Nat.lt_succ_of_lt (E.old i p hi),fun i x y c hi hc=>?_,fun i j x y y' hi hj hij hBx=>?_,E.base,fun i c hi=>?_⟩
 ·have hc':h'.get i=some c:=hc
  rw[at_ i (E.old i _ hi)] at hc';exact E.obj i x y c hi hc'
 ·show h'.get i=some .dead∨h'.get j=some .dead
  rw[at_ i (E.old i _ hi),at_ j (E.old j _ hj)];exact E.inj i j x y y' hi hj hij hBx
 ·by_cases he:i=s.n
  ·subst he
   simp only[EE,if_pos] at hi;cases hi;exact⟨E.none,by show h'.get s.n=_;rw[hg,if_pos rfl],Nat.lt_succ_self _⟩
  ·simp only[EE,if_neg he] at hi
   obtain⟨h1,h2,h3⟩:=E.kept i c hi;exact⟨h1,by show h'.get i=_;rw[at_ i h3];exact h2,Nat.lt_succ_of_lt h3⟩
theorem dO.late(E:dO P K B m s w){g y:Nat}{o:eW}{o':Obj}(hK:K g=some o)(hr:OR P (m.put g w.heap.size y) g o o'):dO P (HJ K g) B (m.put g w.heap.size y) s (w.alloc o'):=by
 obtain⟨hn,hgo,hlt⟩:=E.kept g o hK;refine⟨fun i x z hi=>?_,fun i p hi=>?_,fun i x z c hi hc=>?_,fun i j x z z' hi hj hij hBx=>?_,by have:=E.base;simp;omega,fun i o2 hi=>?_⟩
 ·by_cases he:i=g
  ·subst he;simp at hi;have:=E.base;exact⟨.inl oM,by simp;omega⟩
  ·rw[Mp.put_ne he] at hi
   obtain⟨h1,h2⟩:=E.low i x z hi;exact⟨h1,by simp;omega⟩
 ·by_cases he:i=g
  ·subst he;exact hlt
  ·rw[Mp.put_ne he] at hi;exact E.old i p hi
 ·by_cases he:i=g
  ·subst he
   rw[hgo] at hc;cases hc;simp only[Mp.put_same,Option.some.injEq,Prod.mk.injEq] at hi;refine⟨o',?_,hr⟩;rw[<-hi.1];show(w.heap.push o')[w.heap.size]? = some o';simp
  ·rw[Mp.put_ne he] at hi
   obtain⟨o2,h1,h2⟩:=E.obj i x z c hi hc;refine⟨o2,?_,h2.mono (Mp.put_le hn)⟩;have:=(E.low i x z hi).2;show(w.heap.push o')[x]? = some o2;rw[Array.getElem?_push_lt this];rw[Array.getElem?_eq_getElem this] at h1;exact h1
 ·by_cases hi':i=g
  ·subst hi'
   rw[Mp.put_ne (Ne.symm hij)] at hj;simp only[Mp.put_same,Option.some.injEq,Prod.mk.injEq] at hi;have:=(E.low j x z' hj).2;omega
  ·by_cases hj':j=g
   ·subst hj'
    rw[Mp.put_ne hij] at hi;simp only[Mp.put_same,Option.some.injEq,Prod.mk.injEq] at hj;have:=(E.low i x z hi).2;omega
   ·rw[Mp.put_ne hi'] at hi
    rw[Mp.put_ne hj'] at hj;exact E.inj i j x z z' hi hj hij hBx
 ·by_cases he:i=g
  ·subst he;simp[HJ] at hi
  ·simp only[HJ,if_neg he] at hi
   obtain⟨h1,h2,h3⟩:=E.kept i o2 hi;exact⟨by rw[Mp.put_ne he];exact h1,h2,h3⟩
end
def bP{α:Type}(F:(α->Bool)->Bool):Prop:=∀k,F k=true->∃a,k a=true/\∀k',k' a=true->F k'=true
theorem bP.ret(a:α):bP (fun k=>k a):=fun _ h=>⟨a,h,fun _ h=>h⟩
theorem bP.no:bP (fun _:α->Bool=>false):=fun _ h=>by cases h
theorem bP.bind{α β:Type}{F:(α->Bool)->Bool}{G:α->(β->Bool)->Bool}(hF:bP F)(hG:∀a,bP (G a)):bP (fun k=>F (fun a=>G a k)):=fun k h=>by
 obtain⟨a,h1,h2⟩:=hF _ h;obtain⟨b,h3,h4⟩:=hG a k h1;exact⟨b,h3,fun k' hk=>h2 _ (h4 k' hk)⟩
theorem bP.ifB{α:Type}{b:Bool}{F G:(α->Bool)->Bool}(hF:bP F)(hG:bP G):bP (fun k=>ifB b (F k) (G k)):=by
 cases b with
 |true=>exact hF
 |false=>exact hG
theorem bP.opt(x:Option α):bP (fun k=>pS x k):=fun k h=>by
 obtain⟨a,rfl,h1⟩:=mY h;exact⟨a,h1,fun k' hk=>hk⟩
theorem bP.get:∀{t:BT α} {n:Nat},bP (fun k=>lM t n k)
 | .leaf,n=>fun k h=>by cases h
 | .node a l r,n=>by
  have h0:(fun k=>lM (.node a l r) n k)=(fun k=>Ev.ifB (Nat.beq n 0) (k a) (Ev.ifB (Nat.beq (Nat.mod n 2) 1) (lM l (Nat.div n 2) k) (lM r (Nat.pred (Nat.div n 2)) k))):=rfl;rw[h0];exact bP.ifB (bP.ret a) (bP.ifB bP.get bP.get)
end Go.Proofs.YtjkdkpckjgaplaaGreat.Ev
namespace Go.Proofs.YtjkdkpckjgaplaaGreat.Ev
open Go Go.RowKit
variable{α:Type}{v:Value}{s:St}{n:Option Nat}
theorem bP.map{α β:Type}{F:(α->Bool)->Bool}(hF:bP F)(f:α->β):bP (fun k=>F (fun a=>k (f a))):=bP.bind hF (fun a=>bP.ret (f a))
theorem bP.upd{v:α}:∀{t:BT α} {n:Nat},bP (fun k=>nN t n v k)
 | .leaf,n=>bP.no
 | .node a l r,n=>by
  have h0:(fun k=>nN (.node a l r) n v k)=(fun k=>Ev.ifB (Nat.beq n 0) (k (.node v l r)) (Ev.ifB (Nat.beq (Nat.mod n 2) 1) (nN l (Nat.div n 2) v (fun l=>k (.node a l r))) (nN r (Nat.pred (Nat.div n 2)) v (fun r=>k (.node a l r))))):=rfl;rw[h0];exact bP.ifB (bP.ret _) (bP.ifB (bP.map bP.upd _) (bP.map bP.upd _))
theorem bP.add{v:α}:∀{t:BT α} {n:Nat},bP (fun k=>qV t n v k)
 | .leaf,n=>by
  have h0:(fun k=>qV .leaf n v k)=(fun k=>Ev.ifB (Nat.beq n 0) (k (.node v .leaf .leaf)) false):=rfl;rw[h0];exact bP.ifB (bP.ret _) bP.no
 | .node a l r,n=>by
  have h0:(fun k=>qV (.node a l r) n v k)=(fun k=>Ev.ifB (Nat.beq n 0) false (Ev.ifB (Nat.beq (Nat.mod n 2) 1) (qV l (Nat.div n 2) v (fun l=>k (.node a l r))) (qV r (Nat.pred (Nat.div n 2)) v (fun r=>k (.node a l r))))):=rfl;rw[h0];exact bP.ifB bP.no (bP.ifB (bP.map bP.add _) (bP.map bP.add _))
theorem bP.puts:∀{l:List α} {t:BT α} {n:Nat},bP (fun k=>fM t n l k)
 |[],t,n=>bP.ret t
 |v::l,t,n=>bP.bind (F:=fun k=>nN t n v k) (G:=fun t k=>fM t (Nat.succ n) l k) bP.upd (fun _=>bP.puts)
theorem bP.adds:∀{l:List α} {t:BT α} {n:Nat},bP (fun k=>eY t n l k)
 |[],t,n=>bP.ret t
 |v::l,t,n=>bP.bind (F:=fun k=>qV t n v k) (G:=fun t k=>eY t (Nat.succ n) l k) bP.add (fun _=>bP.adds)
theorem bP.seg{t:BT α}:∀{n i:Nat},bP (fun k=>mJ t i n k)
 |0,i=>bP.ret []
 |n+1,i=>bP.bind (F:=fun k=>lM t i k) (G:=fun v k=>mJ t (Nat.succ i) n (fun l=>k (v::l))) bP.get (fun v=>bP.map bP.seg _)
section
variable{β:Type}
theorem bP.ptr{G:Nat->Nat->(β->Bool)->Bool}(hG:∀b o,bP (G b o)):bP (fun k=>zS v (fun b o=>G b o k)):=by
 cases v with
 |pointer a=>rcases a with _|⟨b,o,_|_⟩ <;> first|exact bP.no|exact hG b o
 |_=>exact bP.no
theorem bP.slice{v:Value}{Z:Nat->Nat->(β->Bool)->Bool}{G:Nat->Nat->Nat->Nat->(β->Bool)->Bool}(hZ:∀n c,bP (Z n c))(hG:∀b o n c,bP (G b o n c)):bP (fun k=>fX v (fun n c=>Z n c k) (fun b o n c=>G b o n c k)):=by
 cases v with
 |slice a n c=>rcases a with _|⟨b,o,_|_⟩ <;> first|exact bP.no|exact hG b o n c|exact hZ n c
 |_=>exact bP.no
theorem bP.int{v:Value}{G:IntKind->Int->(β->Bool)->Bool}{Z:(β->Bool)->Bool}(hG:∀i n,bP (G i n))(hZ:bP Z):bP (fun k=>tA v (fun i n=>G i n k) (Z k)):=by
 cases v with
 |int i n=>exact hG i n
 |_=>exact hZ
theorem bP.nat{G:Nat->(β->Bool)->Bool}(hG:∀n,bP (G n)):bP (fun k=>uE v (fun n=>G n k)):=by
 cases v with
 |int i n=>cases n with
  |ofNat n=>exact hG n
  |negSucc n=>exact bP.no
 |_=>exact bP.no
theorem bP.bool{v:Value}{G:Bool->(β->Bool)->Bool}(hG:∀b,bP (G b)):bP (fun k=>pP v (fun b=>G b k)):=by
 cases v with
 |bool b=>exact hG b
 |_=>exact bP.no
theorem bP.agg{v:Value}{G:List Value->(β->Bool)->Bool}(hG:∀l,bP (G l)):bP (fun k=>uD v (fun l=>G l k)):=by
 cases v with
 |agg a=>exact hG a.toList
 |_=>exact bP.no
theorem bP.tuple{v:Value}{G:List Value->(β->Bool)->Bool}(hG:∀l,bP (G l)):bP (fun k=>pR v (fun l=>G l k)):=by
 cases v with
 |tuple a=>exact hG a.toList
 |_=>exact bP.no
theorem bP.row{b:Nat}{G:Nat->BT Value->Nat->Bool->(β->Bool)->Bool}(hG:∀n c e o,bP (G n c e o)):bP (fun k=>C4 s b (fun n c e o=>G n c e o k)):=
 bP.bind (F:=fun k=>qW s b k) (G:=fun o k=>@eW.casesOn (fun _=>Bool) o false (fun n c e o=>G n c e o k) (fun _ _ _ _ _ _ _=>false) (fun _=>false) (fun _=>false) (fun _=>false)) bP.get (fun o=>by
  cases o with
  |cells n c e o=>exact hG n c e o
  |_=>exact bP.no)
end
theorem bP.see{β:Type}{b:Nat}{G:BT Value->(β->Bool)->Bool}{H:(Nat->Option Value)->(β->Bool)->Bool}(hG:∀c,bP (G c))(hH:∀g,bP (H g)):bP (fun k=>tH s b (fun c=>G c k) (fun g=>H g k)):=
 bP.bind (F:=fun k=>qW s b k) (G:=fun o k=>@eW.casesOn (fun _=>Bool) o false (fun _ c _ _=>G c k) (fun _ _ _ _ _ _ _=>false) (fun _=>false) (fun _=>false) (fun g=>H g k)) bP.get (fun o=>by
  cases o with
  |cells n c e o=>exact hG c
  |rom g=>exact hH g
  |_=>exact bP.no)
theorem bP.romSeg{g:Nat->Option Value}:∀{n i:Nat},bP (fun k=>fY g i n k)
 |0,i=>bP.ret []
 |n+1,i=>bP.bind (F:=fun k=>pS (g i) k) (G:=fun v k=>fY g (Nat.succ i) n (fun l=>k (v::l))) (bP.opt (g i)) (fun v=>bP.map bP.romSeg _)
theorem bP.romCut{g:Nat->Option Value}{off:Nat}:bP (fun k=>pT g off n k):=by
 cases n with
 |none=>exact bP.opt _
 |some n=>exact bP.map bP.romSeg _
theorem bP.cut{c:BT Value}{off:Nat}:bP (fun k=>Em c off n k):=by
 cases n with
 |none=>exact bP.get
 |some n=>exact bP.map bP.seg _
theorem bP.ld:bP (fun k=>En s n v k):=bP.ptr (fun _ _=>bP.see (fun _=>bP.cut) (fun _=>bP.romCut))
theorem bP.nth:∀{l:List Value} {i:Nat},bP (fun k=>B6 l i k)
 |[],i=>bP.no
 |v::l,0=>bP.ret v
 |v::l,i+1=>bP.nth (l:=l) (i:=i)
end Go.Proofs.YtjkdkpckjgaplaaGreat.Ev
namespace Go.Proofs.YtjkdkpckjgaplaaGreat.Ev
open Go Go.RowKit
variable{v i:Value}{size:Nat}
section
variable{P:Program}{T:BT Value}{s:St}
theorem bP.optV{x:Option Value}:bP (fun k=>pS x (fun v=>gY v k)):=by
 have:(fun k=>pS x (fun v=>gY v k))=(fun k=>pS x k):=by
  funext k
  simp only[eC]
 rw[this];exact bP.opt x
def SD:COp->Bool
 | .mov _ | .pick .. | .ld .. | .nilc _ | .bin .. | .un .. | .conv .. | .mini .. | .tas .. | .bi .. | .ixs .. | .fn .. | .slc .. | .slcn .. | .fa .. | .fld .. | .ia .. | .iaa .. | .ix .. | .ext .. | .len _ | .cap _=>true
 |_=>false
theorem bP.faP{off:Nat}:bP (fun k=>R9 v off k):=bP.ptr (fun b o=>by
 have:(fun k:Value->Bool=>dG (Nat.add o off) (fun o=>k (.pointer (some ⟨b,o,none⟩))))=(fun k=>k (.pointer (some ⟨b,Nat.add o off,none⟩))):=by
  funext k
  rw[bG]
 rw[this];exact bP.ret _)
theorem bP.force{n:Nat}{f:Nat->Value}:bP (fun k=>dG n (fun o=>k (f o))):=by
 have:(fun k:Value->Bool=>dG n (fun o=>k (f o)))=(fun k=>k (f n)):=by
  funext k
  rw[bG]
 rw[this];exact bP.ret _
theorem bP.iaP:bP (fun k=>Sa v i size k):=bP.slice (fun _ _=>bP.no) (fun _ _ _ _=>bP.nat (fun _=>bP.ifB bP.force bP.no))
theorem bP.iaaP{len size:Nat}:bP (fun k=>Eo v i len size k):=bP.ptr (fun _ _=>bP.nat (fun _=>bP.ifB bP.force bP.no))
theorem bP.take:∀{l:List Value} {i n:Nat},bP (fun k=>C5 l i n k)
 |[],_,0=>bP.ret []
 |[],_,_+1=>bP.no
 |_::_,0,0=>bP.ret []
 |v::l,0,n+1=>bP.map (bP.take (l:=l) (i:=0) (n:=n)) (fun l=>v::l)
 |_::l,i+1,n=>bP.take (l:=l) (i:=i) (n:=n)
theorem bP.partP{l:List Value}{off:Nat}{n:Option Nat}:bP (fun k=>Bs l off n k):=by
 cases n with
 |none=>exact bP.nth
 |some n=>exact bP.map bP.take _
theorem bP.ixP{len size:Nat}{n:Option Nat}:bP (fun k=>Sm v i len size n k):=bP.agg (fun _=>bP.nat (fun _=>bP.ifB bP.partP bP.no))
theorem bP.pickP{c a b:Value}:bP (fun k=>uF c a b k):=bP.bool (fun t=>by
 cases t with
 |true=>exact bP.ret a
 |false=>exact bP.ret b)
theorem bP.nilcP:bP (fun k=>Fo v k):=bP.map (bP.opt (evNilc v)) (fun _=>v)
end
end Go.Proofs.YtjkdkpckjgaplaaGreat.Ev
namespace Go.Proofs.YtjkdkpckjgaplaaGreat.Ev
open Go Go.RowKit
theorem gN{α:Type}{k:α->Bool}{a:α}:∀{t:BT α} {n:Nat},t.get n=some a->k a=true->lM t n k=true
 | .leaf,n,h,_=>by cases h
 | .node b l r,n,h,hk=>by
  show Ev.ifB (Nat.beq n 0) (k b) (Ev.ifB (Nat.beq (Nat.mod n 2) 1) (lM l (Nat.div n 2) k) (lM r (Nat.pred (Nat.div n 2)) k))=true;simp only[BT.get] at h;rw[C8];by_cases h0:n=0
  ·rw[if_pos h0] at h
   cases h;simpa [ifB,h0] using hk
  ·rw[if_neg h0] at h
   have e:Nat.beq (Nat.mod n 2) 1=decide (n % 2=1):=par n;rw[e];by_cases hp:n % 2=1
   ·rw[if_pos hp] at h
    have:=gN h hk;simp only[h0,hp,decide_false,decide_true,Ev.ifB];exact this
   ·rw[if_neg hp] at h
    have:=gN (n:=n / 2-1) h hk;simp only[h0,hp,decide_false,Ev.ifB];exact this
theorem sH{T:BT Value}{x:X}{v:Value}{k:Value->Bool}(h:XV T x v)(hk:k v=true):bO T x k=true:=by
 cases x with
 |t i=>exact gN h hk
 |c u=>simp only[XV] at h;subst h;exact hk
theorem An{T:BT Value}:∀{l:List X} {vs:List Value} {k:List Value->Bool},Ef T l vs->k vs=true->iZ T l k=true
 |[],vs,k,h,hk=>by simp only[Ef] at h;subst h;exact hk
 |x::l,vs,k,h,hk=>by
  simp only[Ef] at h;obtain⟨v,vs',rfl,h1,h2⟩:=h;show bO T x (fun v=>iZ T l (fun l=>k (v::l)))=true;exact sH h1 (An h2 hk)
theorem uM{T:BT Value}{x:Option X}{v:Option Value}{k:Option Value->Bool}(h:XO T x v)(hk:k v=true):eU T x k=true:=by
 cases x with
 |none=>simp only[XO] at h;subst h;exact hk
 |some x=>
  simp only[XO] at h;obtain⟨u,rfl,h1⟩:=h;show bO T x (fun v=>k (some v))=true;exact sH h1 hk
end Go.Proofs.YtjkdkpckjgaplaaGreat.Ev
namespace Go.Proofs.YtjkdkpckjgaplaaGreat.Ev
open Go Go.RowKit
def rH:COp->Bool
 | .ld .. | .slc ..=>true
 |_=>false
section
variable{P:Program}{T T':BT Value}{s s':St}
theorem Ef.up:∀{l:List X} {vs:List Value},(∀x∈l,∀v,XV T x v->XV T' x v)->Ef T l vs->Ef T' l vs
 |[],vs,_,h=>by simpa only[Ef] using h
 |x::l,vs,hx,h=>by
  simp only[Ef] at h ⊢;obtain⟨v,vs',rfl,h1,h2⟩:=h;exact⟨v,vs',rfl,hx x sM v h1,Ef.up (fun y hy=>hx y (by simp[hy])) h2⟩
theorem ats{l:List X}{G G':List Value->Bool}(hx:∀x∈l,∀v,XV T x v->XV T' x v)(h:∀v,G v=true->G' v=true)(hk:iZ T l G=true):iZ T' l G'=true:=by
 obtain⟨v,hv,hk⟩:=mP hk;exact An (Ef.up hx hv) (h v hk)
end
end Go.Proofs.YtjkdkpckjgaplaaGreat.Ev
namespace Go.Proofs.YtjkdkpckjgaplaaGreat.Ev
open Go Go.RowKit
variable{s:St}{e:Nat}
def St.ext(s s':St):Prop:=∀j o,s.h.get j=some o->s'.h.get j=some o
def TY(T T':BT Value)(l:List X):Prop:=∀x∈l,∀v,XV T x v->XV T' x v
def bE(R:St->Prop)(xs:List X)(T:BT Value)(s:St)(G:BT Value->St->(Value->St->Bool)->Bool):Prop:=
 ∀k,G T s k=true->∃v,k v s=true/\∀T' s' k',TY T T' xs->R s'->k' v s'=true->G T' s' k'=true
section
variable{R:St->Prop}{xs:List X}{T:BT Value}{s:St}
theorem bE.ret(v:Value):bE R xs T s (fun _ s k=>k v s):=fun k h=>⟨v,h,fun _ _ _ _ _ h=>h⟩
theorem bE.no:bE R xs T s (fun _ _ _=>false):=fun k h=>by cases h
theorem bE.par{F:(Value->Bool)->Bool}(hF:bP F):bE R xs T s (fun _ s k=>F (fun v=>k v s)):=fun k h=>by
 obtain⟨v,h1,h2⟩:=hF _ h;exact⟨v,h1,fun T' s' k' _ _ hk=>h2 (fun v=>k' v s') hk⟩
theorem bE.val{x:X}{G:Value->BT Value->St->(Value->St->Bool)->Bool}(hx:x∈xs)(h:∀v,bE R xs T s (G v)):bE R xs T s (fun T s k=>bO T x (fun v=>G v T s k)):=fun k hk=>by
 obtain⟨v,hv,hk⟩:=Q4 hk;obtain⟨u,h1,h2⟩:=h v k hk;exact⟨u,h1,fun T' s' k' hT hR hk'=>sH (hT x hx v hv) (h2 T' s' k' hT hR hk')⟩
theorem bE.vals{l:List X}{G:List Value->BT Value->St->(Value->St->Bool)->Bool}(hx:∀x∈l,x∈xs)(h:∀v,bE R xs T s (G v)):bE R xs T s (fun T s k=>iZ T l (fun v=>G v T s k)):=fun k hk=>by
 obtain⟨v,hv,hk⟩:=mP hk;obtain⟨u,h1,h2⟩:=h v k hk;exact⟨u,h1,fun T' s' k' hT hR hk'=>An (Ef.up (fun x hx'=>hT x (hx x hx')) hv) (h2 T' s' k' hT hR hk')⟩
theorem bE.valO{x:Option X}{G:Option Value->BT Value->St->(Value->St->Bool)->Bool}(hx:∀y∈xsO x,y∈xs)(h:∀v,bE R xs T s (G v)):bE R xs T s (fun T s k=>eU T x (fun v=>G v T s k)):=fun k hk=>by
 obtain⟨v,hv,hk⟩:=gW hk;obtain⟨u,h1,h2⟩:=h v k hk;refine⟨u,h1,fun T' s' k' hT hR hk'=>uM ?_ (h2 T' s' k' hT hR hk')⟩;cases x with
 |none=>simpa only[XO] using hv
 |some y=>
  simp only[XO] at hv ⊢;obtain⟨u,rfl,h1⟩:=hv;exact⟨u,rfl,hT y (hx y (by simp[xsO])) u h1⟩
theorem Ca.up{T T':BT Value}:∀{l:List (Nat×Nat×X)} {vs:List (Nat×Nat×Value)},(∀p∈l,∀v,XV T p.2.2 v->XV T' p.2.2 v)->Ca T l vs->Ca T' l vs
 |[],vs,_,h=>by simpa only[Ca] using h
 |(o,n,x)::l,vs,hx,h=>by
  simp only[Ca] at h ⊢;obtain⟨v,vs',rfl,h1,h2⟩:=h;exact⟨v,vs',rfl,hx (o,n,x) sM v h1,Ca.up (fun y hy=>hx y (by simp[hy])) h2⟩
theorem BB{T:BT Value}:∀{l:List (Nat×Nat×X)} {vs:List (Nat×Nat×Value)} {k:List (Nat×Nat×Value)->Bool},Ca T l vs->k vs=true->pO T l k=true
 |[],vs,k,h,hk=>by simp only[Ca] at h;subst h;exact hk
 |(o,n,x)::l,vs,k,h,hk=>by
  simp only[Ca] at h;obtain⟨v,vs',rfl,h1,h2⟩:=h;show bO T x (fun v=>pO T l (fun l=>k ((o,n,v)::l)))=true;exact sH h1 (BB h2 hk)
theorem bE.parts{l:List (Nat×Nat×X)}{G:List (Nat×Nat×Value)->BT Value->St->(Value->St->Bool)->Bool}(hx:∀p∈l,p.2.2∈xs)(h:∀v,bE R xs T s (G v)):bE R xs T s (fun T s k=>pO T l (fun v=>G v T s k)):=fun k hk=>by
 obtain⟨v,hv,hk⟩:=mZ hk;obtain⟨u,h1,h2⟩:=h v k hk;exact⟨u,h1,fun T' s' k' hT hR hk'=>BB (Ca.up (fun x hx'=>hT _ (hx x hx')) hv) (h2 T' s' k' hT hR hk')⟩
theorem FA{v:Value}{k:Value->St->Bool}(h:k v s=true):oK s k (some v)=true:=by simpa [oK,pS,vK,eC] using h
theorem bE.opt(x:Option Value):bE R xs T s (fun _ s k=>oK s k x):=fun k h=>by
 obtain⟨v,rfl,hk⟩:=pW h;exact⟨v,hk,fun T' s' k' _ _ hk'=>FA hk'⟩
theorem bE.slice{v:Value}{Z:Nat->Nat->BT Value->St->(Value->St->Bool)->Bool}{G:Nat->Nat->Nat->Nat->BT Value->St->(Value->St->Bool)->Bool}(hZ:∀n c,bE R xs T s (Z n c))(hG:∀b o n c,bE R xs T s (G b o n c)) :
 bE R xs T s (fun T s k=>fX v (fun n c=>Z n c T s k) (fun b o n c=>G b o n c T s k)):=by
 cases v with
 |slice a n c=>rcases a with _|⟨b,o,_|_⟩ <;> first|exact bE.no|exact hG b o n c|exact hZ n c
 |_=>exact bE.no
theorem MO{b n e:Nat}{c:BT Value}{op:Bool}{k:Nat->BT Value->Nat->Bool->Bool}(h:s.h.get b=some (.cells n c e op))(hk:k n c e op=true):C4 s b k=true:=by
 obtain⟨h',m⟩:=s;exact gN (k:=fun o=>@eW.casesOn (fun _=>Bool) o false k (fun _ _ _ _ _ _ _=>false) (fun _=>false) (fun _=>false) (fun _=>false)) h hk
theorem bE.ld{n:Option Nat}{a:Value}(hR:∀s',R s'->s.ext s'):bE R xs T s (fun _ s k=>En s n a (fun v=>k v s)):=fun k h=>by
 obtain⟨b,off,rfl,h⟩:=mQ h;have key:∀(s':St) (k:Value->Bool) (o:eW),s'.h.get b=some o->@eW.casesOn (fun _=>Bool) o false (fun _ c _ _=>Em c off n k) (fun _ _ _ _ _ _ _=>false) (fun _=>false) (fun _=>false) (fun g=>pT g off n k)=true->En s' n (.pointer (some ⟨b,off,none⟩)) k=true:=by
  rintro⟨h',m⟩ k o h1 h2;exact gN (k:=fun o=>@eW.casesOn (fun _=>Bool) o false (fun _ c _ _=>Em c off n k) (fun _ _ _ _ _ _ _=>false) (fun _=>false) (fun _=>false) (fun g=>pT g off n k)) h1 h2
 rcases zY h with ⟨N,c,e,op,hg,h⟩|⟨g,hg,h⟩
 ·obtain⟨v,h1,h2⟩:=bP.cut _ h
  exact⟨v,h1,fun T' s' k' _ hs hk=>key s' _ _ (hR s' hs b _ hg) (h2 (fun v=>k' v s') hk)⟩
 ·obtain⟨v,h1,h2⟩:=bP.romCut _ h
  exact⟨v,h1,fun T' s' k' _ hs hk=>key s' _ _ (hR s' hs b _ hg) (h2 (fun v=>k' v s') hk)⟩
theorem HK{s s':St}(h:s.ext s'){b:Nat}{q:Nat×Nat×Bool}(hq:iW s b=some q):iW s' b=some q:=by
 unfold iW at hq ⊢;split at hq
 ·rename_i n c e op hg
  rw[h b _ hg];exact hq
 ·cases hq
theorem HL{s s':St}(h:s.ext s'){e size:Nat}{x r:Value}{lo hi mx:Option Value}(hr:evSlc (iW s) e size x lo hi mx=some r):evSlc (iW s') e size x lo hi mx=some r:=by
 by_cases hx:∃b off len cap,x = .slice (some ⟨b,off,none⟩) len cap
 ·obtain⟨b,off,len,cap,rfl⟩:=hx
  have e0:∀row,evSlc row e size (.slice (some ⟨b,off,none⟩) len cap) lo hi mx=(match bnd 0 lo,bnd len hi,evMx mx with
   |some l,some h,some m=>
    sel (Nat.ble OPEN cap)
     (match row b with
     |some (k,e',op)=>sel (op && Nat.beq e e' && Nat.beq off ((cap-OPEN)*size) && !Nat.beq size 0 && (Nat.beq cap OPEN || !Nat.beq len 0)) (evSlcOpen b size l h k (cap-OPEN) m) none
     |none=>none)
     (sel (Nat.ble h cap) (evSlcAt b off len cap size l h m) none)
   |_,_,_=>none):=fun _=>rfl
  rw[e0] at hr ⊢;split at hr
  ·rename_i l hh M b1 b2 b3
   rw[tK] at hr ⊢;split at hr
   ·rename_i hop
    rw[if_pos hop];split at hr
    ·rename_i k e' op hrow
     rw[HK h hrow];exact hr
    ·cases hr
   ·rename_i hop
    rw[if_neg hop];exact hr
  ·cases hr
 ·have e0:∀row row',evSlc row e size x lo hi mx=evSlc row' e size x lo hi mx:=by
   intro row row';cases x with
   |slice a n c=>
    rcases a with _|⟨b,o,_|sp⟩
    ·cases n <;> cases c <;> rfl
    ·exact absurd ⟨b,o,n,c,rfl⟩ hx
    ·rfl
   |_=>rfl
  rw[e0 (iW s') (iW s)];exact hr
theorem bE.slc{e size:Nat}{x:Value}{lo hi mx:Option Value}(hR:∀s',R s'->s.ext s'):bE R xs T s (fun _ s k=>nO s e size x lo hi mx (fun v=>k v s)):=fun k h=>by
 obtain⟨v,hv,h1⟩:=mY (k:=fun v=>gY v (fun v=>k v s)) h;rw[eC] at h1;refine⟨v,h1,fun T' s' k' _ hs hk=>?_⟩;show pS (evSlc (iW s') e size x lo hi mx) (fun v=>gY v (fun v=>k' v s'))=true;rw[HL (hR s' hs) hv];show gY v (fun v=>k' v s')=true;rw[eC];exact hk
end
theorem bP.cells{β:Type}{a:Array Value}{G:List Value->(β->Bool)->Bool}(hG:∀l,bP (G l)):bP (fun k=>@Array.rec Value (fun _=>Bool) (fun l=>G l k) a):=by
 cases a with
 |mk l=>exact hG l
theorem bP.fill:∀{ps:List (Nat×Nat×Value)} {c:BT Value},bP (fun k=>nS c ps k)
 |[],c=>bP.ret c
 |(o,n,v)::ps,c=>by
  have h0:(fun k=>nS c ((o,n,v)::ps) k)=(fun k=>@Array.rec Value (fun _=>Bool) (fun l=>Ev.ifB (Nat.beq (mK l) n) (Ev.ifB (eZ l) (fM c o l (fun c=>nS c ps k)) false) false) v.cells):=rfl;rw[h0];exact bP.cells (fun l=>bP.ifB (bP.ifB (bP.bind (F:=fun k=>fM c o l k) (G:=fun c k=>nS c ps k) bP.puts (fun _=>bP.fill)) bP.no) bP.no)
theorem bP.buildP{z:List Value}{ps:List (Nat×Nat×Value)}:bP (fun k=>rD z ps k):=
 bP.bind (F:=fun k=>eY .leaf 0 z k) (G:=fun c k=>nS c ps (fun c=>mJ c 0 (mK z) (fun l=>k (Value.agg ⟨l⟩)))) bP.adds
  (fun c=>bP.bind (F:=fun k=>nS c ps k) (G:=fun c k=>mJ c 0 (mK z) (fun l=>k (Value.agg ⟨l⟩))) bP.fill (fun c=>bP.map (F:=fun k=>mJ c 0 (mK z) k) bP.seg (fun l=>Value.agg ⟨l⟩)))
def Cj:COp->Bool
 | .build ..=>true
 |c=>SD c
theorem Dn{P:Program}{R:St->Prop}{T:BT Value}{c:COp}(h:Cj c=true)(hR:rH c=true->∀s',R s'->s.ext s'):bE R (opXs c) T s (fun T s k=>V6 P T s c k):=by
 cases c with
 |mov x=>exact bE.val (by simp[opXs]) fun v=>bE.ret v
 |pick c a b=>exact bE.val (by simp[opXs]) fun _=>bE.val (by simp[opXs]) fun _=>bE.val (by simp[opXs]) fun _=>bE.par bP.pickP
 |ld a n=>exact bE.val (by simp[opXs]) fun _=>bE.ld (hR rfl)
 |nilc x=>exact bE.val (by simp[opXs]) fun _=>bE.par bP.nilcP
 |bin b t d x y=>exact bE.val (by simp[opXs]) fun _=>bE.val (by simp[opXs]) fun _=>bE.par bP.optV
 |un u x=>exact bE.val (by simp[opXs]) fun _=>bE.opt _
 |conv a b x=>exact bE.val (by simp[opXs]) fun _=>bE.opt _
 |mini t x=>exact bE.val (by simp[opXs]) fun _=>bE.opt _
 |tas x a b o=>exact bE.val (by simp[opXs]) fun _=>bE.opt _
 |bi b ts t l=>exact bE.vals (by simp[opXs]) fun _=>bE.opt _
 |ixs t x i=>exact bE.val (by simp[opXs]) fun _=>bE.val (by simp[opXs]) fun _=>bE.opt _
 |fn f p c=>exact bE.vals (fun x hx=>by simp only[opXs];exact List.mem_append_left _ hx) fun p=>bE.vals (fun x hx=>by simp only[opXs];exact List.mem_append_right _ hx) fun c=>bE.ret (Value.func (.func f) ⟨p⟩ ⟨c⟩)
 |slc e size x lo hi mx=>
  exact bE.val (by simp[opXs]) fun _=>bE.valO (fun y hy=>by simp only[opXs,List.mem_cons,List.mem_append];exact .inr (.inl (.inl hy))) fun _=>bE.valO (fun y hy=>by simp only[opXs,List.mem_cons,List.mem_append];exact .inr (.inl (.inr hy))) fun _=>
   bE.valO (fun y hy=>by simp only[opXs,List.mem_cons,List.mem_append];exact .inr (.inr hy)) fun _=>bE.slc (hR rfl)
 |slcn t x lo hi mx=>
  exact bE.val (by simp[opXs]) fun _=>bE.valO (fun y hy=>by simp only[opXs,List.mem_cons,List.mem_append];exact .inr (.inl (.inl hy))) fun _=>bE.valO (fun y hy=>by simp only[opXs,List.mem_cons,List.mem_append];exact .inr (.inl (.inr hy))) fun _=>
   bE.valO (fun y hy=>by simp only[opXs,List.mem_cons,List.mem_append];exact .inr (.inr hy)) fun _=>bE.opt _
 |fa x off=>exact bE.val (by simp[opXs]) fun _=>bE.par bP.faP
 |fld x off n=>exact bE.val (by simp[opXs]) fun _=>bE.par (bP.agg fun _=>bP.partP)
 |ia x i size=>exact bE.val (by simp[opXs]) fun _=>bE.val (by simp[opXs]) fun _=>bE.par bP.iaP
 |iaa x i len size=>exact bE.val (by simp[opXs]) fun _=>bE.val (by simp[opXs]) fun _=>bE.par bP.iaaP
 |ix x i len size n=>exact bE.val (by simp[opXs]) fun _=>bE.val (by simp[opXs]) fun _=>bE.par bP.ixP
 |ext x i=>exact bE.val (by simp[opXs]) fun _=>bE.par (bP.tuple fun _=>bP.nth)
 |len x=>exact bE.val (by simp[opXs]) fun _=>bE.slice (fun n _=>bE.ret (Value.int .i64 (.ofNat n))) (fun _ _ n _=>bE.ret (Value.int .i64 (.ofNat n)))
 |cap x=>exact bE.val (by simp[opXs]) fun _=>bE.opt _
 |build z ps=>exact bE.parts (fun p hp=>by simp only[opXs];exact List.mem_map_of_mem hp) fun _=>bE.par bP.buildP
 |_=>cases h
theorem EF{a b:IntKind}(h:kindEq a b=true):a=b:=by cases a <;> cases b <;> first|rfl|cases h
theorem HM{a b:Int}(h:intEq a b=true):a=b:=by
 cases a <;> cases b <;> simp[intEq] at h <;> simp[h]
mutual
theorem Ck:∀(a b:Value),eqV a b=true->a=b
 | .bool a,b,h=>by
  cases b with
  |bool b=>cases a <;> cases b <;> first|rfl|(simp[eqV] at h)
  |_=>simp[eqV] at h
 | .int k a,b,h=>by
  cases b with
  |int k' b=>
   simp only[eqV,Bool.and_eq_true] at h;rw[EF h.1,HM h.2]
  |_=>simp[eqV] at h
 | .float _ _,b,h=>by cases b <;> simp[eqV] at h
 | .complex _ _ _,b,h=>by cases b <;> simp[eqV] at h
 | .string a,b,h=>by
  cases b with
  |string b=>simp only[eqV,decide_eq_true_eq] at h;rw[h]
  |_=>simp[eqV] at h
 | .pointer a,b,h=>by
  cases b with
  |pointer b=>
   rcases a with _|⟨a,o,_|_⟩ <;> rcases b with _|⟨b,o',_|_⟩ <;> first
    |rfl
    |(simp[eqV] at h;done)
    |(simp only[eqV,Bool.and_eq_true,Nat.beq_eq] at h;simp_all)
  |_=>cases a <;> simp[eqV] at h
 | .slice a l c,b,h=>by
  cases b with
  |slice b l' c'=>
   rcases a with _|⟨a,o,_|_⟩ <;> rcases b with _|⟨b,o',_|_⟩ <;> first
    |(simp[eqV] at h;done)
    |(simp only[eqV,Bool.and_eq_true,Nat.beq_eq] at h;simp_all)
  |_=>cases a <;> simp[eqV] at h
 | .map _,b,h=>by cases b <;> simp[eqV] at h
 | .chan _,b,h=>by cases b <;> simp[eqV] at h
 | .func f p c,b,h=>by
  cases b with
  |func f' p' c'=>
   cases f <;> cases f' <;> first
    |(simp[eqV] at h;done)
    |(
     simp only[eqV,Bool.and_eq_true,Nat.beq_eq] at h;obtain⟨⟨h1,h2⟩,h3⟩:=h;rw[eqA_eq p p' h2,eqA_eq c c' h3]
     simp_all)
  |_=>cases f <;> simp[eqV] at h
 | .nilFunc,b,h=>by cases b <;> first|rfl|(simp[eqV] at h)
 | .nilIface,b,h=>by cases b <;> first|rfl|(simp[eqV] at h)
 | .iface t v,b,h=>by
  cases b with
  |iface t' v'=>
   simp only[eqV,Bool.and_eq_true,Nat.beq_eq] at h;rw[Ck v v' h.2]
   simp_all
  |_=>simp[eqV] at h
 | .agg a,b,h=>by
  cases b with
  |agg b=>simp only[eqV] at h;rw[eqA_eq a b h]
  |_=>simp[eqV] at h
 | .tuple a,b,h=>by
  cases b with
  |tuple b=>simp only[eqV] at h;rw[eqA_eq a b h]
  |_=>simp[eqV] at h
theorem eqA_eq:∀(a b:Array Value),eqA a b=true->a=b
 |⟨a⟩,⟨b⟩,h=>by simp only[eqA] at h;rw[eqL_eq a b h]
theorem eqL_eq:∀(a b:List Value),eqL a b=true->a=b
 |[],[],_=>rfl
 |a::x,b::y,h=>by
  simp only[eqL,Bool.and_eq_true] at h;rw[Ck a b h.1,eqL_eq x y h.2]
 |[],_::_,h=>by simp[eqL] at h
 |_::_,[],h=>by simp[eqL] at h
end
end Go.Proofs.YtjkdkpckjgaplaaGreat.Ev
namespace Go.Proofs.YtjkdkpckjgaplaaGreat.Ev
open Go Go.RowKit
variable{t:TypeId}
def IG:COp->Bool
 | .new .. | .box .. | .mks .. | .lit ..=>true
 |_=>false
def IH(P:Program)(T:BT Value)(o:Oper)(v:Value)(g:Nat)(ob:eW):Prop:=
 ∀(m:Mp) (w:World) (ρ:Operand->Value),Hρ m T ρ o.op->m g=none->∃u o',(execOp ρ o).run P w = .ok (.value u) (w.alloc o')/\OR P (m.put g w.heap.size 0) g ob o'/\VR (m.put g w.heap.size 0) v u
def Do(P:Program)(T:BT Value)(s:St)(o:Oper)(k:Value->St->Bool):Prop:=
 ∃v ob h',k v ⟨h',s.n+1⟩=true/\s.h.get s.n=none/\(∀j,h'.get j=if j=s.n then some ob else s.h.get j)/\IH P T o v s.n ob
section
variable{P:Program}{s:St}{T:BT Value}{k:Value->St->Bool}{dst:Option Tmp}{ty:TypeId}{pos:String}{af:Array Edge}{gd:Option (Nat×Bool)}{c:COp}
theorem II(m:Mp)(g x:Nat):VR (m.put g x 0) (ptr g) (.pointer (some ⟨x,0,none⟩)):=by
 simp only[ptr,VR];exact⟨trivial,_,_,Mp.put_same _ _ _ _,rfl⟩
theorem Dp(m:Mp)(g x l c:Nat)(h:c<OPEN):VR (m.put g x 0) (.slice (some ⟨g,0,none⟩) l c) (.slice (some ⟨x,0,none⟩) l c):=by
 simp only[VR];refine⟨trivial,?_⟩;rw[if_pos h];exact⟨_,_,Mp.put_same _ _ _ _,rfl⟩
theorem IJ(hc:compOp P ⟨dst,.alloc t,ty,pos,af,gd⟩=some c)(hk:V6 P T s c k=true):Do P T s ⟨dst,.alloc t,ty,pos,af,gd⟩ k:=by
 simp only[compOp] at hc;obtain⟨z,h1,rfl⟩:=Option.map_eq_some_iff.1 hc;obtain⟨i,v,hi,hv,rfl,hf,h2⟩:=fB h1;have hk:=gM (k:=fun g=>jY s (.cells v.cells.size (.ofList v.cells.toList) t false) (k (ptr g))) hk;obtain⟨h',hk,hn,hg⟩:=oU hk;refine⟨_,_,h',hk,hn,hg,fun m w ρ _ hm=>⟨.pointer (some ⟨w.heap.size,0,none⟩),.cells v.cells t (0,0),?_,?_,II m _ _⟩⟩
 ·simp[execOp,Instr.alloc,gD hi hv,newVar,newRow]
 ·have:=sF (P:=P) (m:=m.put s.n w.heap.size 0) (i:=s.n) (N:=v.cells.size) (e:=t) (fun j u h=>pV h) (LR.flat v.cells.toList hf) h2 sM
  simpa using this
theorem IK{x:Operand}(hc:compOp P ⟨dst,.box t x,ty,pos,af,gd⟩=some c)(hk:V6 P T s c k=true):Do P T s ⟨dst,.box t x,ty,pos,af,gd⟩ k:=by
 simp only[compOp] at hc;obtain⟨X,h1,rfl⟩:=Option.map_eq_some_iff.1 hc;obtain⟨v,hv,hk1⟩:=Q4 (k:=fun v=>HB s t v k) hk;have hk:=gM (k:=fun g=>gY v (fun v=>@Array.rec Value (fun _=>Bool) (fun l=>ifB (eZ l) (dG (mK l) (fun m=>eY .leaf 0 l (fun c=>jY s (.cells m c t false) (k (ptr g))))) false) v.cells)) hk1;rw[eC] at hk;obtain⟨l,hl⟩:∃l,v.cells=⟨l⟩:=⟨v.cells.toList,rfl⟩;rw[hl] at hk;have hk0:ifB (eZ l) (dG (mK l) (fun m=>eY .leaf 0 l (fun c=>jY s (.cells m c t false) (k (ptr s.n))))) false=true:=hk;obtain⟨hall,hk'⟩:=Z5 hk0;rw[bG] at hk';obtain⟨c,hk',hcg⟩:=kL hk';obtain⟨h',hk2,hn,hg⟩:=oU hk';refine⟨_,_,h',hk2,hn,hg,fun m w ρ hρ hm=>?_⟩;have hvr:VR m v (ρ x):=hρ x (by simp[Op.operands]) X v h1 hv;have hcells:=hvr.cells;rw[hl] at hcells;refine⟨.pointer (some ⟨w.heap.size,0,none⟩),.cells (ρ x).cells t (0,0),?_,?_,II m _ _⟩
 ·simp[execOp,Instr.box,newVar,newRow]
 ·have:=sF (P:=P) (m:=m.put s.n w.heap.size 0) (i:=s.n) (N:=mK l) (e:=t) (c:=c) (l:=l) hcg (LR.mono (Mp.put_le hm) _ hcells) (sD l hall) (kK l)
  simpa using this
theorem IL{x y:Operand}(hc:compOp P ⟨dst,.makeSlice t x y,ty,pos,af,gd⟩=some c)(hk:V6 P T s c k=true):Do P T s ⟨dst,.makeSlice t x y,ty,pos,af,gd⟩ k:=by
 simp only[compOp] at hc;split at hc
 ·rename_i e X Y ht h2 h3
  split at hc
  ·rename_i i z hi hz
   obtain⟨h6,hc⟩:=cV hc;cases hc;have hs:z.size=i.size:=by simpa using h6
   obtain⟨vx,hx,hk1⟩:=Q4 (k:=fun l=>bO T Y (fun c=>C7 s e i.size i.bytes z.toList l c k)) hk;obtain⟨vy,hy,hk⟩:=Q4 hk1;obtain⟨i',v,hi2,hv,hvz,hf,h1⟩:=fB hz;rw[hi] at hi2;cases hi2;unfold C7 at hk;obtain⟨ka,na,rfl,hk⟩:=vZ hk;obtain⟨kb,nb,rfl,hk1⟩:=vZ hk;clear hk;obtain⟨h2',hk2⟩:=Z5 hk1;clear hk1;obtain⟨h3',hk3⟩:=Z5 hk2;clear hk2;have:=kC h2';subst this;have:=kC h3';subst this;obtain⟨_,l,hl,hk4⟩:=kB hk3;clear hk3;cases hl;obtain⟨_,c,hc,hk5⟩:=kB hk4;clear hk4;cases hc;obtain⟨h4,hk6⟩:=Z5 hk5;clear hk5;obtain⟨h5,hk7⟩:=Z5 hk6;clear hk6;obtain⟨h6,hk8⟩:=Z5 hk7;clear hk7;have h4':l<=c:=by simpa using h4
   have h5':c<=1048576:=by simpa using h5
   have h6':i.bytes*c<=1073741824:=by simpa using h6
   obtain⟨tr,hk9,htr⟩:=kL hk8;have hk10:=gM hk9;rw[bG] at hk10;obtain⟨h',hk11,hn,hg⟩:=oU hk10;refine⟨_,_,h',hk11,hn,hg,fun m w ρ hρ hm=>?_⟩;have ea:=(hρ x (by simp[Op.operands]) X _ h2 hx).int_inv;have eb:=(hρ y (by simp[Op.operands]) Y _ h3 hy).int_inv;refine⟨.slice (some ⟨w.heap.size,0,none⟩) l c,.cells ⟨repeatN z.toList c⟩ e (0,0),?_,?_,Dp m _ _ _ _ (by unfold OPEN;omega)⟩
   ·have w1:IntKind.i64.wrap (Int.ofNat l)=l:=by
     rw[<-gS];simp only[wrapq];have:fits (Int.ofNat l)=true:=by simp only[fits,Nat.blt_eq];omega
     rw[this];rfl
    have w2:IntKind.i64.wrap (Int.ofNat c)=c:=by
     rw[<-gS];simp only[wrapq];have:fits (Int.ofNat c)=true:=by simp only[fits,Nat.blt_eq];omega
     rw[this];rfl
    have hcell:(Array.range (c*i.size)).map (fun j=>(if c*i.size=0 then #[] else z)[j % (if c*i.size=0 then #[] else z).size]!)=⟨repeatN z.toList c⟩:=by
     by_cases h0:c*i.size=0
     ·rw[h0]
      apply Array.ext'
      have:(repeatN z.toList c).length=0:=by rw[cZ];show c*z.size=0;rw[hs];exact h0
      have e0:=List.eq_nil_of_length_eq_zero this;simp only[e0,Array.toList_map,Array.toList_range,List.range_zero,List.map_nil]
     ·rw[if_neg h0,<-hs];exact lQ z c
    have hb1:¬(i.bytes:Int)*(c:Int)>2 ^ 48:=by
     rw[<-Int.natCast_mul];omega
    have hc0:¬((c:Int)<0):=oM
    have hl0:¬((l:Int)<0):=oM
    have hlc:¬((l:Int)>(c:Int)):=oM
    have he:execOp ρ ⟨dst,.makeSlice t x y,ty,pos,af,gd⟩=(do pure (Next.value (<-Instr.makeSlice t (ρ x) (ρ y)))):=rfl;rw[he,ea,eb];have key:(Instr.makeSlice t (.int .i64 (Int.ofNat l)) (.int .i64 (Int.ofNat c))).run P w = .ok (.slice (some ⟨w.heap.size,0,none⟩) l c) (w.alloc (.cells ⟨repeatN z.toList c⟩ e (0,0))):=by
     unfold Instr.makeSlice;simp only[Sem.run_bind,Y5 ht,Result.andThen_ok,asInt,asIntOf,Sem.run_pure,fO hi,w1,w2];rw[if_neg (by simp only[hc0,hl0,hlc,hb1,decide_false,Bool.or_self,Bool.false_eq_true,not_false_eq_true])];simp only[Sem.run_bind,run_askRoom,bQ hi,Result.andThen_ok,Int.toNat_natCast,Sem.run_ite];by_cases h0:c*i.size=0
     ·rw[if_pos h0]
      rw[if_pos h0] at hcell;simp only[Sem.run_bind,Sem.run_pure,Result.andThen_ok,newRow,run_newObj];rw[hcell];rfl
     ·rw[if_neg h0]
      rw[if_neg h0] at hcell;simp only[Sem.run_bind,Sem.run_pure,Result.andThen_ok,newRow,run_newObj,gD hi hv,hvz];rw[hcell];rfl
    rw[Sem.run_bind,key];rfl
   ·exact sF htr (LR.flat _ (iJ hf c)) (kD h1 c) (by rw[cZ];show c*i.size=c*z.size;rw[hs])
  ·cases hc
 ·cases hc
open Classical in
theorem IM{len:Nat}{qs:Array (Nat×Operand)}(hc:compOp P ⟨dst,.buildSlice t len qs,ty,pos,af,gd⟩=some c)(hk:V6 P T s c k=true):Do P T s ⟨dst,.buildSlice t len qs,ty,pos,af,gd⟩ k:=by
 simp only[compOp] at hc;split at hc
 ·rename_i e ht
  split at hc
  ·rename_i i z hi hz
   split at hc
   ·rename_i xs h4
    obtain⟨h5,hc⟩:=cV hc;cases hc;simp only[Bool.and_eq_true,Nat.ble_eq] at h5;obtain⟨⟨⟨h5,h6⟩,h16⟩,hlen⟩:=h5;have hzs:z.size=i.size:=by simpa using h6
    obtain⟨ps,hv,hk1⟩:=mZ (k:=fun ps=>C6 s e len (len*i.size) (repeatN z.toList len) ps k) hk;obtain⟨i',zv,hi2,hzv,hvz,hf,hone⟩:=fB hz;rw[hi] at hi2;cases hi2;unfold C6 at hk1;have hrl:(repeatN z.toList len).length=len*i.size:=by rw[cZ];show len*z.size=_;rw[hzs]
    obtain⟨c,hk2,hc⟩:=kL hk1;obtain⟨c',hk3,hpar⟩:=bP.fill _ hk2;have hk4:=gM (k:=fun g=>jY s (.cells (len*i.size) c' e false) (k (.slice (some ⟨g,0,none⟩) len len))) hk3;obtain⟨h',hk5,hn,hg⟩:=oU hk4;refine⟨_,_,h',hk5,hn,hg,fun m w ρ hρ hm=>?_⟩;have hp:=uJ (m:=m) (ρ:=ρ) h4 hv hρ;have hff:∀v∈repeatN z.toList len,flat v=true:=by
     have:∀(l:List Value),flatL l=true->∀v∈l,flat v=true:=by
      intro l
      induction l with
      |nil=>intro _ v hv;cases hv
      |cons a l ih=>
       intro h v hv;simp only[flatL,Bool.and_eq_true] at h;rcases List.mem_cons.1 hv with rfl|hv
       ·exact h.1
       ·exact ih h.2 v hv
     exact this _ (iJ hf len)
    obtain⟨c2,cs',hc2,hfill,hsz,hc'⟩:=yJ (m:=m) (cs:=⟨repeatN z.toList len⟩) (N:=len*i.size) (k:=fun x=>decide (x=c')) hp (Ad h5 hv) hrl (fun j v hj=>by
     have h1:=hc j v hj;exact⟨kD hone len v (List.mem_of_getElem? h1),v,by simpa using h1,VR.flat v (hff v (List.mem_of_getElem? h1))⟩) (hpar _ sM)
    have:c2=c':=by simpa using hc2
    subst this;refine⟨.slice (some ⟨w.heap.size,0,none⟩) len len,.cells cs' e (0,0),?_,?_,Dp m _ _ _ _ (by unfold OPEN;omega)⟩
    ·have hcell:∀Z:Array Value,(Z=if len*i.size=0 then #[] else z)->(Array.range (len*i.size)).map (fun j=>Z[j % Z.size]!)=⟨repeatN z.toList len⟩:=by
      rintro Z rfl;by_cases h0:len*i.size=0
      ·rw[h0]
       apply Array.ext'
       have e0:=List.eq_nil_of_length_eq_zero (hrl.trans h0);simp only[e0,Array.toList_map,Array.toList_range,List.range_zero,List.map_nil]
      ·rw[if_neg h0,<-hzs];exact lQ z len
     have hbig:¬len*i.size>2 ^ 24:=oM
     have he:execOp ρ ⟨dst,.buildSlice t len qs,ty,pos,af,gd⟩=(do pure (Next.value (<-Instr.buildSlice t len ⟨qs.toList.map fun (p:Nat×Operand)=>(p.1,ρ p.2)⟩))):=by
      rw[<-wD];rfl
     have key:(Instr.buildSlice t len ⟨qs.toList.map fun (p:Nat×Operand)=>(p.1,ρ p.2)⟩).run P w = .ok (.slice (some ⟨w.heap.size,0,none⟩) len len) (w.alloc (.cells cs' e (0,0))):=by
      unfold Instr.buildSlice;simp only[Sem.run_bind,Y5 ht,Result.andThen_ok,bQ hi,if_neg hbig,Sem.run_pure,Sem.run_ite];by_cases h0:len*i.size=0
      ·have hc0:=hcell #[] (by rw[if_pos h0])
       simp only[if_pos h0,Sem.run_bind,Sem.run_pure,Result.andThen_ok];rw[hc0,hfill];simp[newRow]
      ·have hc0:=hcell z (by rw[if_neg h0])
       simp only[if_neg h0,Sem.run_bind,Sem.run_pure,Result.andThen_ok,gD hi hzv,hvz];rw[hc0,hfill];simp[newRow]
     rw[he,Sem.run_bind,key];rfl
    ·refine⟨cs',rfl,by rw[hsz];exact Nat.le_refl _,fun j v hj=>?_,sM,fun j v hj=>?_⟩
     ·obtain⟨_,v',h1,h2⟩:=hc' j v hj
      exact⟨v',h1,h2.mono (Mp.put_le hm)⟩
     ·obtain⟨h0,v',h1,h2⟩:=hc' j v hj
      exact⟨h0,by rw[<-hsz];exact(Array.getElem?_eq_some_iff.1 h1).1⟩
   ·cases hc
  ·cases hc
 ·cases hc
theorem wF{op:Op}(hc:compOp P ⟨dst,op,ty,pos,af,gd⟩=some c):(calm op=true->Cj c=true∨IG c=true)/\(rH c=true->isLook op=true)/\(IG c=true->∀{T:BT Value} {s:St} {k:Value->St->Bool},V6 P T s c k=true->Do P T s ⟨dst,op,ty,pos,af,gd⟩ k):=by
 have hm:∀{α:Type} {x:Option α} {f:α->COp},x.map f=some c->∃a,c=f a:=by
  intro α x f h;obtain⟨a,_,e⟩:=Option.map_eq_some_iff.1 h;exact⟨a,e.symm⟩
 cases op with
 |alloc t=>exact⟨fun _=>(by obtain⟨a,rfl⟩:=hm hc;exact .inr rfl),fun h=>(by obtain⟨a,rfl⟩:=hm hc;cases h),fun _ _ _ _ hk=>IJ hc hk⟩
 |box t x=>exact⟨fun _=>(by obtain⟨a,rfl⟩:=hm hc;exact .inr rfl),fun h=>(by obtain⟨a,rfl⟩:=hm hc;cases h),fun _ _ _ _ hk=>IK hc hk⟩
 |makeSlice t x y=>
  refine⟨fun _=>?_,fun h=>?_,fun _ _ _ _ hk=>IL hc hk⟩
  all_goals
   simp only[compOp] at hc
   repeat' split at hc
   all_goals first|(obtain⟨_,hc⟩:=cV hc;cases hc;first|exact .inr rfl|cases h)|cases hc
 |buildSlice t n x=>
  refine⟨fun _=>?_,fun h=>?_,fun _ _ _ _ hk=>IM hc hk⟩
  all_goals
   simp only[compOp] at hc
   repeat' split at hc
   all_goals first|(obtain⟨_,hc⟩:=cV hc;cases hc;first|exact .inr rfl|cases h)|cases hc
 |call cl=>
  obtain⟨ce,args,ts⟩:=cl;cases ce with
  |value f=>
   simp only[compOp] at hc;split at hc
   ·cases hc;exact⟨fun h=>(by cases h),fun h=>(by cases h),fun h=>(by cases h)⟩
   ·cases hc
  |invoke=>cases hc
  |builtin b=>
   simp only[compOp] at hc
   repeat' split at hc
   all_goals first
    |(cases hc;done)
    |(cases hc;exact⟨fun h=>(by cases h),fun h=>(by cases h),fun h=>(by cases h)⟩)
    |(obtain⟨a,rfl⟩:=hm hc;exact⟨fun h=>(by first|exact .inl rfl|cases h),fun h=>(by cases h),fun h=>(by cases h)⟩)
    |(obtain⟨_,hc⟩:=cV hc;cases hc;exact⟨fun h=>(by cases h),fun h=>(by cases h),fun h=>(by cases h)⟩)
    |(obtain⟨_,hc⟩:=cV hc;cases hc;done)
    |(obtain⟨_,hc⟩:=cV hc;split at hc <;> first|(cases hc;done)|(cases hc;exact⟨fun h=>(by cases h),fun h=>(by cases h),fun h=>(by cases h)⟩))
 |makeFunc fn=>cases fn with
  |func f=>
   simp only[compOp] at hc
   repeat' split at hc
   all_goals first|(cases hc;done)|(cases hc;exact⟨fun h=> .inl rfl,fun h=>(by cases h),fun h=>(by cases h)⟩)
  |_=>cases hc
 |makeMap t r=>cases r with
  |none=>cases hc;exact⟨fun h=>(by cases h),fun h=>(by cases h),fun h=>(by cases h)⟩
  |some r=>cases hc
 |_=>
  simp only[compOp] at hc
  repeat' split at hc
  all_goals first
   |(cases hc;done)
   |(cases hc;exact⟨fun h=>(by first|exact .inl rfl|cases h),fun h=>(by first|rfl|cases h),fun h=>(by cases h)⟩)
   |(obtain⟨a,rfl⟩:=hm hc;exact⟨fun h=>(by first|exact .inl rfl|cases h),fun h=>(by first|rfl|cases h),fun h=>(by cases h)⟩)
   |(obtain⟨_,hc⟩:=cV hc;cases hc;exact⟨fun h=>(by first|exact .inl rfl|cases h),fun h=>(by first|rfl|cases h),fun h=>(by cases h)⟩)
   |(rw[tK] at hc;split at hc <;> first|(cases hc;done)|(cases hc;exact⟨fun h=>(by first|exact .inl rfl|cases h),fun h=>(by first|rfl|cases h),fun h=>(by cases h)⟩))
end
end Go.Proofs.YtjkdkpckjgaplaaGreat.Ev
namespace Go.Proofs.YtjkdkpckjgaplaaGreat.Ev
open Go Go.RowKit
variable{L:Array Bool}{i j t:Nat}{P:Program}{ops:Array Oper}{o:Oper}{V V':Nat->Value}{Ti T T':BT Value}{p:Nat->Prop}{v:Value}{g:Option (Nat×Bool)}{a:Act}
def rB(L:Array Bool)(i:Nat):Prop:=L.getD i false=true
theorem uO(hi:i<L.size)(j:Nat):rB (L.setIfInBounds i true) j↔j=i∨rB L j:=by
 unfold rB;by_cases h:i=j
 ·subst h
  simp[hi]
 ·rw[getD_set_ne false h]
  constructor
  ·exact .inr
  ·rintro(h'|h')
   ·exact absurd h'.symm h
   ·exact h'
theorem iK:L.getD i true=false↔i<L.size/\¬rB L i:=by
 unfold rB;by_cases h:i<L.size
 ·simp[h]
 ·simp[h]
def oF(o:Oper)(i:Nat):Prop:=∃e∈o.after,Region.binds .any e=true/\e.on=i
structure wG(P:Program)(ops:Array Oper):Prop where
 one:∀{i j:Nat} {o o':Oper} {d:Nat},ops[i]? = some o->ops[j]? = some o'->o.dst=some d->o'.dst=some d->i=j
 dep:∀{i j:Nat} {o o':Oper} {d:Nat},ops[i]? = some o'->o'.dst=some d->ops[j]? = some o->d∈readsT P ops o->oF o i∨(isLook o.op=false/\anc (Region.before ops) i j=true)
theorem FB{d:Nat}:∀{l:List Nat},d∈l->memN d l=true
 |x::l,h=>by
  simp only[memN,Bool.or_eq_true,Nat.beq_eq];rcases List.mem_cons.1 h with rfl|h
  ·exact .inl sM
  ·exact .inr (FB h)
theorem BC{b:Array Nat}(h:tmpsOk P ops b=true){o o':Oper}{d:Nat}(hi:ops[i]? = some o')(hd:o'.dst=some d)(hj:ops[j]? = some o) :
 (i=j∨writes o d=false)/\((memN d (readsT P ops o)=false∨depOn o i=true)∨(isLook o.op=false/\anc b i j=true)):=by
 unfold tmpsOk at h;have hi':i<ops.size:=(Array.getElem?_eq_some_iff.1 hi).1;have hj':j<ops.size:=(Array.getElem?_eq_some_iff.1 hj).1;have h1:=List.all_eq_true.1 h i (List.mem_range.2 hi');simp only[hi,hd] at h1;have h2:=List.all_eq_true.1 h1 j (List.mem_range.2 hj');simp only[hj,Bool.and_eq_true,Bool.or_eq_true,Bool.not_eq_true',Nat.beq_eq] at h2;refine⟨?_,h2.2⟩;rcases h2.1 with h3|h3
 ·exact .inl (by simpa using h3)
 ·exact .inr h3
theorem MP(h:tmpsOk P ops (Region.before ops)=true):wG P ops where
 one:=by
  intro i j o o' d hi hj hd hd';rcases (BC h hi hd hj).1 with h1|h1
  ·exact h1
  ·simp[writes,hd'] at h1
 dep:=by
  intro i j o o' d hi hd hj hm;rcases (BC h hi hd hj).2 with (h1|h1)|h1
  ·rw[FB hm] at h1;cases h1
  ·unfold depOn at h1
   rw[List.any_eq_true] at h1;obtain⟨e,he,h2⟩:=h1;simp only[Bool.and_eq_true,Nat.beq_eq] at h2;exact .inl ⟨e,by simpa using he,h2.2,by simpa using h2.1⟩
  ·exact .inr h1
/-! What waits for what, by 'before' -/
theorem BD{f:Array Nat->Oper->Nat}:∀(l:List Oper) (A:Array Nat),
 (∀i,i<A.size->(l.foldl (fun acc o=>acc.push (f acc o)) A).getD i 0=A.getD i 0) /\
 ∀(i:Nat) (o:Oper),l[i]? = some o->∃A':Array Nat,A'.size=A.size+i/\(∀k,k<A'.size->(l.foldl (fun acc o=>acc.push (f acc o)) A).getD k 0=A'.getD k 0)/\(l.foldl (fun acc o=>acc.push (f acc o)) A).getD (A.size+i) 0=f A' o
 |[],A=>⟨fun _ _=>rfl,fun i o h=>by simp at h⟩
 |x::l,A=>by
  obtain⟨h1,h2⟩:=BD l (A.push (f A x));refine⟨fun i hi=>?_,fun i o ho=>?_⟩
  ·rw[List.foldl_cons,h1 i (by simp;omega)]
   simp[Array.getD_eq_getD_getElem?,Array.getElem?_push_lt hi,hi]
  ·rw[List.foldl_cons]
   rcases i with _|i
   ·simp at ho
    subst ho;refine⟨A,rfl,fun k hk=>?_,?_⟩
    ·rw[h1 k (by simp;omega)]
     simp[Array.getD_eq_getD_getElem?,Array.getElem?_push_lt hk,hk]
    ·rw[Nat.add_zero,h1 A.size sM]
     simp[Array.getD_eq_getD_getElem?]
   ·obtain⟨A',h3,h4,h5⟩:=h2 i o (by simpa using ho)
    refine⟨A',by rw[h3];simp;omega,h4,?_⟩;rw[<-h5]
    congr 1
    simp;omega
theorem BE{A:Array Nat}{i:Nat}:∀(l:List Edge) (s:Nat),(l.foldl (fun s e=>if Region.binds .any e then s ||| 2 ^ e.on ||| A.getD e.on 0 else s) s).testBit i=true->s.testBit i=true∨∃e∈l,Region.binds .any e=true/\(e.on=i∨(A.getD e.on 0).testBit i=true)
 |[],s,h=> .inl h
 |e::l,s,h=>by
  rw[List.foldl_cons] at h;rcases BE l _ h with h|⟨e',h1,h2⟩
  ·by_cases hb:Region.binds .any e=true
   ·rw[if_pos hb,Nat.testBit_or,Nat.testBit_or,Bool.or_eq_true,Bool.or_eq_true] at h
    rcases h with (h|h)|h
    ·exact .inl h
    ·refine .inr ⟨e,sM,hb,.inl ?_⟩
     rw[Nat.testBit_two_pow] at h;simpa using h
    ·exact .inr ⟨e,sM,hb,.inr h⟩
   ·rw[if_neg hb] at h
    exact .inl h
  ·exact .inr ⟨e',List.mem_cons_of_mem _ h1,h2⟩
theorem HN(ho:ops[j]? = some o)(h:anc (Region.before ops) j i=true):∃e∈o.after,Region.binds .any e=true/\(e.on=i∨(e.on<j/\anc (Region.before ops) e.on i=true)):=by
 unfold anc at h ⊢;have he:Region.before ops=ops.toList.foldl (fun acc o=>acc.push (o.after.foldl (fun s e=>if Region.binds .any e then s ||| 2 ^ e.on ||| acc.getD e.on 0 else s) 0)) #[]:=by
  unfold Region.before;rw[<-Array.foldl_toList]
 obtain⟨_,h2⟩:=BD (f:=fun acc o=>o.after.foldl (fun s e=>if Region.binds .any e then s ||| 2 ^ e.on ||| acc.getD e.on 0 else s) 0) ops.toList #[];obtain⟨A',h3,h4,h5⟩:=h2 j o (by simpa using ho);rw[<-he] at h4 h5;simp only[Array.size_empty,Nat.zero_add] at h3 h5;rw[h5,<-Array.foldl_toList] at h;rcases BE o.after.toList 0 h with h|⟨e,h6,h7,h8⟩
 ·simp at h
 ·refine⟨e,by simpa using h6,h7,?_⟩
  rcases h8 with h8|h8
  ·exact .inl h8
  ·right
   have hlt:e.on<A'.size:=by
    rcases Nat.lt_or_ge e.on A'.size with h9|h9
    ·exact h9
    ·simp[Array.getD_eq_getD_getElem?,Array.getElem?_eq_none h9] at h8
   exact⟨oM,by rw[h4 e.on hlt];exact h8⟩
def wH(ops:Array Oper)(p:Nat->Prop):Prop:=∀i o,p i->ops[i]? = some o->∀k,oF o k->p k
theorem EG{ops:Array Oper}{p:Nat->Prop}(hc:wH ops p){i:Nat}:∀(n j:Nat) {o:Oper},j<n->ops[j]? = some o->(∀k,oF o k->p k)->anc (Region.before ops) j i=true->p i
 |0,j,o,hj,ho,hd,h=>oM
 |n+1,j,o,hj,ho,hd,h=>by
  obtain⟨e,he,hb,h1⟩:=HN ho h;have hin:=hd e.on ⟨e,he,hb,rfl⟩;rcases h1 with rfl|⟨h1,h2⟩
  ·exact hin
  ·have hlt:j<ops.size:=(Array.getElem?_eq_some_iff.1 ho).1
   have ho':ops[e.on]? = some ops[e.on]:=Array.getElem?_eq_getElem oM;exact EG hc n e.on oM ho' (hc _ _ hin ho') h2
def kH(ops:Array Oper)(V:Nat->Value)(Ti:BT Value)(p:Nat->Prop)(t:Nat)(v:Value):Prop:=
 (∃i o,p i/\ops[i]? = some o/\o.dst=some t/\v=V i)∨((∀i o,p i->ops[i]? = some o->o.dst≠some t)/\Ti.get t=some v)
theorem kH.val(h:∀i,p i->V' i=V i):kH ops V' Ti p t v↔kH ops V Ti p t v:=by
 constructor
 ·rintro(⟨i,o,h1,h2,h3,rfl⟩|h1)
  ·exact .inl ⟨i,o,h1,h2,h3,h i h1⟩
  ·exact .inr h1
 ·rintro(⟨i,o,h1,h2,h3,rfl⟩|h1)
  ·exact .inl ⟨i,o,h1,h2,h3,(h i h1).symm⟩
  ·exact .inr h1
theorem kH.at(hU:wG P ops)(hc:wH ops p)(ho:ops[j]? = some o)(hd:∀k,oF o k->p k)(hj:¬p j)(ht:t∈readsT P ops o) :
 kH ops V Ti p t v↔kH ops V Ti (oF o) t v:=by
 have key:∀i o',p i->ops[i]? = some o'->o'.dst=some t->oF o i:=by
  intro i o' hi ho' hdst;rcases hU.dep ho' hdst ho ht with h|⟨_,h⟩
  ·exact h
  ·exact absurd (EG hc (i+1) i (Nat.lt_succ_self i) ho' (hc i o' hi ho') h) hj
 constructor
 ·rintro(⟨i,o',h1,h2,h3,rfl⟩|⟨h1,h2⟩)
  ·exact .inl ⟨i,o',key i o' h1 h2 h3,h2,h3,rfl⟩
  ·exact .inr ⟨fun i o' hi=>h1 i o' (hd i hi),h2⟩
 ·rintro(⟨i,o',h1,h2,h3,rfl⟩|⟨h1,h2⟩)
  ·exact .inl ⟨i,o',hd i h1,h2,h3,rfl⟩
  ·exact .inr ⟨fun i o' hi h3 h4=>h1 i o' (key i o' hi h3 h4) h3 h4,h2⟩
theorem kH.look(hU:wG P ops)(ho:ops[j]? = some o)(hd:∀k,oF o k->p k)(hl:isLook o.op=true)(ht:t∈readsT P ops o) :
 kH ops V Ti p t v↔kH ops V Ti (oF o) t v:=by
 have key:∀i o',p i->ops[i]? = some o'->o'.dst=some t->oF o i:=by
  intro i o' hi ho' hdst;rcases hU.dep ho' hdst ho ht with h|⟨h,_⟩
  ·exact h
  ·rw[hl] at h;cases h
 constructor
 ·rintro(⟨i,o',h1,h2,h3,rfl⟩|⟨h1,h2⟩)
  ·exact .inl ⟨i,o',key i o' h1 h2 h3,h2,h3,rfl⟩
  ·exact .inr ⟨fun i o' hi=>h1 i o' (hd i hi),h2⟩
 ·rintro(⟨i,o',h1,h2,h3,rfl⟩|⟨h1,h2⟩)
  ·exact .inl ⟨i,o',hd i h1,h2,h3,rfl⟩
  ·exact .inr ⟨fun i o' hi h3 h4=>h1 i o' (key i o' hi h3 h4) h3 h4,h2⟩
/-! Guards -/
def tM(T:BT Value):Option (Nat×Bool)->Prop
 |none=>True
 |some (t,w)=>T.get t=some (.bool w)
def rJ(T:BT Value):Option (Nat×Bool)->Prop
 |none=>False
 |some (t,w)=>∃v,T.get t=some v/\v≠.bool w
theorem lT{y n:Bool}(hk:kI T g y n=true):(tM T g/\y=true)∨(rJ T g/\n=true):=by
 rcases g with _|⟨t,w⟩
 ·exact .inl ⟨trivial,hk⟩
 ·have hk0:lM T t (fun v=>pQ v (fun b=>@Bool.rec (fun _=>Bool) (@Bool.rec (fun _=>Bool) y n w) (@Bool.rec (fun _=>Bool) n y w) b) n)=true:=hk
  obtain⟨v,hv,hk1⟩:=kJ hk0;rcases xD hk1 with ⟨b,rfl,hk2⟩|⟨hb,hk2⟩
  ·cases b <;> cases w <;> first|exact .inl ⟨hv,hk2⟩|exact .inr ⟨⟨_,hv,sM⟩,hk2⟩
  ·exact .inr ⟨⟨v,hv,hb w⟩,hk2⟩
def sI(ops:Array Oper)(o:Oper)(g:Option (Nat×Bool)):Prop:=(o.guard=none/\g=none)∨∃j w t,o.guard=some (j,w)/\(ops[j]?).bind (·.dst)=some t/\g=some (t,w)
theorem uP{m:Mp}(hg:sI ops o g)(ht:∀t w,g=some (t,w)->∀v,T.get t=some v->∃u,a.tmps[t]? = some u/\VR m v u) :
 (tM T g->Region.wanted o (yielded ops a.tmps)=true)/\(rJ T g->Region.wanted o (yielded ops a.tmps)=false):=by
 rcases hg with ⟨h1,rfl⟩|⟨j,w,t,h1,h2,rfl⟩
 ·exact⟨fun _=>by simp[Region.wanted,h1],fun h=>h.elim⟩
 ·have hy:∀u,a.tmps[t]? = some u->yielded ops a.tmps j=match u with | .bool b=>some b|_=>none:=by
   intro u hu;unfold yielded;rw[h2];simp only[Option.bind_some,hu];cases u <;> rfl
  refine⟨fun h=>?_,fun h=>?_⟩
  ·obtain⟨u,hu,hvu⟩:=ht t w rfl _ h
   have:u = .bool w:=by simpa only[VR] using hvu
   subst this;have:=hy _ hu;simp only at this;simp[Region.wanted,h1,this]
  ·obtain⟨v,hv,hb⟩:=h
   obtain⟨u,hu,hvu⟩:=ht t w rfl _ hv;have hy:=hy u hu;cases u with
   |bool b=>
    have:=hvu.bool_back;subst this;simp only at hy;have:b≠w:=fun e=>hb (by rw[e])
    simp[Region.wanted,h1,hy,this]
   |_=>
    simp only at hy;simp[Region.wanted,h1,hy]
theorem SE{w:Bool}(hg:sI ops o (some (t,w))):t∈gT ops o:=by
 rcases hg with ⟨_,h⟩|⟨j,w',t',h1,h2,h3⟩
 ·cases h
 ·cases h3
  unfold gT;rw[h1];simp only[h2];simp
/-! What is done ahead -/
def mC(P:Program)(ops:Array Oper)(V:Nat->Value)(Ti:BT Value)(S:St)(K0 K:Kp)(H:Nat->Nat)(z:Prop)(i:Nat):Prop:=
 ∃x o T,compItem P ops i=some x/\ops[i]? = some o/\x.d=o.dst/\x.op=orBad (compOp P o)/\sI ops o x.g/\(∀t∈readsT P ops o,∀v,T.get t=some v↔kH ops V Ti (oF o) t v) /\
  ((tM T x.g/\∃c,compOp P o=some c /\
   ((Cj c=true/\((rH c=true->z)->∀k':Value->St->Bool,k' (V i) S=true->V6 P T S c k'=true))∨∃g ob,K g=some ob/\K0 g=none/\H g=i/\IH P T o (V i) g ob)) ∨
   (rJ T x.g/\V i=undef))
theorem tM.same(h:tM T g)(ht:∀t w,g=some (t,w)->T'.get t=T.get t):tM T' g:=by
 rcases g with _|⟨t,w⟩
 ·trivial
 ·show T'.get t=_
  rw[ht t w rfl];exact h
theorem rJ.same(h:rJ T g)(ht:∀t w,g=some (t,w)->T'.get t=T.get t):rJ T' g:=by
 rcases g with _|⟨t,w⟩
 ·exact h
 ·obtain⟨v,h1,h2⟩:=h
  exact⟨v,by rw[ht t w rfl];exact h1,h2⟩
theorem uQ(hg:sI ops o g):∀t w,g=some (t,w)->t∈readsT P ops o:=by
 rintro t w rfl;exact List.mem_append_right _ (SE hg)
theorem FC{x:Operand}(hx:x∈o.op.operands)(h:cx x=some (.t t)):t∈readsT P ops o:=by
 have:x = .tmp t:=by
  cases x with
  |tmp u=>simp only[cx,Option.some.injEq,X.t.injEq] at h;rw[h]
  |const v=>simp only[cx] at h;obtain⟨_,h⟩:=cV h;cases h
  |func f=>cases h
  |global g=>cases h
 subst this;exact List.mem_append_left _ (List.mem_append_left _ (List.mem_flatMap.2 ⟨_,by simpa using hx,by simp[oT]⟩))
theorem MQ{m:Mp}{ρ:Operand->Value}(h:∀t∈readsT P ops o,T'.get t=T.get t)(hρ:Hρ m T' ρ o.op):Hρ m T ρ o.op:=by
 intro x hx X v hc hv;refine hρ x hx X v hc ?_;cases X with
 |t i=>
  show T'.get i=some v;rw[h i (FC hx hc)];exact hv
 |c u=>exact hv
open Classical in
theorem mC.keep{S S':St}{K0 K K':Kp}{H H':Nat->Nat}{z z':Prop}(h:mC P ops V Ti S K0 K H z i)(hV:V' i=V i)(hVd:∀o,ops[i]? = some o->∀k,oF o k->V' k=V k)
 (hz:z'->z/\S.ext S') (hK:∀g ob,K g=some ob->H g=i->K' g=some ob/\H' g=i):mC P ops V' Ti S' K0 K' H' z' i:=by
 obtain⟨x,o,T,h1,h2,h3,h4,h5,hT,h6⟩:=h;refine⟨x,o,T,h1,h2,h3,h4,h5,fun t ht v=>(hT t ht v).trans (kH.val (hVd o h2)).symm,?_⟩;rw[hV];rcases h6 with ⟨h6,c,h7,h9⟩|h6
 ·refine .inl ⟨h6,c,h7,?_⟩
  rcases h9 with ⟨h9,h10⟩|⟨g,ob,h9,h10,h11,h12⟩
  ·refine .inl ⟨h9,fun hl k' hk'=>?_⟩
   have:=h10 (fun h=>(hz (hl h)).1) (fun v' s'=>decide (v'=V i)) sM;obtain⟨v',hv',hh⟩:=Dn (R:=fun s'=>rH c=true->S.ext s') h9 (fun h s' hs=>hs h) _ this;have:v'=V i:=by simpa using hv'
   subst this;exact hh T S' k' (fun _ _ _ h=>h) (fun h=>(hz (hl h)).2) hk'
  ·obtain⟨h13,h14⟩:=hK g ob h9 h11
   exact .inr ⟨g,ob,h13,h10,h14,h12⟩
 ·exact .inr h6
def Qb(ops:Array Oper):List Nat->Prop
 |[]=>True
 |i::l=>i∉l/\(∃o,ops[i]? = some o/\∀e∈o.after,Region.binds .any e=true->e.on∈l)/\Qb ops l
theorem Qb.dep{D:List Nat}(h:Qb ops D)(hi:i∈D)(ho:ops[i]? = some o):∀e∈o.after,Region.binds .any e=true->e.on∈D:=by
 induction D with
 |nil=>cases hi
 |cons j l ih=>
  obtain⟨_,⟨o',h2,h3⟩,h4⟩:=h;intro e he hb;rcases List.mem_cons.1 hi with hij|hi
  ·rw[hij,h2] at ho
   cases ho;exact List.mem_cons_of_mem _ (h3 e he hb)
  ·exact List.mem_cons_of_mem _ (ih h4 hi e he hb)
theorem Ao(a:Act)(d:Option Tmp)(u:Value):(a.put d u).defers=a.defers:=by cases d <;> rfl
theorem Qb.first{D:List Nat}(h:Qb ops D)(hp:∃i∈D,¬p i):∃i o,i∈D/\¬p i/\ops[i]? = some o/\∀e∈o.after,Region.binds .any e=true->p e.on:=by
 induction D with
 |nil=>obtain⟨i,hi,_⟩:=hp;cases hi
 |cons j l ih=>
  obtain⟨_,⟨o',h2,h3⟩,h4⟩:=h;by_cases h:∃i∈l,¬p i
  ·obtain⟨i,o,h5,h6,h7,h8⟩:=ih h4 h
   exact⟨i,o,List.mem_cons_of_mem _ h5,h6,h7,h8⟩
  ·have all:∀i∈l,p i:=fun i hi=>Classical.byContradiction fun hn=>h ⟨i,hi,hn⟩
   obtain⟨i,hi,hpi⟩:=hp;rcases List.mem_cons.1 hi with hij|hi
   ·rw[hij] at hpi
    exact⟨j,o',List.mem_cons_self,hpi,h2,fun e he hb=>all _ (h3 e he hb)⟩
   ·exact absurd (all i hi) hpi
theorem Qb.closed{D:List Nat}(h:Qb ops D):wH ops (·∈D):=by
 rintro i o hi ho k ⟨e,he,hb,rfl⟩;exact h.dep hi ho e he hb
structure vT(P:Program)(B:Nat)(ops:Array Oper)(Ti:BT Value)(K0:Kp)(m0:Mp)(a0:Act)(w0:World)(V:Nat->Value)(T:BT Value)(S:St)(D:List Nat)(E:Array Bool)(H:Nat->Nat)(z:Prop)(L:Array Bool)(K:Kp)(m:Mp)(w:World)(a:Act):Prop where
 se:E.size=ops.size
 sl:L.size=ops.size
 ed:∀i,rB E i↔i∈D
 ord:Qb ops D
 sub:∀i,rB L i->i∈D
 closed:wH ops (rB L)
 emb:dO P K B m S w
 tE:∀t v,T.get t=some v↔kH ops V Ti (·∈D) t v
 tW:∀t v,kH ops V Ti (rB L) t v->∃u,a.tmps[t]? = some u/\VR m v u
 sz:∀t v,T.get t=some v->t<a.tmps.size
 pend:∀i,i∈D->¬rB L i->mC P ops V Ti S K0 K H z i
 k0:∀j o,K0 j=some o->K j=some o
 le:m0.le m
 bel:Below B w0 w
 df:a.defers=a0.defers
theorem uR(hd:∀e∈o.after,Region.binds .any e=true->p e.on):∀k,oF o k->p k:=by
 rintro k ⟨e,he,hb,rfl⟩;exact hd e he hb
section
variable{P:Program}{B:Nat}{ops:Array Oper}{Ti:BT Value}{K0:Kp}{m0:Mp}{a0:Act}{w0:World}{V:Nat->Value}{T:BT Value}{S:St}{D:List Nat}{E L:Array Bool}{H:Nat->Nat}{z:Prop}{K:Kp}{m:Mp}{w:World}{a:Act}
theorem vT.at_ready(I:vT P B ops Ti K0 m0 a0 w0 V T S D E H z L K m w a)(hU:wG P ops)(ho:ops[i]? = some o)(hn:¬rB L i)(hd:∀k,oF o k->rB L k):∀t∈readsT P ops o,∀v,kH ops V Ti (oF o) t v->∃u,a.tmps[t]? = some u/\VR m v u:=
 fun t ht v hv=>I.tW t v ((kH.at hU I.closed ho hd hn ht).2 hv)
theorem Qc(h:∀t∈readsT P ops o,∀v,T.get t=some v->∃u,a.tmps[t]? = some u/\VR m v u):Hρ m T a.eval o.op:=by
 intro x hx X v hc hv;cases X with
 |t i=>
  obtain⟨u,h1,h2⟩:=h i (FC hx hc) v hv;have:x = .tmp i:=by
   cases x with
   |tmp u=>simp only[cx,Option.some.injEq,X.t.injEq] at hc;rw[hc]
   |const v=>simp only[cx] at hc;obtain⟨_,hc⟩:=cV hc;cases hc
   |func f=>cases hc
   |global g=>cases hc
  subst this;have:a.eval (.tmp i)=u:=by simp[Act.eval,Array.getD_eq_getD_getElem?,h1]
  rw[this];exact h2
 |c u=>
  simp only[XV] at hv;subst hv;cases x with
  |tmp u=>simp only[cx,Option.some.injEq] at hc;cases hc
  |const v'=>
   simp only[cx] at hc;obtain⟨hf,hc⟩:=cV hc;cases hc;exact VR.flat _ hf
  |func f=>
   simp only[cx,Option.some.injEq,X.c.injEq] at hc;subst hc;exact VR.flat _ (by simp[flat,flatA,flatL])
  |global g=>cases hc
theorem rK{d:Option Nat}{k:BT Value->Bool}(h:kA T d v k=true):∃T',k T'=true/\(∀x,d=some x->(T.get x).isSome=true)/\∀t,T'.get t=if d=some t then some v else T.get t:=by
 cases d with
 |none=>exact⟨T,h,fun x hx=>(by cases hx),fun t=>sM⟩
 |some d=>
  obtain⟨T',hk,hd,hg⟩:=oQ (k:=k) h;refine⟨T',hk,fun x hx=>by cases hx;exact hd,fun t=>?_⟩;rw[hg];by_cases e:t=d
  ·subst e;simp
  ·rw[if_neg e,if_neg (by simp;exact fun h=>e h.symm)]
theorem kH.more(hU:wG P ops){p p':Nat->Prop}(ho:ops[i]? = some o)(hp:∀j,p' j↔j=i∨p j)(hn:¬p i)(hV:∀j,p j->V' j=V j) :
 kH ops V' Ti p' t v↔(if o.dst=some t then v=V' i else kH ops V Ti p t v):=by
 by_cases hd:o.dst=some t
 ·rw[if_pos hd]
  constructor
  ·rintro(⟨j,o',h1,h2,h3,rfl⟩|⟨h1,_⟩)
   ·rw[hU.one h2 ho h3 hd]
   ·exact absurd hd (h1 i o ((hp i).2 (.inl rfl)) ho)
  ·rintro rfl
   exact .inl ⟨i,o,(hp i).2 (.inl rfl),ho,hd,rfl⟩
 ·rw[if_neg hd]
  constructor
  ·rintro(⟨j,o',h1,h2,h3,rfl⟩|⟨h1,h2⟩)
   ·rcases (hp j).1 h1 with rfl|h1
    ·rw[ho] at h2;cases h2
     exact absurd h3 hd
    ·exact .inl ⟨j,o',h1,h2,h3,hV j h1⟩
   ·exact .inr ⟨fun j o' hj=>h1 j o' ((hp j).2 (.inr hj)),h2⟩
  ·rintro(⟨j,o',h1,h2,h3,rfl⟩|⟨h1,h2⟩)
   ·exact .inl ⟨j,o',(hp j).2 (.inr h1),h2,h3,(hV j h1).symm⟩
   ·refine .inr ⟨fun j o' hj h3=>?_,h2⟩
    rcases (hp j).1 hj with rfl|hj
    ·rw[ho] at h3;cases h3
     exact hd
    ·exact h1 j o' hj h3
theorem xI(hc:wH ops (rB L))(ho:ops[i]? = some o)(hd:∀k,oF o k->rB L k)(hset:∀j,rB (L.setIfInBounds i true) j↔j=i∨rB L j):wH ops (rB (L.setIfInBounds i true)):=by
 intro j oj hj hoj k hk;rw[hset];rcases (hset j).1 hj with rfl|hj
 ·rw[ho] at hoj;cases hoj
  exact .inr (hd k hk)
 ·exact .inr (hc j oj hj hoj k hk)
theorem wI{d:Option Tmp}{u:Value}:(a.put d u).tmps.size=a.tmps.size/\(d=some t->t<a.tmps.size->(a.put d u).tmps[t]? = some u)/\(d≠some t->(a.put d u).tmps[t]? = a.tmps[t]?):=by
 cases d with
 |none=>exact⟨rfl,fun h=>(by cases h),fun _=>rfl⟩
 |some d=>
  refine⟨by simp[Act.put],fun h hl=>?_,fun h=>?_⟩
  ·cases h
   simp[Act.put,hl]
  ·simp only[Act.put]
   rw[Array.getElem?_setIfInBounds_ne (by intro e;exact h (by rw[e]))]
theorem vT.world(I:vT P B ops Ti K0 m0 a0 w0 V T S D E H z L K m w a)(hU:wG P ops)(hi:i∈D)(hn:¬rB L i)(ho:ops[i]? = some o)(hd:∀k,oF o k->rB L k)
 {u:Value} {K':Kp} {m':Mp} {w':World} (hle:m.le m') (hE:dO P K' B m' S w') (hB:Below B w w') (hv:VR m' (V i) u) (hK:∀g ob,K g=some ob->H g≠i->K' g=some ob) (hK0:∀j o,K0 j=some o->K' j=some o) :
 vT P B ops Ti K0 m0 a0 w0 V T S D E H z (L.setIfInBounds i true) K' m' w' (a.put o.dst u):=by
 have hlt:i<ops.size:=(Array.getElem?_eq_some_iff.1 ho).1;have hset:=uO (L:=L) (i:=i) (by rw[I.sl];exact hlt);refine⟨I.se,by simp[I.sl],I.ed,I.ord,fun j hj=>?_,xI I.closed ho hd hset,hE,I.tE,fun t x hx=>?_,fun t x hx=>?_,fun j hj hnj=>?_,hK0,I.le.trans hle,I.bel.trans hB,by rw[Ao];exact I.df⟩
 ·rcases (hset j).1 hj with rfl|hj
  ·exact hi
  ·exact I.sub j hj
 ·have hx:=(kH.more hU ho hset hn (fun _ _=>rfl)).1 hx
  by_cases e:o.dst=some t
  ·rw[if_pos e] at hx
   subst hx;have h1:T.get t=some (V i):=(I.tE t (V i)).2 (.inl ⟨i,o,hi,ho,e,rfl⟩);exact⟨u,wI.2.1 e (I.sz t _ h1),hv⟩
  ·rw[if_neg e] at hx
   obtain⟨u',h1,h2⟩:=I.tW t x hx;exact⟨u',by rw[wI.2.2 e];exact h1,h2.mono hle⟩
 ·rw[(wI (a:=a) (d:=o.dst) (u:=u) (t:=t)).1]
  exact I.sz t x hx
 ·have hne:j≠i:=fun h=>hnj ((hset j).2 (.inl h))
  exact(I.pend j hj (fun h=>hnj ((hset j).2 (.inr h)))).keep rfl (fun _ _ _ _=>rfl) (fun h=>⟨h,fun _ _ h=>h⟩) (fun g ob hg hH=>⟨hK g ob hg (by rw[hH];exact hne),hH⟩)
end
end Go.Proofs.YtjkdkpckjgaplaaGreat.Ev
namespace Go.Proofs.YtjkdkpckjgaplaaGreat.Ev
open Go Go.RowKit
variable{P:Program}{n i:Nat}{o:Oper}{KK:Act->World->Prop}{Q:Exit->Act->World->Prop}{v:Value}
theorem uS{O:OK}{T:BT Value}{s:St}{c:COp}{k:Value->St->Bool}(h:Cj c=true∨IG c=true):iI P O T s c k=V6 P T s c k:=by
 cases c <;> first|rfl|(rcases h with h|h <;> cases h)
theorem EH{F:Fence}(hF:∀f,F.fn f){a:Act}{w w':World}{u:Value}(hdef:∀cl,o.op≠.defer cl)(hr:(execOp a.eval o).run P w = .ok (.value u) w')(h:KK (a.put o.dst u) w'):o.wpIn F n P a w KK Q:=by
 obtain⟨dst,op,ty,pos,af,gd⟩:=o;refine⟨fun _ _=>hF _,?_⟩;have hsem:Oper.semAt F.round a.eval ⟨dst,op,ty,pos,af,gd⟩=execOp a.eval ⟨dst,op,ty,pos,af,gd⟩:=Oper.semAt_eq _ _ _ hdef;rw[hsem,hr];exact h
theorem EI{c:COp}(hc:compOp P o=some c):∀cl,o.op≠.defer cl:=by
 obtain⟨dst,op,ty,pos,af,gd⟩:=o;rintro cl rfl;cases hc
section
variable{P:Program}{B:Nat}{ops:Array Oper}{Ti:BT Value}{K0:Kp}{m0:Mp}{a0:Act}{w0:World}{V:Nat->Value}{T:BT Value}{S:St}{D:List Nat}{E L:Array Bool}{H:Nat->Nat}{z:Prop}{K:Kp}{m:Mp}{w:World}{a:Act}{O:OK}
open Classical in
theorem vT.pending(I:vT P B ops Ti K0 m0 a0 w0 V T S D E H True L K m w a)(hU:wG P ops)(hO:∀K,kN P K B O)(hi:i∈D)(hr:i∈Region.ready .any ops L){r:Option Nat}
 (hKK:∀K' m' w' a',vT P B ops Ti K0 m0 a0 w0 V T S D E H True (L.setIfInBounds i true) K' m' w' a'->KK a' w'):wpOpIn (Fr r) n P ops Q i KK a w:=by
 obtain⟨h0,o,ho,hd0⟩:=mem_ready.1 hr;obtain⟨hlt,hn⟩:=iK.1 h0;have hd:=uR (p:=rB L) hd0;obtain⟨x,o',Tj,h1,h2,h3,h4,h5,hT,h6⟩:=I.pend i hi hn;rw[ho] at h2;cases h2;have hat:∀t∈readsT P ops o,∀v,Tj.get t=some v->∃u,a.tmps[t]? = some u/\VR m v u:=fun t ht v hv=>I.at_ready hU ho hn hd t ht v ((hT t ht v).1 hv)
 have hρ:=Qc (m:=m) hat;obtain⟨gy,gn⟩:=uP (a:=a) (m:=m) (T:=Tj) h5 (fun t w e v hv=>hat t (uQ h5 t w e) v hv);unfold wpOpIn;rw[ho];simp only;rcases h6 with ⟨h6,c,h7,h9⟩|⟨h6,h7⟩
 ·rw[if_pos (gy h6)]
  rcases h9 with ⟨h9,h10⟩|⟨g,ob,h9,h10,h11,h12⟩
  ·have hk:=h10 (fun _=>trivial) (fun v' s'=>decide (v'=V i/\s'=S)) sM
   rw[<-uS (O:=O) (.inl h9)] at hk;refine Oper.wpIn_mono ?_ (Ah (hO K) h7 I.emb hρ hk);rintro a' w' ⟨v',u,s',m',hk,hle,hE,hB,hv,rfl⟩;obtain⟨rfl,rfl⟩:v'=V i/\s'=S:=by simpa using hk
   exact hKK _ _ _ _ (I.world hU hi hn ho hd hle hE hB hv (fun g ob hg _=>hg) I.k0)
  ·obtain⟨u,o',hrun,hor,hvr⟩:=h12 m w a.eval hρ (I.emb.kept g ob h9).1
   refine EH (fun _=>trivial) (EI h7) hrun (hKK (HJ K g) _ _ _ (I.world hU hi hn ho hd (Mp.put_le (I.emb.kept g ob h9).1) (I.emb.late h9 hor) (xE I.emb.base _) hvr ?_ ?_))
   ·intro g' ob' hg' hH'
    unfold HJ;rw[if_neg (by rintro rfl;exact hH' h11)];exact hg'
   ·intro j oj hj
    unfold HJ;rw[if_neg (by rintro rfl;rw[h10] at hj;cases hj)];exact I.k0 j oj hj
 ·rw[if_neg (by rw[gn h6];simp)]
  exact⟨fun _ _=>trivial,hKK _ _ _ _ (I.world hU hi hn ho hd (Mp.le_refl m) I.emb (Below.refl B w) (by rw[h7];exact VR.flat undef rfl) (fun g ob hg _=>hg) I.k0)⟩
theorem IN(I:vT P B ops Ti K0 m0 a0 w0 V T S D E H z L K m w a)(hlt:i<ops.size)(j:Nat):rB (E.setIfInBounds i true) j↔j∈i::D:=by
 rw[uO (by rw[I.se];exact hlt),I.ed,List.mem_cons]
def xY(V:Nat->Value)(i:Nat)(v:Value):Nat->Value:=fun j=>if j=i then v else V j
theorem oW(V:Nat->Value)(i:Nat)(v:Value):xY V i v i=v:=if_pos rfl
theorem Cl{V:Nat->Value}{i j:Nat}(h:j≠i):xY V i v j=V j:=if_neg h
theorem FD(I:vT P B ops Ti K0 m0 a0 w0 V T S D E H z L K m w a)(hU:wG P ops)(ho:ops[i]? = some o)(hn:¬i∈D){T':BT Value}(hT':∀t,T'.get t=if o.dst=some t then some v else T.get t)(t:Nat)(x:Value) :
 T'.get t=some x↔kH ops (xY V i v) Ti (·∈i::D) t x:=by
 rw[kH.more (p:=(·∈D)) (V:=V) hU ho (fun j=>List.mem_cons) hn (fun j hj=>Cl (by rintro rfl;exact hn hj)),hT'];by_cases e:o.dst=some t
 ·rw[if_pos e,if_pos e,oW]
  constructor
  ·intro h;cases h;rfl
  ·rintro rfl;rfl
 ·rw[if_neg e,if_neg e]
  exact I.tE t x
theorem FE(I:vT P B ops Ti K0 m0 a0 w0 V T S D E H z L K m w a){T':BT Value}(hT':∀t,T'.get t=if o.dst=some t then some v else T.get t)(hsome:∀d,o.dst=some d->(T.get d).isSome=true)(t:Nat)(x:Value)(hx:T'.get t=some x):t<a.tmps.size:=by
 rw[hT'] at hx;by_cases e:o.dst=some t
 ·obtain⟨u,hu⟩:=Option.isSome_iff_exists.1 (hsome t e)
  exact I.sz t u hu
 ·rw[if_neg e] at hx
  exact I.sz t x hx
theorem SG(I:vT P B ops Ti K0 m0 a0 w0 V T S D E H z L K m w a)(hU:wG P ops)(ho:ops[i]? = some o)(hn:¬i∈D)(hd:∀k,oF o k->k∈D):∀t∈readsT P ops o,∀v,T.get t=some v↔kH ops V Ti (oF o) t v:=
 fun t ht v=>(I.tE t v).trans (kH.at hU I.ord.closed ho hd hn ht)
theorem vT.ahead(I:vT P B ops Ti K0 m0 a0 w0 V T S D E H True L K m w a)(hU:wG P ops)(hr:i∈Region.ready .any ops E){x:Item}(hx:compItem P ops i=some x)(hcalm:∀o,ops[i]? = some o->calm o.op=true){k:BT Value->St->Bool}(hk:zU P O x T S k=true) :
 ∃V' T' S' K' H',k T' S'=true/\vT P B ops Ti K0 m0 a0 w0 V' T' S' (i::D) (E.setIfInBounds i true) H' True L K' m w a:=by
 obtain⟨h0,o,ho,hd0⟩:=mem_ready.1 hr;obtain⟨hlt,hn⟩:=iK.1 h0;rw[I.ed] at hn;have hlt':i<ops.size:=(Array.getElem?_eq_some_iff.1 ho).1;have hd':∀e∈o.after,Region.binds .any e=true->e.on∈D:=fun e he hb=>(I.ed _).1 (hd0 e he hb)
 have hd:=uR (p:=(·∈D)) hd';obtain⟨o',ho',hxd,hxo,hg⟩:=pX hx;rw[ho] at ho';cases ho';obtain⟨g,d,op⟩:=x;simp only at hxd hxo hg;subst hxd hxo;have hgo:sI ops o g:=hg;have hnL:¬rB L i:=fun h=>hn (I.sub i h)
 have hTat:=SG I hU ho hn hd;have hVd:∀(v:Value) (k:Nat),k∈D->xY V i v k=V k:=fun v k hk=>Cl (by rintro rfl;exact hn hk)
 have hTv:∀(v:Value),∀t∈readsT P ops o,∀x,T.get t=some x↔kH ops (xY V i v) Ti (oF o) t x:=fun v t ht x=>(hTat t ht x).trans (kH.val (fun k hk=>hVd v k (hd k hk))).symm
 have done:∀(T':BT Value) (v:Value) (S':St) (K':Kp) (H':Nat->Nat),(∀t,T'.get t=if o.dst=some t then some v else T.get t)->(∀d,o.dst=some d->(T.get d).isSome=true)->S.ext S'->dO P K' B m S' w->(∀g ob,K g=some ob->K' g=some ob/\H' g=H g) ->
  mC P ops (xY V i v) Ti S' K0 K' H' True i->vT P B ops Ti K0 m0 a0 w0 (xY V i v) T' S' (i::D) (E.setIfInBounds i true) H' True L K' m w a:=by
  intro T' v S' K' H' hT' hsome hS hE hK hp;refine⟨by simp[I.se],I.sl,IN I hlt',⟨hn,⟨o,ho,hd'⟩,I.ord⟩,fun j hj=>List.mem_cons_of_mem _ (I.sub j hj),I.closed,hE,FD I hU ho hn hT',fun t x hx=>?_,FE I hT' hsome,fun j hj hnj=>?_,fun j oj hj=>(hK j oj (I.k0 j oj hj)).1,I.le,I.bel,I.df⟩
  ·exact I.tW t x ((kH.val (fun k hk=>hVd v k (I.sub k hk))).1 hx)
  ·rcases List.mem_cons.1 hj with rfl|hj
   ·exact hp
   ·exact(I.pend j hj hnj).keep (hVd v j hj) (fun oj hoj k hk=>hVd v k (I.ord.closed j oj hj hoj k hk)) (fun _=>⟨trivial,hS⟩) (fun g ob hg hH=>⟨(hK g ob hg).1,by rw[(hK g ob hg).2];exact hH⟩)
 have hk0:kI T g (iI P O T S (orBad (compOp P o)) (fun v s=>kA T o.dst v (fun T=>k T s))) (kA T o.dst undef (fun T=>k T S))=true:=hk;rcases lT hk0 with ⟨h1,h2⟩|⟨h1,h2⟩
 ·cases hc:compOp P o with
  |none=>rw[hc] at h2;cases h2
  |some c=>
   rw[hc] at h2;have h2':iI P O T S c (fun v s=>kA T o.dst v (fun T=>k T s))=true:=h2;obtain⟨k1,_,k3⟩:=wF (dst:=o.dst) (op:=o.op) (ty:=o.type) (pos:=o.pos) (af:=o.after) (gd:=o.guard) hc;have hq:=k1 (hcalm o ho);rw[uS hq] at h2';rcases hq with hq|hq
   ·obtain⟨v,h3,h4⟩:=Dn (R:=fun s'=>S.ext s') hq (fun _ _ h=>h) _ h2'
    obtain⟨T',h5,h6,h7⟩:=rK h3;refine⟨xY V i v,T',S,K,H,h5,done T' v S K H h7 h6 (fun _ _ h=>h) I.emb (fun g ob h=>⟨h,rfl⟩) ⟨⟨g,o.dst,orBad (compOp P o)⟩,o,T,hx,ho,rfl,rfl,hgo,hTv v,.inl ⟨h1,c,hc,.inl ⟨hq,fun _ k' hk'=>?_⟩⟩⟩⟩;rw[oW] at hk';exact h4 T S k' (fun _ _ _ h=>h) (fun _ _ h=>h) hk'
   ·obtain⟨v,ob,h',h3,h4,h5,h6⟩:=k3 hq h2'
    obtain⟨T',h7,h8,h9⟩:=rK h3;have hK0:K0 S.n=none:=by
     cases hK0:K0 S.n with
     |none=>rfl
     |some oj=>exact absurd (I.emb.kept _ _ (I.k0 _ _ hK0)).2.2 (Nat.lt_irrefl _)
    refine⟨xY V i v,T',⟨h',S.n+1⟩,EE K S.n ob,(fun j=>if j=S.n then i else H j),h7,done T' v ⟨h',S.n+1⟩ (EE K S.n ob) _ h9 h8 (fun j oj hj=>?_) (I.emb.ahead h5) (fun g' ob' hg'=>?_) ⟨⟨g,o.dst,orBad (compOp P o)⟩,o,T,hx,ho,rfl,rfl,hgo,hTv v,.inl ⟨h1,c,hc,.inr ⟨S.n,ob,by simp[EE],hK0,sM,by rw[oW];exact h6⟩⟩⟩⟩
    ·show h'.get j=some oj
     rw[h5,if_neg (by rintro rfl;rw[h4] at hj;cases hj)];exact hj
    ·have hlt:=(I.emb.kept g' ob' hg').2.2
     exact⟨by unfold EE;rw[if_neg oM];exact hg',by rw[if_neg oM]⟩
 ·obtain⟨T',h3,h4,h5⟩:=rK h2
  exact⟨xY V i undef,T',S,K,H,h3,done T' undef S K H h5 h4 (fun _ _ h=>h) I.emb (fun g ob h=>⟨h,rfl⟩) ⟨⟨g,o.dst,orBad (compOp P o)⟩,o,T,hx,ho,rfl,rfl,hgo,hTv undef,.inr ⟨h1,oW V i undef⟩⟩⟩
theorem vT.both(I:vT P B ops Ti K0 m0 a0 w0 V T S D E H True L K m w a)(hU:wG P ops)(hO:∀K,kN P K B O)(hi:¬i∈D)(hr:i∈Region.ready .any ops L){x:Item}(hx:compItem P ops i=some x){k:BT Value->St->Bool}(hk:zU P O x T S k=true){r:Option Nat}
 (hKK:∀V' T' S' m' w' a',k T' S'=true->vT P B ops Ti K0 m0 a0 w0 V' T' S' (i::D) (E.setIfInBounds i true) H False (L.setIfInBounds i true) K m' w' a'->KK a' w'):wpOpIn (Fr r) n P ops Q i KK a w:=by
 obtain⟨h0,o,ho,hd0⟩:=mem_ready.1 hr;obtain⟨hlt,hn⟩:=iK.1 h0;have hlt':i<ops.size:=(Array.getElem?_eq_some_iff.1 ho).1;have hdL:=uR (p:=rB L) hd0;have hd':∀e∈o.after,Region.binds .any e=true->e.on∈D:=fun e he hb=>I.sub _ (hd0 e he hb)
 have hd:=uR (p:=(·∈D)) hd';have hat:∀t∈readsT P ops o,∀v,T.get t=some v->∃u,a.tmps[t]? = some u/\VR m v u:=fun t ht v hv=>I.at_ready hU ho hn hdL t ht v ((SG I hU ho hi hd t ht v).1 hv)
 have hρ:=Qc (m:=m) hat;obtain⟨o',ho',hxd,hxo,hg⟩:=pX hx;rw[ho] at ho';cases ho';obtain⟨g,d,op⟩:=x;simp only at hxd hxo hg;subst hxd hxo;have hgo:sI ops o g:=hg;obtain⟨gy,gn⟩:=uP (a:=a) (m:=m) (T:=T) hgo (fun t w e v hv=>hat t (uQ hgo t w e) v hv);have hset:=uO (L:=L) (i:=i) (by rw[I.sl];exact hlt');have hVd:∀(v:Value) (k:Nat),k∈D->xY V i v k=V k:=fun v k hk=>Cl (by rintro rfl;exact hi hk)
 have done:∀(T':BT Value) (v u:Value) (S':St) (m':Mp) (w':World),(∀t,T'.get t=if o.dst=some t then some v else T.get t)->(∀d,o.dst=some d->(T.get d).isSome=true)->m.le m'->dO P K B m' S' w'->Below B w w'->VR m' v u ->
  vT P B ops Ti K0 m0 a0 w0 (xY V i v) T' S' (i::D) (E.setIfInBounds i true) H False (L.setIfInBounds i true) K m' w' (a.put o.dst u):=by
  intro T' v u S' m' w' hT' hsome hle hE hB hv;refine⟨by simp[I.se],by simp[I.sl],IN I hlt',⟨hi,⟨o,ho,hd'⟩,I.ord⟩,fun j hj=>?_,xI I.closed ho hdL hset,hE,FD I hU ho hi hT',fun t x hx=>?_,fun t x hx=>?_,fun j hj hnj=>?_,I.k0,I.le.trans hle,I.bel.trans hB,by rw[Ao];exact I.df⟩
  ·rcases (hset j).1 hj with rfl|hj
   ·exact List.mem_cons_self
   ·exact List.mem_cons_of_mem _ (I.sub j hj)
  ·have hx:=(kH.more (V:=V) hU ho hset hn (fun k hk=>hVd v k (I.sub k hk))).1 hx
   by_cases e:o.dst=some t
   ·rw[if_pos e,oW] at hx
    subst hx;obtain⟨u0,hu0⟩:=Option.isSome_iff_exists.1 (hsome t e);exact⟨u,wI.2.1 e (I.sz t u0 hu0),hv⟩
   ·rw[if_neg e] at hx
    obtain⟨u',h1,h2⟩:=I.tW t x hx;exact⟨u',by rw[wI.2.2 e];exact h1,h2.mono hle⟩
  ·rw[(wI (a:=a) (d:=o.dst) (u:=u) (t:=t)).1]
   exact FE I hT' hsome t x hx
  ·have hji:j≠i:=fun h=>hnj ((hset j).2 (.inl h))
   have hjD:j∈D:=by
    rcases List.mem_cons.1 hj with h|h
    ·exact absurd h hji
    ·exact h
   have hnjL:¬rB L j:=fun h=>hnj ((hset j).2 (.inr h))
   exact(I.pend j hjD hnjL).keep (hVd v j hjD) (fun oj hoj k hk=>hVd v k (I.ord.closed j oj hjD hoj k hk)) (fun h=>h.elim) (fun g ob hg hH=>⟨hg,hH⟩)
 unfold wpOpIn;rw[ho];simp only;have hk0:kI T g (iI P O T S (orBad (compOp P o)) (fun v s=>kA T o.dst v (fun T=>k T s))) (kA T o.dst undef (fun T=>k T S))=true:=hk;rcases lT hk0 with ⟨h1,h2⟩|⟨h1,h2⟩
 ·rw[if_pos (gy h1)]
  cases hc:compOp P o with
  |none=>rw[hc] at h2;cases h2
  |some c=>
   rw[hc] at h2;refine Oper.wpIn_mono ?_ (Ah (hO K) hc I.emb hρ (k:=fun v s=>kA T o.dst v (fun T=>k T s)) h2);rintro a' w' ⟨v',u,s',m',hk,hle,hE,hB,hv,rfl⟩;obtain⟨T',h5,h6,h7⟩:=rK hk;exact hKK _ _ _ _ _ _ h5 (done T' v' u s' m' w' h7 h6 hle hE hB hv)
 ·rw[if_neg (by rw[gn h1];simp)]
  obtain⟨T',h5,h6,h7⟩:=rK h2;exact⟨fun _ _=>trivial,hKK _ _ _ _ _ _ h5 (done T' undef undef S m w h7 h6 (Mp.le_refl m) I.emb (Below.refl B w) (VR.flat undef rfl))⟩
end
end Go.Proofs.YtjkdkpckjgaplaaGreat.Ev
