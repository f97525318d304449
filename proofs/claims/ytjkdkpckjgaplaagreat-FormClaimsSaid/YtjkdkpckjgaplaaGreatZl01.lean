import Derived.RangeFuncLeaves
import Derived.RangeFuncIn
import Derived.OrdersIn
import Derived.Below
import Derived.KernelRfl
import Derived.Laws.CopyRow
import Derived.Laws.Cells
import Derived.Shelf.Abstract
set_option linter.unusedVariables false
set_option linter.unusedSimpArgs false
namespace Go.Proofs.YtjkdkpckjgaplaaGreat
variable{p:Prop}
theorem oM(h:p:=by omega):p:=h
theorem dE(h:p:=by decide):p:=h
theorem aM(h:p:=by assumption):p:=h
theorem sM(h:p:=by simp):p:=h
theorem kR(h:p:=by kernel_rfl):p:=h
theorem sR{α:Type _}{l a b:List α}(h:l.Sublist b):l.Sublist (a++b):=List.sublist_append_of_sublist_right h
theorem sA{α:Type _}{a b:List α}:a.Sublist (a++b):=List.sublist_append_left _ _
end Go.Proofs.YtjkdkpckjgaplaaGreat
namespace Go.Proofs.YtjkdkpckjgaplaaGreat.Ev
theorem _root_.List.Sublist.q{α:Type _}{a b:List α}{x:α}(h:a.Sublist b):(x::a).Sublist (x::b):=.cons_cons x h
theorem _root_.List.Sublist.r{α:Type _}{l a b:List α}(h:a.Sublist b):(l++a).Sublist (l++b):=(List.Sublist.refl l).append h
theorem J{α:Sort _}{a:α}:a=a:=rfl
open Go
/-! Trees by number. -/
inductive BT(α:Type) where
 |leaf
 |node (a:α) (l r:BT α)
def sel{α:Type}(b:Bool)(x y:α):α:=match b with|true=>x|false=>y
def BT.get{α:Type}:BT α->Nat->Option α
 | .leaf,_=>none
 | .node a l r,n=>if n=0 then some a else if n % 2=1 then l.get (n / 2) else r.get (n / 2-1)
def BT.add{α:Type}:BT α->Nat->α->BT α
 | .leaf,n,v=>if n=0 then .node v .leaf .leaf else .leaf
 | .node a l r,n,v=>if n=0 then .node a l r else if n % 2=1 then .node a (l.add (n / 2) v) r else .node a l (r.add (n / 2-1) v)
def BT.adds{α:Type}:BT α->Nat->List α->BT α
 |t,_,[]=>t
 |t,n,v::l=>(t.add n v).adds (n+1) l
def BT.ofList{α:Type}(l:List α):BT α:=BT.adds .leaf 0 l
inductive iH where
 |normal|ret|exit (id:Nat)|goto (l:Nat)
inductive X where
 |t (i:Nat)
 |c (v:Value)
inductive COp where
 |mov (x:X)
 |pick (c a b:X)
 |new (e n:Nat) (z:BT Value)
 |box (e:Nat) (x:X)
 |build (z:List Value) (ps:List (Nat×Nat×X))
 |lit (e len n:Nat) (z:List Value) (ps:List (Nat×Nat×X))
 |ld (a:X) (n:Option Nat)
 |st (a x:X) (n:Option Nat)
 |nilc (x:X)
 |bin (b:BinOp) (t d:Nat) (x y:X)
 |un (u:UnOp) (x:X)
 |conv (a b:Nat) (x:X)
 |mini (t:Nat) (x:X)
 |tas (x:X) (a b:Nat) (ok:Bool)
 |bi (b:Builtin) (ts:Array Nat) (t:Nat) (l:List X)
 |ixs (t:Nat) (x i:X)
 |fn (f:Nat) (p c:List X)
 |mks (e size bytes:Nat) (z:List Value) (l c:X)
 |slc (e size:Nat) (x:X) (lo hi mx:Option X)
 |slcn (t:Nat) (x:X) (lo hi mx:Option X)
 |fa (x:X) (off:Nat)
 |fld (x:X) (off:Nat) (n:Option Nat)
 |ia (x i:X) (size:Nat)
 |iaa (x i:X) (len size:Nat)
 |ix (x i:X) (len size:Nat) (n:Option Nat)
 |ext (x:X) (i:Nat)
 |len (x:X)
 |cap (x:X)
 |app (e size bytes:Nat) (z:List Value) (ints:Bool) (x y:X)
 |copy (size:Nat) (x y:X)
 |clear (size:Nat) (z:List Value) (x:X)
 |again (a:X) (n:Option Nat) (d:Nat)
 |againS (e size:Nat) (x:X) (lo hi mx:Option X) (d:Nat)
 |mkmap
 |ins (m x v:X)
 |look (m x:X) (z:Value) (ok:Bool)
 |call (f:X) (args:List X)
 |bad
structure Item where
 g:Option (Nat×Bool)
 d:Option Nat
 op:COp
inductive CC where
 |skip|ret
 |exit (id:Nat)
 |goto (l:Nat)
 |seq (a b:CC)
 |cond (x:X) (a b:CC)
 |block (id:Nat) (b:CC)
 |loop (b:CC)
 |scope (b:CC)
 |items (l:List Item)
 |range (f:X) (ps:List Nat) (assign body:CC)
 |bad
inductive eW where
 |dead
 |cells (n:Nat) (c:BT Value) (e:Nat) (op:Bool)
 |loop (s:LoopState) (pend:iH) (T:BT Value) (ps:List Nat) (assign body:CC) (q:Nat)
 |deferred (d:Bool)
 |imap (es:List (Int×Value))
 |rom (g:Nat->Option Value)
structure St where
 h:BT eW
 n:Nat
def OPEN:Nat:=18446744073709551616
/-! Values without addresses. -/
mutual
def flat:Value->Bool
 | .bool _ | .int _ _ | .float _ _ | .complex _ _ _ | .string _ | .nilFunc | .nilIface=>true
 | .pointer none | .map none | .chan none=>true
 | .slice none _ c=>Nat.blt c OPEN
 | .pointer (some _) | .slice (some _) _ _ | .map (some _) | .chan (some _)=>false
 | .func fn first captured=>(match fn with | .func _=>true|_=>false) && flatA first && flatA captured
 | .iface _ v=>flat v
 | .agg cs=>flatA cs
 | .tuple vs=>flatA vs
def flatA:Array Value->Bool
 |⟨l⟩=>flatL l
def flatL:List Value->Bool
 |[]=>true
 |v::l=>flat v && flatL l
end
/-! ## Turning the program's code -/
def cx:Operand->Option X
 | .tmp t=>some (.t t)
 | .const v=>sel (flat v) (some (.c v)) none
 | .func f=>some (.c (.func (.func f) #[] #[]))
 | .global _=>none
def cxs:List Operand->Option (List X)
 |[]=>some []
 |x::l=>match cx x,cxs l with
  |some x,some l=>some (x::l)
  |_,_=>none
def cxo:Option Operand->Option (Option X)
 |none=>some none
 |some x=>(cx x).map some
def cparts(place:Nat->Option (Nat×Nat)):List (Nat×Operand)->Option (List (Nat×Nat×X))
 |[]=>some []
 |(i,x)::l=>match place i,cx x,cparts place l with
  |some (o,n),some x,some l=>some ((o,n,x)::l)
  |_,_,_=>none
def oneCell:Value->Bool
 | .agg _ | .tuple _=>false
 |_=>true
def zeroOf(P:Program)(t:TypeId):Option (Array Value):=
 match P.info? t with
 |some i=>match i.zero with
  |some v=>sel (flatA v.cells && v.cells.toList.all oneCell) (some v.cells) none
  |none=>none
 |none=>none
def aggOf(P:Program)(t:TypeId):Option (Option Nat):=
 match P.underlying t,P.info? t with
 |some (.struct _),some i|some (.array _ _),some i=>some (some i.size)
 |some _,some _=>some none
 |_,_=>none
def repeatN(z:List Value):Nat->List Value
 |0=>[]
 |n+1=>z++repeatN z n
def placesOf(P:Program)(fs:Array Field)(i:Nat):Option (Nat×Nat):=
 match fs[i]? with
 |some f=>match P.info? f.type with
  |some inf=>some (f.offset,inf.size)
  |none=>none
 |none=>none
def inN(n:Nat):List (Nat×Nat×X)->Bool
 |[]=>true
 |(o,k,_)::l=>Nat.ble (o+k) n && inN n l
def nilKind(P:Program)(t:TypeId):Nat:=
 match P.underlying t with
 |some (.slice _)=>1
 |some (.pointer _)=>2
 |some (.func _ _ _)=>3
 |some (.interface _)=>4
 |some (.struct _)|some (.array _ _)=>sel (P.eqGuardType P.depth t) 0 5
 |_=>0
def compOp(P:Program)(o:Oper):Option COp:=
 match o.op with
 | .move x | .assign x=>(cx x).map .mov
 | .pick c a b=>match cx c,cx a,cx b with
  |some c,some a,some b=>some (.pick c a b)
  |_,_,_=>none
 | .alloc elem=>(zeroOf P elem).map fun z=> .new elem z.size (.ofList z.toList)
 | .box elem x=>(cx x).map (.box elem)
 | .build t parts=>match zeroOf P t,P.underlying t with
  |some z,some (.struct fs)=>match cparts (placesOf P fs) parts.toList with
   |some ps=>sel (inN z.size ps && fs.toList.all (fun f=>(P.info? f.type).isSome)) (some (.build z.toList ps)) none
   |none=>none
  |some z,some (.array _ e)=>match P.info? e with
   |some i=>match cparts (fun k=>some (k*i.size,i.size)) parts.toList with
    |some ps=>sel (inN z.size ps) (some (.build z.toList ps)) none
    |none=>none
   |none=>none
  |_,_=>none
 | .buildSlice t len parts=>match P.underlying t with
  |some (.slice e)=>match P.info? e,zeroOf P e with
   |some i,some z=>match cparts (fun k=>some (k*i.size,i.size)) parts.toList with
    |some ps=>sel (inN (len*i.size) ps && Nat.beq z.size i.size && Nat.ble (len*i.size) 65536 && Nat.ble len 65536) (some (.lit e len (len*i.size) (repeatN z.toList len) ps)) none
    |none=>none
   |_,_=>none
  |_=>none
 | .load t a=>match aggOf P t,cx a with
  |some n,some a=>some (.ld a n)
  |_,_=>none
 | .store t a x=>match aggOf P t,P.info? t,cx a,cx x with
  |some n,some i,some a,some x=>sel (match n with|none=>Nat.beq i.size 1|some _=>true) (some (.st a x n)) none
  |_,_,_,_=>none
 | .nilCheck x=>(cx x).map .nilc
 | .binOp b t x y _=>match cx x,cx y with
  |some x,some y=>some (.bin b t (nilKind P t) x y)
  |_,_=>none
 | .makeFunc (.func f) p c=>match cxs p.toList,cxs c.toList with
  |some p,some c=>some (.fn f p c)
  |_,_=>none
 | .makeSlice t l c=>match P.underlying t,cx l,cx c with
  |some (.slice e),some l,some c=>match P.info? e,zeroOf P e with
   |some i,some z=>sel (Nat.beq z.size i.size) (some (.mks e i.size i.bytes z.toList l c)) none
   |_,_=>none
  |_,_,_=>none
 | .slice t x lo hi mx=>match P.underlying t,cx x,cxo lo,cxo hi,cxo mx with
  |some (.slice e),some x,some lo,some hi,some mx=>match P.info? e with
   |some i=>sel (mx.isNone || hi.isSome) (some (.slc e i.size x lo hi mx)) none
   |none=>none
  |some .string,some x,some lo,some hi,some mx=>some (.slcn t x lo hi mx)
  |_,_,_,_,_=>none
 | .fieldAddr t x f=>match P.underlying t,cx x with
  |some (.struct fs),some x=>match fs[f]? with
   |some fd=>match P.info? fd.type with
    |some i=>sel (Nat.beq i.size 0) none (some (.fa x fd.offset))
    |none=>none
   |none=>none
  |_,_=>none
 | .field t x f=>match P.underlying t,cx x with
  |some (.struct fs),some x=>match fs[f]? with
   |some fd=>(aggOf P fd.type).map (.fld x fd.offset)
   |none=>none
  |_,_=>none
 | .indexAddr t x i=>match P.underlying t,cx x,cx i with
  |some (.slice e),some x,some i=>(P.info? e).map fun inf=> .ia x i inf.size
  |some (.array n e),some x,some i=>(P.info? e).map fun inf=> .iaa x i n inf.size
  |_,_,_=>none
 | .index t x i=>match P.underlying t,cx x,cx i with
  |some (.array n e),some x,some i=>match P.info? e,aggOf P e with
   |some inf,some k=>some (.ix x i n inf.size k)
   |_,_=>none
  |some .string,some x,some i=>some (.ixs t x i)
  |_,_,_=>none
 | .extract t i=>(cx t).map (.ext · i)
 | .call { callee:=.value f,args,.. }=>match cx f,cxs args.toList with
  |some f,some l=>some (.call f l)
  |_,_=>none
 | .call { callee:=.builtin b,args,argTypes }=>
  match b,args.toList with
  | .len,[x]=>match (argTypes[0]?).bind P.underlying with
   |some (.slice _)=>(cx x).map .len
   |some .string=>(cx x).map fun x=> .bi .len argTypes o.type [x]
   |_=>none
  | .cap,[x]=>match (argTypes[0]?).bind P.underlying with
   |some (.slice _)=>(cx x).map .cap
   |_=>none
  | .append,[x,y]=>match (argTypes[0]?).bind P.underlying,(argTypes[1]?).bind P.underlying,cx x,cx y with
   |some (.slice e),some d,some x,some y=>match P.info? e,zeroOf P e with
    |some i,some z=>sel (Nat.beq z.size i.size && !Nat.beq i.size 0)
     (match d with
     | .int _=>some (.app e i.size i.bytes z.toList true x y)
     | .slice _=>some (.app e i.size i.bytes z.toList false x y)
     |_=>none) none
    |_,_=>none
   |_,_,_,_=>none
  | .copy,[x,y]=>match (argTypes[0]?).bind P.underlying,cx x,cx y with
   |some (.slice e),some x,some y=>(P.info? e).map fun i=> .copy i.size x y
   |_,_,_=>none
  | .clear,[x]=>match (argTypes[0]?).bind P.underlying,cx x with
   |some (.slice e),some x=>match P.info? e,zeroOf P e with
    |some i,some z=>sel (Nat.beq z.size i.size) (some (.clear i.size z.toList x)) none
    |_,_=>none
   |_,_=>none
  | .max,l=>(cxs l).map (.bi .max argTypes o.type)
  | .min,l=>(cxs l).map (.bi .min argTypes o.type)
  |_,_=>none
 | .unOp u _ x=>(cx x).map (.un u)
 | .convert a b x=>(cx x).map (.conv a b)
 | .makeInterface t x=>(cx x).map (.mini t)
 | .typeAssert x a b ok=>(cx x).map (.tas · a b ok)
 | .makeMap _ none=>some .mkmap
 | .insert t m x v=>match P.underlying t,cx m,cx x,cx v with
  |some (.map q _),some m,some x,some v=>match P.underlying q with
   |some (.int _)=>some (.ins m x v)
   |_=>none
  |_,_,_,_=>none
 | .lookup t m x ok=>match P.underlying t,cx m,cx x with
  |some (.map q e),some m,some x=>match P.underlying q,P.info? e with
   |some (.int _),some i=>match i.zero with
    |some z=>sel (flat z) (some (.look m x z ok)) none
    |none=>none
   |_,_=>none
  |_,_,_=>none
 |_=>none
def calm:Op->Bool
 | .move _ | .assign _ | .pick .. | .alloc _ | .box .. | .build .. | .buildSlice .. | .load .. | .nilCheck _ | .binOp .. | .unOp .. | .convert .. | .makeFunc ..
 | .makeSlice .. | .slice .. | .fieldAddr .. | .field .. | .indexAddr .. | .index .. | .extract .. | .makeInterface .. | .typeAssert ..=>true
 | .call { callee:=.builtin b,.. }=>match b with | .len | .cap | .min | .max=>true|_=>false
 |_=>false
def isLook:Op->Bool
 | .load .. | .slice ..=>true
 |_=>false
def anc(b:Array Nat)(j i:Nat):Bool:=(b.getD j 0).testBit i
def pickCalm(ops:Array Oper):List Nat->Option Nat
 |[]=>none
 |i::l=>sel (match ops[i]? with|some o=>calm o.op|none=>false) (some i) (pickCalm ops l)
def sched(ops:Array Oper)(b:Array Nat):Nat->Array Bool->List Nat->Option (List (Nat×List Nat))
 |0,listed,_=>match Region.ready .any ops listed with
  |[]=>some []
  |_=>none
 |fuel+1,listed,lds=>match Region.ready .any ops listed with
  |[]=>some []
  |i::rs=>match pickCalm ops (i::rs) with
   |some j=>match sched ops b fuel (listed.setIfInBounds j true) (sel (match ops[j]? with|some o=>isLook o.op|none=>false) (j::lds) lds) with
    |some l=>some ((j,[])::l)
    |none=>none
   |none=>match rs with
    |[]=>match sched ops b fuel (listed.setIfInBounds i true) lds with
     |some l=>some ((i,lds.filter fun k=>!anc b i k)::l)
     |none=>none
    |_=>none
def orBad:Option COp->COp
 |some c=>c
 |none=> .bad
def compItem(P:Program)(ops:Array Oper)(i:Nat):Option Item:=
 match ops[i]? with
 |some o=>match o.guard with
  |none=>some ⟨none,o.dst,orBad (compOp P o)⟩
  |some (j,w)=>match (ops[j]?).bind (·.dst) with
   |some t=>some ⟨some (t,w),o.dst,orBad (compOp P o)⟩
   |none=>none
 |none=>none
def againOf:Item->Option Item
 |⟨g,some d,.ld a n⟩=>some ⟨g,none,.again a n d⟩
 |⟨g,some d,.slc e size x lo hi mx⟩=>some ⟨g,none,.againS e size x lo hi mx d⟩
 |⟨g,d,.slcn t x lo hi mx⟩=>some ⟨g,none,.slcn t x lo hi mx⟩
 |_=>none
def againItem(P:Program)(ops:Array Oper)(i:Nat):Option Item:=
 match compItem P ops i with
 |some x=>againOf x
 |none=>none
def agains(P:Program)(ops:Array Oper):List Nat->Option (List Item)
 |[]=>some []
 |i::l=>match againItem P ops i,agains P ops l with
  |some x,some l=>some (x::l)
  |_,_=>none
def itemsOf(P:Program)(ops:Array Oper):List (Nat×List Nat)->Option (List Item)
 |[]=>some []
 |(i,k)::l=>match compItem P ops i,agains P ops k,itemsOf P ops l with
  |some x,some a,some l=>some (x::(a++l))
  |_,_,_=>none
/-! What an operation reads. -/
def xsO:Option X->List X
 |some x=>[x]
 |none=>[]
def opXs:COp->List X
 | .mov x | .nilc x | .un _ x | .conv _ _ x | .mini _ x | .tas x _ _ _ | .fa x _ | .fld x _ _ | .ext x _ | .len x | .cap x | .ld x _=>[x]
 | .pick c a b=>[c,a,b]
 | .bin _ _ _ x y | .ixs _ x y | .ia x y _ | .iaa x y _ _ | .ix x y _ _ _=>[x,y]
 | .bi _ _ _ l=>l
 | .fn _ p c=>p++c
 | .slcn _ x lo hi mx | .slc _ _ x lo hi mx=>x::(xsO lo++xsO hi++xsO mx)
 | .build _ ps=>ps.map (·.2.2)
 |_=>[]
def xT:X->List Nat
 | .t i=>[i]
 | .c _=>[]
def oT:Operand->List Nat
 | .tmp t=>[t]
 |_=>[]
def gT(ops:Array Oper)(o:Oper):List Nat:=
 match o.guard with
 |none=>[]
 |some (j,_)=>match (ops[j]?).bind (·.dst) with
  |some t=>[t]
  |none=>[]
def readsT(P:Program)(ops:Array Oper)(o:Oper):List Nat:=
 o.op.operands.toList.flatMap oT++(opXs (orBad (compOp P o))).flatMap xT++gT ops o
def depOn(o:Oper)(i:Nat):Bool:=o.after.toList.any fun e=>Nat.beq e.on i && Region.binds .any e
def memN(d:Nat):List Nat->Bool
 |[]=>false
 |x::l=>Nat.beq x d || memN d l
def writes(o:Oper)(d:Nat):Bool:=match o.dst with|some x=>Nat.beq x d|none=>false
def tmpsOk(P:Program)(ops:Array Oper)(b:Array Nat):Bool:=
 (List.range ops.size).all fun i=>match ops[i]? with
  |some o'=>(match o'.dst with
   |some d=>(List.range ops.size).all fun j=>match ops[j]? with
    |some o=>(Nat.beq i j || !writes o d) && (!memN d (readsT P ops o) || depOn o i || (!isLook o.op && anc b i j))
    |none=>true
   |none=>true)
  |none=>true
def compRegion(P:Program)(ops:Array Oper)(draw:Bool):Option (List Item):=
 match draw with
 |true=>sel (tmpsOk P ops (Region.before ops) && P.follows .mixedOrders)
  (match sched ops (Region.before ops) ops.size (Array.replicate ops.size false) [] with
  |some l=>itemsOf P ops l
  |none=>none) none
 |false=>itemsOf P ops ((List.range ops.size).map (·,[]))
def itemsOr:Option (List Item)->CC
 |some l=> .items l
 |none=> .bad
def condOr(a b:CC):Option X->CC
 |some x=> .cond x a b
 |none=> .bad
def rangeOr(ps:List Nat)(a b:CC):Option X->CC
 |some x=> .range x ps a b
 |none=> .bad
def comp(P:Program):Code->CC
 | .skip=> .skip
 | .label _=> .skip
 | .ret=> .ret
 | .exit id=> .exit id
 | .goto l=> .goto l
 | .seq a b=> .seq (comp P a) (comp P b)
 | .cond c a b=>condOr (comp P a) (comp P b) (cx c)
 | .block id b=> .block id (comp P b)
 | .loop b=> .loop (comp P b)
 | .scope b=> .scope (comp P b)
 | .region _ ops draw=>itemsOr (compRegion P ops draw)
 | .rangeFunc f ps assign body=>rangeOr ps.toList (comp P assign) (comp P body) (cx f)
 | .refuse _=> .bad
inductive CRes where
 |tmp (t:Nat)
 |cell (a:Nat) (n:Option Nat)
structure CF where
 body:CC
 ntmps:Nat
 res:List CRes
def compRes(P:Program):List ResultVar->Option (List CRes)
 |[]=>some []
 | .tmp t::l=>(compRes P l).map (.tmp t::·)
 | .cell a t::l=>match aggOf P t,compRes P l with
  |some n,some l=>some (.cell a n::l)
  |_,_=>none
def compF(P:Program)(f:FuncId):Option CF:=
 match P.funcs[f]? with
 |some fn=>match fn.body with
  |some c=>match compRes P fn.results.toList with
   |some r=>sel (fn.name == "runtime.NumGoroutine") none (some ⟨comp P c,fn.ntmps,r⟩)
   |none=>none
  |none=>none
 |none=>none
/-! ## Running it -/
def pureVal{α:Type}(P:Program):Sem α->Option α
 | .pure a=>some a
 | .program k=>pureVal P (k P)
 | .mark _ k=>pureVal P k
 |_=>none
def flatR:Option Value->Option Value
 |some v=>sel (flat v) (some v) none
 |none=>none
def ev1(P:Program)(f:Value->Sem Value)(x:Value):Option Value:=sel (flat x) (flatR (pureVal P (f x))) none
def nextV:Option Next->Option Value
 |some (.value v)=>some v
 |_=>none
def evBi(P:Program)(b:Builtin)(ts:Array Nat)(t:Nat)(l:List Value):Option Value:=
 sel (flatL l) (flatR (nextV (pureVal P (builtin b ts t #[] ⟨l⟩)))) none
def flatO:Option Value->Bool
 |none=>true
 |some v=>flat v
def evSlcn(P:Program)(t:Nat)(x:Value)(lo hi mx:Option Value):Option Value:=
 sel (flat x && flatO lo && flatO hi && flatO mx) (flatR (pureVal P (Instr.slice t x lo hi mx))) none
def evIxs(P:Program)(t:Nat)(x i:Value):Option Value:=sel (flat x && flat i) (flatR (pureVal P (Instr.index t x i))) none
def kindEq:IntKind->IntKind->Bool
 | .i8,.i8 | .i16,.i16 | .i32,.i32 | .i64,.i64 | .u8,.u8 | .u16,.u16 | .u32,.u32 | .u64,.u64=>true
 |_,_=>false
def intEq:Int->Int->Bool
 | .ofNat a,.ofNat b=>Nat.beq a b
 | .negSucc a,.negSucc b=>Nat.beq a b
 |_,_=>false
def intLt:Int->Int->Bool
 | .ofNat a,.ofNat b=>Nat.blt a b
 | .negSucc a,.negSucc b=>Nat.blt b a
 | .negSucc _,.ofNat _=>true
 | .ofNat _,.negSucc _=>false
def fits:Int->Bool
 | .ofNat a=>Nat.blt a 9223372036854775808
 | .negSucc a=>Nat.blt a 9223372036854775808
def wrapq(k:IntKind)(n:Int):Int:=
 match k with
 | .i64=>sel (fits n) n (IntKind.wrap .i64 n)
 |k=>k.wrap n
def intBin(b:BinOp)(k:IntKind)(x y:Int):Option Value:=
 match b with
 | .add=>some (.int k (wrapq k (x+y)))
 | .sub=>some (.int k (wrapq k (x-y)))
 | .mul=>some (.int k (wrapq k (x*y)))
 | .eql=>some (.bool (intEq x y))
 | .neq=>some (.bool (!intEq x y))
 | .lss=>some (.bool (intLt x y))
 | .leq=>some (.bool (!intLt y x))
 | .gtr=>some (.bool (intLt y x))
 | .geq=>some (.bool (!intLt x y))
 | .quo=>sel (intEq y 0) none (some (.int k (wrapq k (x.tdiv y))))
 | .rem=>sel (intEq y 0) none (some (.int k (x.tmod y)))
 |_=>none
def nilCmp(d:Nat)(x y:Value):Bool:=
 match d,x,y with
 |1,.slice none _ _,.slice (some _) _ _|1,.slice (some _) _ _,.slice none _ _
 |2,.pointer none,.pointer (some _)|2,.pointer (some _),.pointer none
 |3,.nilFunc,.func _ _ _|3,.func _ _ _,.nilFunc
 |4,.nilIface,.iface _ _|4,.iface _ _,.nilIface=>true
 |_,_,_=>false
def evNil(b:BinOp):Option Value:=
 match b with
 | .eql=>some (.bool false)
 | .neq=>some (.bool true)
 |_=>none
def noGuard(d:Nat):Value->Bool
 | .nilIface=>false
 | .agg _=>Nat.beq d 5
 |_=>true
def evBin2(P:Program)(b:BinOp)(t d:Nat)(x y:Value):Option Value:=
 sel (flat x && flat y && noGuard d x) (flatR (pureVal P (binOp b t x y))) none
def orElse(x y:Option Value):Option Value:=match x with|some v=>some v|none=>y
def evBin(P:Program)(b:BinOp)(t d:Nat)(x y:Value):Option Value:=
 match x,y with
 | .int k m,.int k' n=>sel (kindEq k k') (orElse (intBin b k m n) (evBin2 P b t d (.int k m) (.int k' n))) (evBin2 P b t d (.int k m) (.int k' n))
 |x,y=>sel (nilCmp d x y) (evNil b) (evBin2 P b t d x y)
def natOf:Value->Option Nat
 | .int _ (.ofNat n)=>some n
 |_=>none
def bnd(d:Nat):Option Value->Option Nat
 |none=>some d
 |some v=>natOf v
def evNilc:Value->Option Value
 | .pointer (some a)=>some (.pointer (some a))
 | .func (.func f) p c=>some (.func (.func f) p c)
 |_=>none
def evCap:Value->Option Value
 | .slice _ _ c=>sel (Nat.ble OPEN c) none (some (.int .i64 c))
 |_=>none
def evSlcAt(b off len cap:Nat)(size l h:Nat)(m:Option Nat):Option Value:=
 match m with
 |none=>sel (Nat.ble l h) (some (.slice (some ⟨b,sel (Nat.beq cap l) off (off+l*size),none⟩) (h-l) (cap-l))) none
 |some m=>sel (Nat.ble l h && Nat.ble h m && Nat.ble m cap) (some (.slice (some ⟨b,sel (Nat.beq m l) off (off+l*size),none⟩) (h-l) (m-l))) none
def evSlcOpen(b size l h k j:Nat)(m:Option Nat):Option Value:=
 match m with
 |none=>sel (Nat.ble l h && Nat.ble ((j+h)*size) k) (some (.slice (some ⟨b,(j+l)*size,none⟩) (h-l) (OPEN+(j+l)))) none
 |some m=>sel (Nat.ble l h && Nat.ble h m && Nat.blt m OPEN && Nat.ble ((j+m)*size) k) (some (.slice (some ⟨b,sel (Nat.beq m l) (j*size) ((j+l)*size),none⟩) (h-l) (m-l))) none
def evMx:Option Value->Option (Option Nat)
 |none=>some none
 |some v=>(natOf v).map some
def evSlc(row:Nat->Option (Nat×Nat×Bool))(e size:Nat)(x:Value)(lo hi mx:Option Value):Option Value:=
 match x with
 | .slice (some ⟨b,off,none⟩) len cap=>match bnd 0 lo,bnd len hi,evMx mx with
  |some l,some h,some m=>
   sel (Nat.ble OPEN cap)
    (match row b with
    |some (k,e',op)=>sel (op && Nat.beq e e' && Nat.beq off ((cap-OPEN)*size) && !Nat.beq size 0 && (Nat.beq cap OPEN || !Nat.beq len 0)) (evSlcOpen b size l h k (cap-OPEN) m) none
    |none=>none)
    (sel (Nat.ble h cap) (evSlcAt b off len cap size l h m) none)
  |_,_,_=>none
 | .slice none 0 0=>match bnd 0 lo,bnd 0 hi,evMx mx with
  |some 0,some 0,some none=>some (.slice none 0 0)
  |some 0,some 0,some (some 0)=>some (.slice none 0 0)
  |_,_,_=>none
 |_=>none
/-! Equality of values. -/
mutual
def eqV:Value->Value->Bool
 | .bool a,.bool b=>match a,b with|true,true|false,false=>true|_,_=>false
 | .int k a,.int k' b=>kindEq k k' && intEq a b
 | .string a,.string b=>decide (a=b)
 | .pointer none,.pointer none=>true
 | .pointer (some ⟨a,o,none⟩),.pointer (some ⟨b,o',none⟩)=>Nat.beq a b && Nat.beq o o'
 | .slice none l c,.slice none l' c'=>Nat.beq l l' && Nat.beq c c'
 | .slice (some ⟨a,o,none⟩) l c,.slice (some ⟨b,o',none⟩) l' c'=>Nat.beq a b && Nat.beq o o' && Nat.beq l l' && Nat.beq c c'
 | .func (.func f) p c,.func (.func f') p' c'=>Nat.beq f f' && eqA p p' && eqA c c'
 | .func (.yield f) p c,.func (.yield f') p' c'=>Nat.beq f f' && eqA p p' && eqA c c'
 | .nilFunc,.nilFunc=>true
 | .nilIface,.nilIface=>true
 | .iface t v,.iface t' v'=>Nat.beq t t' && eqV v v'
 | .agg a,.agg b=>eqA a b
 | .tuple a,.tuple b=>eqA a b
 |_,_=>false
def eqA:Array Value->Array Value->Bool
 |⟨a⟩,⟨b⟩=>eqL a b
def eqL:List Value->List Value->Bool
 |[],[]=>true
 |a::x,b::y=>eqV a b && eqL x y
 |_,_=>false
end
def undefs:Nat->List Value
 |0=>[]
 |n+1=>undef::undefs n
def full(n:Nat):BT Value:=BT.ofList (undefs n)
end Go.Proofs.YtjkdkpckjgaplaaGreat.Ev
namespace Go.Proofs.YtjkdkpckjgaplaaGreat.Ev
open Go
noncomputable section
def ifB(b x y:Bool):Bool:=@Bool.rec (fun _=>Bool) y x b
def dG(n:Nat)(k:Nat->Bool):Bool:=@Nat.rec (fun _=>Bool) (k 0) (fun m _=>k (Nat.succ m)) n
def El(n:Int)(k:Int->Bool):Bool:=@Int.rec (fun _=>Bool) (fun m=>dG m (fun m=>k (Int.ofNat m))) (fun m=>dG m (fun m=>k (Int.negSucc m))) n
def Ik(b:Bool)(k:Bool->Bool):Bool:=@Bool.rec (fun _=>Bool) (k false) (k true) b
def lM{α:Type}(t:BT α)(n:Nat)(k:α->Bool):Bool:=
 @BT.rec α (fun _=>Nat->Bool) (fun _=>false)
  (fun a _ _ gl gr n=>@Bool.rec (fun _=>Bool) (@Bool.rec (fun _=>Bool) (gr (Nat.pred (Nat.div n 2))) (gl (Nat.div n 2)) (Nat.beq (Nat.mod n 2) 1)) (k a) (Nat.beq n 0)) t n
def nN{α:Type}(t:BT α)(n:Nat)(v:α)(k:BT α->Bool):Bool:=
 @BT.rec α (fun _=>Nat->(BT α->Bool)->Bool) (fun _ _=>false)
  (fun a l r gl gr n k=>@Bool.rec (fun _=>Bool) (@Bool.rec (fun _=>Bool) (gr (Nat.pred (Nat.div n 2)) (fun r=>k (.node a l r))) (gl (Nat.div n 2) (fun l=>k (.node a l r))) (Nat.beq (Nat.mod n 2) 1)) (k (.node v l r)) (Nat.beq n 0)) t n k
def qV{α:Type}(t:BT α)(n:Nat)(v:α)(k:BT α->Bool):Bool:=
 @BT.rec α (fun _=>Nat->(BT α->Bool)->Bool) (fun n k=>@Bool.rec (fun _=>Bool) false (k (.node v .leaf .leaf)) (Nat.beq n 0))
  (fun a l r gl gr n k=>@Bool.rec (fun _=>Bool) (@Bool.rec (fun _=>Bool) (gr (Nat.pred (Nat.div n 2)) (fun r=>k (.node a l r))) (gl (Nat.div n 2) (fun l=>k (.node a l r))) (Nat.beq (Nat.mod n 2) 1)) false (Nat.beq n 0)) t n k
def fM{α:Type}(t:BT α)(n:Nat)(l:List α)(k:BT α->Bool):Bool:=
 @List.rec α (fun _=>BT α->Nat->Bool) (fun t _=>k t) (fun v _ ih t n=>nN t n v (fun t=>ih t (Nat.succ n))) l t n
def eY{α:Type}(t:BT α)(n:Nat)(l:List α)(k:BT α->Bool):Bool:=
 @List.rec α (fun _=>BT α->Nat->Bool) (fun t _=>k t) (fun v _ ih t n=>qV t n v (fun t=>ih t (Nat.succ n))) l t n
def mJ{α:Type}(t:BT α)(i n:Nat)(k:List α->Bool):Bool:=
 @Nat.rec (fun _=>Nat->(List α->Bool)->Bool) (fun _ k=>k []) (fun _ ih i k=>lM t i (fun v=>ih (Nat.succ i) (fun l=>k (v::l)))) n i k
def bO(T:BT Value)(x:X)(k:Value->Bool):Bool:=@X.rec (fun _=>Bool) (fun i=>lM T i k) (fun v=>k v) x
def iZ(T:BT Value)(l:List X)(k:List Value->Bool):Bool:=
 @List.rec X (fun _=>(List Value->Bool)->Bool) (fun k=>k []) (fun x _ ih k=>bO T x (fun v=>ih (fun l=>k (v::l)))) l k
def pO(T:BT Value)(l:List (Nat×Nat×X))(k:List (Nat×Nat×Value)->Bool):Bool:=
 @List.rec (Nat×Nat×X) (fun _=>(List (Nat×Nat×Value)->Bool)->Bool) (fun k=>k [])
  (fun p _ ih k=>@Prod.rec Nat (Nat×X) (fun _=>Bool) (fun o q=>@Prod.rec Nat X (fun _=>Bool) (fun n x=>bO T x (fun v=>ih (fun l=>k ((o,n,v)::l)))) q) p) l k
def eU(T:BT Value)(x:Option X)(k:Option Value->Bool):Bool:=@Option.rec X (fun _=>Bool) (k none) (fun x=>bO T x (fun v=>k (some v))) x
/-! One shape of a value each. -/
def zQ(a:Option Addr)(z:Bool)(k:Nat->Nat->Bool):Bool:=
 @Option.rec Addr (fun _=>Bool) z (fun a=>@Addr.rec (fun _=>Bool) (fun b off sp=>@Option.rec Nat (fun _=>Bool) (k b off) (fun _=>false) sp) a) a
def tA(v:Value)(k:IntKind->Int->Bool)(z:Bool):Bool:=
 @Value.casesOn (fun _=>Bool) v (fun _=>z) (fun i n=>k i n) (fun _ _=>z) (fun _ _ _=>z) (fun _=>z) (fun _=>z) (fun _ _ _=>z) (fun _=>z) (fun _=>z) (fun _ _ _=>z) z (fun _ _=>z) z (fun _=>z) (fun _=>z)
def pP(v:Value)(k:Bool->Bool):Bool:=
 @Value.casesOn (fun _=>Bool) v (fun b=>k b) (fun _ _=>false) (fun _ _=>false) (fun _ _ _=>false) (fun _=>false) (fun _=>false) (fun _ _ _=>false) (fun _=>false) (fun _=>false) (fun _ _ _=>false) false (fun _ _=>false) false (fun _=>false) (fun _=>false)
def pQ(v:Value)(k:Bool->Bool)(z:Bool):Bool:=
 @Value.casesOn (fun _=>Bool) v (fun b=>k b) (fun _ _=>z) (fun _ _=>z) (fun _ _ _=>z) (fun _=>z) (fun _=>z) (fun _ _ _=>z) (fun _=>z) (fun _=>z) (fun _ _ _=>z) z (fun _ _=>z) z (fun _=>z) (fun _=>z)
def zS(v:Value)(k:Nat->Nat->Bool):Bool:=
 @Value.casesOn (fun _=>Bool) v (fun _=>false) (fun _ _=>false) (fun _ _=>false) (fun _ _ _=>false) (fun _=>false) (fun a=>zQ a false k) (fun _ _ _=>false) (fun _=>false) (fun _=>false) (fun _ _ _=>false) false (fun _ _=>false) false (fun _=>false) (fun _=>false)
def fX(v:Value)(z:Nat->Nat->Bool)(k:Nat->Nat->Nat->Nat->Bool):Bool:=
 @Value.casesOn (fun _=>Bool) v (fun _=>false) (fun _ _=>false) (fun _ _=>false) (fun _ _ _=>false) (fun _=>false) (fun _=>false) (fun a n c=>zQ a (z n c) (fun b off=>k b off n c)) (fun _=>false) (fun _=>false) (fun _ _ _=>false) false (fun _ _=>false) false (fun _=>false) (fun _=>false)
def uD(v:Value)(k:List Value->Bool):Bool:=
 @Value.casesOn (fun _=>Bool) v (fun _=>false) (fun _ _=>false) (fun _ _=>false) (fun _ _ _=>false) (fun _=>false) (fun _=>false) (fun _ _ _=>false) (fun _=>false) (fun _=>false) (fun _ _ _=>false) false (fun _ _=>false) false (fun a=>@Array.rec Value (fun _=>Bool) (fun l=>k l) a) (fun _=>false)
def pR(v:Value)(k:List Value->Bool):Bool:=
 @Value.casesOn (fun _=>Bool) v (fun _=>false) (fun _ _=>false) (fun _ _=>false) (fun _ _ _=>false) (fun _=>false) (fun _=>false) (fun _ _ _=>false) (fun _=>false) (fun _=>false) (fun _ _ _=>false) false (fun _ _=>false) false (fun _=>false) (fun a=>@Array.rec Value (fun _=>Bool) (fun l=>k l) a)
def zT(v:Value)(k:Nat->List Value->List Value->Bool)(y:Nat->List Value->Bool):Bool:=
 @Value.casesOn (fun _=>Bool) v (fun _=>false) (fun _ _=>false) (fun _ _=>false) (fun _ _ _=>false) (fun _=>false) (fun _=>false) (fun _ _ _=>false) (fun _=>false) (fun _=>false)
  (fun f p c=>@Array.rec Value (fun _=>Bool) (fun p=>@Array.rec Value (fun _=>Bool) (fun c=>
   @Fn.casesOn (fun _=>Bool) f (fun g=>k g p c) (fun _=>false) (fun _ _=>false) (fun _ _ _ _=>false) (fun l=>y l p)) c) p) false (fun _ _=>false) false (fun _=>false) (fun _=>false)
def uE(v:Value)(k:Nat->Bool):Bool:=tA v (fun _ n=>@Int.rec (fun _=>Bool) (fun m=>k m) (fun _=>false) n) false
def pS{α:Type}(x:Option α)(k:α->Bool):Bool:=@Option.rec α (fun _=>Bool) false k x
def jY(s:St)(o:eW)(k:St->Bool):Bool:=@St.rec (fun _=>Bool) (fun h n=>qV h n o (fun h=>dG (Nat.succ n) (fun m=>k ⟨h,m⟩))) s
def C1(s:St)(k:Nat->Bool):Bool:=@St.rec (fun _=>Bool) (fun _ n=>k n) s
def dI(s:St)(b:Nat)(o:eW)(k:St->Bool):Bool:=@St.rec (fun _=>Bool) (fun h n=>nN h b o (fun h=>k ⟨h,n⟩)) s
def qW(s:St)(b:Nat)(k:eW->Bool):Bool:=@St.rec (fun _=>Bool) (fun h _=>lM h b k) s
def Fi(v:Value)(k:Nat->Bool):Bool:=
 @Value.casesOn (fun _=>Bool) v (fun _=>false) (fun _ _=>false) (fun _ _=>false) (fun _ _ _=>false) (fun _=>false) (fun _=>false) (fun _ _ _=>false) (fun r=>@Option.rec Nat (fun _=>Bool) false (fun b=>k b) r) (fun _=>false) (fun _ _ _=>false) false (fun _ _=>false) false (fun _=>false) (fun _=>false)
def lN(n:Int)(es:List (Int×Value)):Option Value:=
 @List.rec (Int×Value) (fun _=>Option Value) none (fun e _ ih=>@Bool.rec (fun _=>Option Value) ih (some e.2) (intEq e.1 n)) es
def Mw(a b:List (Int×Value)):List (Int×Value):=@List.rec (Int×Value) (fun _=>List (Int×Value)) b (fun v _ ih=>v::ih) a
def xA(ok:Bool)(v:Value)(b:Bool):Value:=@Bool.rec (fun _=>Value) v (.tuple #[v,.bool b]) ok
def C4(s:St)(b:Nat)(k:Nat->BT Value->Nat->Bool->Bool):Bool:=
 qW s b (fun o=>@eW.casesOn (fun _=>Bool) o false k (fun _ _ _ _ _ _ _=>false) (fun _=>false) (fun _=>false) (fun _=>false))
def tH(s:St)(b:Nat)(kc:BT Value->Bool)(kr:(Nat->Option Value)->Bool):Bool:=
 qW s b (fun o=>@eW.casesOn (fun _=>Bool) o false (fun _ c _ _=>kc c) (fun _ _ _ _ _ _ _=>false) (fun _=>false) (fun _=>false) kr)
def fY(g:Nat->Option Value)(i n:Nat)(k:List Value->Bool):Bool:=
 @Nat.rec (fun _=>Nat->(List Value->Bool)->Bool) (fun _ k=>k []) (fun _ ih i k=>pS (g i) (fun v=>ih (Nat.succ i) (fun l=>k (v::l)))) n i k
def pT(g:Nat->Option Value)(off:Nat)(n:Option Nat)(k:Value->Bool):Bool:=
 @Option.rec Nat (fun _=>Bool) (pS (g off) k) (fun n=>fY g off n (fun l=>k (.agg ⟨l⟩))) n
def Il(s:St)(b:Nat)(k:List (Int×Value)->Bool):Bool:=
 qW s b (fun o=>@eW.casesOn (fun _=>Bool) o false (fun _ _ _ _=>false) (fun _ _ _ _ _ _ _=>false) (fun _=>false) k (fun _=>false))
def Im(s:St)(m x v:Value)(k:St->Bool):Bool:=
 Fi m (fun b=>tA x (fun i n=>ifB (kindEq i .i64) (Il s b (fun es=>@Option.rec Value (fun _=>Bool) (dI s b (.imap (Mw es [(n,v)])) k) (fun _=>false) (lN n es))) false) false)
def Fj(s:St)(z:Value)(ok:Bool)(m x:Value)(k:Value->St->Bool):Bool:=
 Fi m (fun b=>tA x (fun i n=>ifB (kindEq i .i64) (Il s b (fun es=>@Option.rec Value (fun _=>Bool) (k (xA ok z false) s) (fun v=>k (xA ok v true) s) (lN n es))) false) false)
def Br(s:St)(b:Nat)(k:LoopState->iH->BT Value->List Nat->CC->CC->Nat->Bool):Bool:=
 qW s b (fun o=>@eW.casesOn (fun _=>Bool) o false (fun _ _ _ _=>false) k (fun _=>false) (fun _=>false) (fun _=>false))
def Em(c:BT Value)(off:Nat)(n:Option Nat)(k:Value->Bool):Bool:=
 @Option.rec Nat (fun _=>Bool) (lM c off k) (fun n=>mJ c off n (fun l=>k (.agg ⟨l⟩))) n
def En(s:St)(n:Option Nat)(v:Value)(k:Value->Bool):Bool:=zS v (fun b off=>tH s b (fun c=>Em c off n k) (fun g=>pT g off n k))
def eZ(l:List Value):Bool:=@List.rec Value (fun _=>Bool) true (fun v _ ih=>ifB (oneCell v) ih false) l
def Mx(s:St)(n:Option Nat)(v a:Value)(k:St->Bool):Bool:=
 zS a (fun b off=>C4 s b (fun m c e op=>
  @Option.rec Nat (fun _=>Bool)
   (ifB (oneCell v) (ifB (Nat.blt off m) (nN c off v (fun c=>dI s b (.cells m c e op) k)) false) false)
   (fun n=>uD v (fun l=>ifB (Nat.beq l.length n) (ifB (Nat.ble (Nat.add off n) m) (ifB (eZ l) (fM c off l (fun c=>dI s b (.cells m c e op) k)) false) false) false)) n))
def Fk(a:Option Addr)(k:Option Addr->Bool):Bool:=
 @Option.rec Addr (fun _=>Bool) (k none) (fun a=>@Addr.rec (fun _=>Bool) (fun b off sp=>dG b (fun b=>dG off (fun off=>k (some ⟨b,off,sp⟩)))) a) a
def gY(v:Value)(k:Value->Bool):Bool:=
 @Value.casesOn (fun _=>Bool) v (fun b=>Ik b (fun b=>k (.bool b))) (fun i n=>El n (fun n=>k (.int i n))) (fun a b=>k (.float a b)) (fun a b c=>k (.complex a b c)) (fun s=>k (.string s))
  (fun a=>Fk a (fun a=>k (.pointer a))) (fun a n c=>Fk a (fun a=>dG n (fun n=>dG c (fun c=>k (.slice a n c))))) (fun m=>k (.map m)) (fun m=>k (.chan m)) (fun f p c=>k (.func f p c)) (k .nilFunc) (fun t v=>k (.iface t v)) (k .nilIface) (fun a=>k (.agg a)) (fun a=>k (.tuple a))
def In(P:Program)(b:BinOp)(t d:Nat)(x y:Value)(k:Value->Bool):Bool:=pS (evBin P b t d x y) (fun v=>gY v k)
def iW(s:St)(b:Nat):Option (Nat×Nat×Bool):=
 match s.h.get b with
 |some (.cells n _ e op)=>some (n,e,op)
 |_=>none
def nO(s:St)(e size:Nat)(x:Value)(lo hi mx:Option Value)(k:Value->Bool):Bool:=pS (evSlc (iW s) e size x lo hi mx) (fun v=>gY v k)
def mK(l:List Value):Nat:=@List.rec Value (fun _=>Nat) 0 (fun _ _ ih=>Nat.succ ih) l
def Fm(s:St)(size:Nat)(z:List Value)(ints:Bool)(y:Value)(k:Nat->List Value->Bool):Bool:=
 @Bool.rec (fun _=>Bool)
  (fX y (fun n _=>ifB (Nat.beq n 0) (k 0 []) false) (fun b off n _=>ifB (Nat.beq n 0) (k 0 []) (tH s b (fun c=>mJ c off (Nat.mul n size) (fun l=>k n l)) (fun g=>fY g off (Nat.mul n size) (fun l=>k n l)))))
  (tA y (fun i _=>ifB (kindEq i .i64) (uE y (fun n=>ifB (Nat.ble n 1048576) (k n (repeatN z n)) false)) false) false) ints
def tB(s:St)(e size len n:Nat)(more:List Value)(old:List Value)(k:Value->St->Bool):Bool:=
 eY .leaf 0 old (fun c=>eY c (Nat.mul len size) more (fun c=>C1 s (fun g=>dG (Nat.mul (Nat.add len n) size) (fun m=>jY s (.cells m c e true) (fun s=>dG (Nat.add len n) (fun l=>k (.slice (some ⟨g,0,none⟩) l OPEN) s))))))
def eR(s:St)(e size b off len cap n:Nat)(more:List Value)(k:Value->St->Bool):Bool:=
 qW s b (fun o=>@eW.casesOn (fun _=>Bool) o false
  (fun m c e' op=>ifB (Nat.beq e e')
   (ifB (Nat.ble OPEN cap)
    (ifB op (ifB (Nat.beq off 0) (ifB (Nat.beq cap OPEN)
     (ifB (Nat.ble (Nat.mul (Nat.add len n) size) m)
      (fM c (Nat.mul len size) more (fun c=>dI s b (.cells m c e true) (fun s=>dG (Nat.add len n) (fun l=>k (.slice (some ⟨b,0,none⟩) l OPEN) s))))
      (ifB (Nat.beq (Nat.mul len size) m)
       (eY c (Nat.mul len size) more (fun c=>C1 s (fun g=>dI s b .dead (fun s=>dG (Nat.mul (Nat.add len n) size) (fun m=>jY s (.cells m c e true) (fun s=>dG (Nat.add len n) (fun l=>k (.slice (some ⟨g,0,none⟩) l OPEN) s))))))) false)) false) false) false)
    (ifB (Nat.ble (Nat.add len n) cap)
     (ifB (Nat.ble (Nat.add off (Nat.mul (Nat.add len n) size)) m)
      (fM c (Nat.add off (Nat.mul len size)) more (fun c=>dI s b (.cells m c e op) (fun s=>dG (Nat.add len n) (fun l=>k (.slice (some ⟨b,off,none⟩) l cap) s)))) false)
     (mJ c off (Nat.mul len size) (fun old=>tB s e size len n more old k)))) false)
  (fun _ _ _ _ _ _ _=>false) (fun _=>false) (fun _=>false)
  (fun g=>ifB (Nat.ble OPEN cap) false (ifB (Nat.ble (Nat.add len n) cap) false (fY g off (Nat.mul len size) (fun old=>tB s e size len n more old k)))))
def kX(s:St)(e size bytes:Nat)(z:List Value)(ints:Bool)(x y:Value)(k:Value->St->Bool):Bool:=
 Fm s size z ints y (fun n more=>
  fX x (fun len cap=>ifB (Nat.beq len 0) (ifB (Nat.beq cap 0)
   (ifB (Nat.beq n 0) (k (.slice none 0 0) s)
    (ifB (Nat.ble n 1048576) (ifB (Nat.ble (Nat.mul bytes n) 1073741824) (eY .leaf 0 more (fun c=>C1 s (fun g=>dG (Nat.mul n size) (fun m=>jY s (.cells m c e true) (k (.slice (some ⟨g,0,none⟩) n OPEN)))))) false) false)) false) false)
   (fun b off len cap=>ifB (Nat.beq cap 0)
    (ifB (Nat.beq len 0) (ifB (Nat.beq n 0) (k (.slice (some ⟨b,off,none⟩) 0 0) s)
     (ifB (Nat.ble n 1048576) (ifB (Nat.ble (Nat.mul bytes n) 1073741824) (eY .leaf 0 more (fun c=>C1 s (fun g=>dG (Nat.mul n size) (fun m=>jY s (.cells m c e true) (k (.slice (some ⟨g,0,none⟩) n OPEN)))))) false) false)) false)
    (ifB (Nat.ble (Nat.add len n) 1048576) (ifB (Nat.ble (Nat.mul bytes (Nat.add len n)) 1073741824) (eR s e size b off len cap n more k) false) false)))
def vK(s:St)(k:Value->St->Bool)(v:Value):Bool:=k v s
def oK(s:St)(k:Value->St->Bool)(v:Option Value):Bool:=pS v (fun v=>gY v (fun v=>k v s))
def ptr(b:Nat):Value:=.pointer (some ⟨b,0,none⟩)
def R9(v:Value)(off:Nat)(k:Value->Bool):Bool:=zS v (fun b o=>dG (Nat.add o off) (fun o=>k (.pointer (some ⟨b,o,none⟩))))
def Sa(v i:Value)(size:Nat)(k:Value->Bool):Bool:=
 fX v (fun _ _=>false) (fun b o n _=>uE i (fun i=>ifB (Nat.blt i n) (dG (Nat.add o (Nat.mul i size)) (fun o=>k (.pointer (some ⟨b,o,none⟩)))) false))
def Eo(v i:Value)(len size:Nat)(k:Value->Bool):Bool:=
 zS v (fun b o=>uE i (fun i=>ifB (Nat.blt i len) (dG (Nat.add o (Nat.mul i size)) (fun o=>k (.pointer (some ⟨b,o,none⟩)))) false))
def B6(l:List Value)(i:Nat)(k:Value->Bool):Bool:=
 @List.rec Value (fun _=>Nat->Bool) (fun _=>false) (fun v _ ih n=>@Nat.rec (fun _=>Bool) (k v) (fun m _=>ih m) n) l i
def C5(l:List Value)(i n:Nat)(k:List Value->Bool):Bool:=
 @List.rec Value (fun _=>Nat->Nat->(List Value->Bool)->Bool)
  (fun _ n k=>@Nat.rec (fun _=>Bool) (k []) (fun _ _=>false) n)
  (fun v _ ih i n k=>@Nat.rec (fun _=>Bool) (@Nat.rec (fun _=>Bool) (k []) (fun m _=>ih 0 m (fun l=>k (v::l))) n) (fun j _=>ih j n k) i) l i n k
def Bs(l:List Value)(off:Nat)(n:Option Nat)(k:Value->Bool):Bool:=
 @Option.rec Nat (fun _=>Bool) (B6 l off k) (fun n=>C5 l off n (fun l=>k (.agg ⟨l⟩))) n
def Sm(v i:Value)(len size:Nat)(n:Option Nat)(k:Value->Bool):Bool:=
 uD v (fun l=>uE i (fun i=>ifB (Nat.blt i len) (Bs l (Nat.mul i size) n k) false))
def Fo(v:Value)(k:Value->Bool):Bool:=pS (evNilc v) (fun _=>k v)
def uF(c a b:Value)(k:Value->Bool):Bool:=pP c (fun t=>@Bool.rec (fun _=>Bool) (k b) (k a) t)
def HB(s:St)(e:Nat)(v:Value)(k:Value->St->Bool):Bool:=
 C1 s (fun g=>gY v (fun v=>@Array.rec Value (fun _=>Bool) (fun l=>ifB (eZ l) (dG (mK l) (fun m=>eY .leaf 0 l (fun c=>jY s (.cells m c e false) (k (ptr g))))) false) v.cells))
def nS(c:BT Value)(ps:List (Nat×Nat×Value))(k:BT Value->Bool):Bool:=
 @List.rec (Nat×Nat×Value) (fun _=>BT Value->Bool) (fun c=>k c)
  (fun p _ ih c=>@Prod.rec Nat (Nat×Value) (fun _=>Bool) (fun o q=>@Prod.rec Nat Value (fun _=>Bool) (fun n v=>@Array.rec Value (fun _=>Bool) (fun l=>ifB (Nat.beq (mK l) n) (ifB (eZ l) (fM c o l ih) false) false) v.cells) q) p) ps c
def rD(z:List Value)(ps:List (Nat×Nat×Value))(k:Value->Bool):Bool:=
 eY .leaf 0 z (fun c=>nS c ps (fun c=>mJ c 0 (mK z) (fun l=>k (.agg ⟨l⟩))))
def C6(s:St)(e len n:Nat)(z:List Value)(ps:List (Nat×Nat×Value))(k:Value->St->Bool):Bool:=
 eY .leaf 0 z (fun c=>nS c ps (fun c=>C1 s (fun g=>jY s (.cells n c e false) (k (.slice (some ⟨g,0,none⟩) len len)))))
def C7(s:St)(e size bytes:Nat)(z:List Value)(l c:Value)(k:Value->St->Bool):Bool:=
 tA l (fun i _=>tA c (fun j _=>ifB (kindEq i .i64) (ifB (kindEq j .i64) (uE l (fun l=>uE c (fun c=>
  ifB (Nat.ble l c) (ifB (Nat.ble c 1048576) (ifB (Nat.ble (Nat.mul bytes c) 1073741824)
   (eY .leaf 0 (repeatN z c) (fun t=>C1 s (fun g=>dG (Nat.mul c size) (fun m=>jY s (.cells m t e false) (k (.slice (some ⟨g,0,none⟩) l c)))))) false) false) false))) false) false) false) false
def TW(a b:Nat)(k:Nat->Bool):Bool:=ifB (Nat.ble a b) (k a) (k b)
def Fp(f:(List Value->Bool)->Bool)(h:List Value->Bool):Bool:=f h
def Fq(s:St)(size:Nat)(x y:Value)(k:Value->St->Bool):Bool:=
 fX x (fun n _=>ifB (Nat.beq n 0) (fX y (fun _ _=>k (.int .i64 (.ofNat 0)) s) (fun _ _ _ _=>k (.int .i64 (.ofNat 0)) s)) false)
  (fun b off len _=>fX y (fun n _=>ifB (Nat.beq n 0) (k (.int .i64 (.ofNat 0)) s) false)
   (fun b' off' n _=>TW n len (fun j=>ifB (Nat.beq j 0) (k (.int .i64 (.ofNat 0)) s) (C4 s b (fun m c e op=>Fp (fun h=>tH s b' (fun c'=>mJ c' off' (Nat.mul j size) h) (fun g=>fY g off' (Nat.mul j size) h)) (fun l=>
    ifB (Nat.ble (Nat.add off (Nat.mul j size)) m) (fM c off l (fun c=>dI s b (.cells m c e op) (k (.int .i64 (.ofNat j))))) false))))))
def B7(s:St)(size:Nat)(z:List Value)(x:Value)(k:Value->St->Bool):Bool:=
 fX x (fun _ _=>k (.tuple #[]) s)
  (fun b off n _=>ifB (Nat.beq n 0) (k (.tuple #[]) s)
   (C4 s b (fun m c e op=>ifB (Nat.ble (Nat.add off (Nat.mul n size)) m) (fM c off (repeatN z n) (fun c=>dI s b (.cells m c e op) (k (.tuple #[])))) false)))
def vW(s:St)(n:Option Nat)(a d:Value)(k:Value->St->Bool):Bool:=En s n a (fun v=>ifB (eqV v d) (k undef s) false)
def V6(P:Program)(T:BT Value)(s:St)(c:COp)(k:Value->St->Bool):Bool:=
 @COp.casesOn (fun _=>Bool) c
  (fun x=>bO T x (vK s k))
  (fun c a b=>bO T c (fun c=>bO T a (fun a=>bO T b (fun b=>uF c a b (vK s k)))))
  (fun e n z=>C1 s (fun g=>jY s (.cells n z e false) (k (ptr g))))
  (fun e x=>bO T x (fun v=>HB s e v k))
  (fun z ps=>pO T ps (fun ps=>rD z ps (vK s k)))
  (fun e len n z ps=>pO T ps (fun ps=>C6 s e len n z ps k))
  (fun a n=>bO T a (fun a=>En s n a (vK s k)))
  (fun a x n=>bO T a (fun a=>bO T x (fun x=>Mx s n x a (k undef))))
  (fun x=>bO T x (fun v=>Fo v (vK s k)))
  (fun b t d x y=>bO T x (fun x=>bO T y (fun y=>In P b t d x y (vK s k))))
  (fun u x=>bO T x (fun x=>oK s k (ev1 P (Op.unary u) x)))
  (fun a b x=>bO T x (fun x=>oK s k (ev1 P (convert a b) x)))
  (fun t x=>bO T x (fun x=>oK s k (ev1 P (Instr.makeInterface t) x)))
  (fun x a b o=>bO T x (fun x=>oK s k (ev1 P (fun v=>Instr.typeAssert v a b o) x)))
  (fun b ts t l=>iZ T l (fun l=>oK s k (evBi P b ts t l)))
  (fun t x i=>bO T x (fun x=>bO T i (fun i=>oK s k (evIxs P t x i))))
  (fun f p c=>iZ T p (fun p=>iZ T c (fun c=>k (.func (.func f) ⟨p⟩ ⟨c⟩) s)))
  (fun e size bytes z l c=>bO T l (fun l=>bO T c (fun c=>C7 s e size bytes z l c k)))
  (fun e size x lo hi mx=>bO T x (fun x=>eU T lo (fun lo=>eU T hi (fun hi=>eU T mx (fun mx=>nO s e size x lo hi mx (vK s k))))))
  (fun t x lo hi mx=>bO T x (fun x=>eU T lo (fun lo=>eU T hi (fun hi=>eU T mx (fun mx=>oK s k (evSlcn P t x lo hi mx))))))
  (fun x off=>bO T x (fun x=>R9 x off (vK s k)))
  (fun x off n=>bO T x (fun x=>uD x (fun l=>Bs l off n (vK s k))))
  (fun x i size=>bO T x (fun x=>bO T i (fun i=>Sa x i size (vK s k))))
  (fun x i len size=>bO T x (fun x=>bO T i (fun i=>Eo x i len size (vK s k))))
  (fun x i len size n=>bO T x (fun x=>bO T i (fun i=>Sm x i len size n (vK s k))))
  (fun x i=>bO T x (fun x=>pR x (fun l=>B6 l i (vK s k))))
  (fun x=>bO T x (fun x=>fX x (fun n _=>k (.int .i64 (.ofNat n)) s) (fun _ _ n _=>k (.int .i64 (.ofNat n)) s)))
  (fun x=>bO T x (fun x=>oK s k (evCap x)))
  (fun e size bytes z ints x y=>bO T x (fun x=>bO T y (fun y=>kX s e size bytes z ints x y k)))
  (fun size x y=>bO T x (fun x=>bO T y (fun y=>Fq s size x y k)))
  (fun size z x=>bO T x (fun x=>B7 s size z x k))
  (fun a n d=>bO T a (fun a=>bO T (.t d) (fun d=>vW s n a d k)))
  (fun e size x lo hi mx d=>bO T x (fun x=>eU T lo (fun lo=>eU T hi (fun hi=>eU T mx (fun mx=>bO T (.t d) (fun d=>nO s e size x lo hi mx (fun v=>ifB (eqV v d) (k undef s) false)))))))
  (C1 s (fun g=>jY s (.imap []) (k (.map (some g)))))
  (fun m x v=>bO T m (fun m=>bO T x (fun x=>bO T v (fun v=>Im s m x v (k undef)))))
  (fun m x z ok=>bO T m (fun m=>bO T x (fun x=>Fj s z ok m x k)))
  (fun _ _=>false)
  false
structure OK where
 code:Option Nat->CC->BT Value->List Nat->St->(iH->BT Value->List Nat->St->Bool)->Bool
 call:FuncId->List Value->St->(Value->St->Bool)->Bool
def tI(T:BT Value)(ps:List Nat)(l:List Value)(k:BT Value->Bool):Bool:=
 @List.rec Nat (fun _=>BT Value->List Value->Bool) (fun T l=>@List.rec Value (fun _=>Bool) (k T) (fun _ _ _=>false) l)
  (fun t _ ih T l=>@List.rec Value (fun _=>Bool) false (fun v l _=>nN T t v (fun T=>ih T l)) l) ps T l
def Be(a b:List Value):List Value:=@List.rec Value (fun _=>List Value) b (fun v _ ih=>v::ih) a
def jZ(x:iH)(n r:Bool)(e g:Nat->Bool):Bool:=@iH.casesOn (fun _=>Bool) x n r e g
def My(l:Nat)(x:iH)(s:St)(k:Value->St->Bool):Bool:=
 Br s l (fun st _ T ps a b q=>@LoopState.casesOn (fun _=>Bool) st false
  (jZ x (dI s l (.loop .ready .normal T ps a b q) (k (.bool true))) (dI s l (.loop .done x T ps a b q) (k (.bool false))) (fun _=>dI s l (.loop .done x T ps a b q) (k (.bool false))) (fun _=>dI s l (.loop .done x T ps a b q) (k (.bool false)))) false false)
def Fs(O:OK)(l:Nat)(body:CC)(T:BT Value)(D:List Nat)(s:St)(k:Value->St->Bool):Bool:=
 Br s l (fun st p T' ps a b q=>@LoopState.casesOn (fun _=>Bool) st
  (dI s l (.loop .busy p T' ps a b q) (fun s=>O.code (some l) body T D s (fun x _ _ s=>My l x s k))) false false false)
def Ep(O:OK)(l:Nat)(args:List Value)(s:St)(k:Value->St->Bool):Bool:=
 Br s l (fun _ _ T ps a b _=>tI T ps args (fun T=>O.code (some l) a T [] s (fun x T D s=>jZ x (Fs O l b T D s k) false (fun _=>false) (fun _=>false))))
def rE(O:OK)(s:St)(args:List Value)(f:Value)(k:Value->St->Bool):Bool:=
 zT f (fun g p c=>O.call g (Be p (Be args c)) s k) (fun l p=>Ep O l (Be p args) s k)
def iI(P:Program)(O:OK)(T:BT Value)(s:St)(c:COp)(k:Value->St->Bool):Bool:=
 @COp.casesOn (fun _=>Bool) c
  (fun _=>V6 P T s c k) (fun _ _ _=>V6 P T s c k) (fun _ _ _=>V6 P T s c k) (fun _ _=>V6 P T s c k) (fun _ _=>V6 P T s c k) (fun _ _ _ _ _=>V6 P T s c k)
  (fun _ _=>V6 P T s c k) (fun _ _ _=>V6 P T s c k) (fun _=>V6 P T s c k) (fun _ _ _ _ _=>V6 P T s c k) (fun _ _=>V6 P T s c k) (fun _ _ _=>V6 P T s c k) (fun _ _=>V6 P T s c k)
  (fun _ _ _ _=>V6 P T s c k) (fun _ _ _ _=>V6 P T s c k) (fun _ _ _=>V6 P T s c k) (fun _ _ _=>V6 P T s c k) (fun _ _ _ _ _ _=>V6 P T s c k) (fun _ _ _ _ _ _=>V6 P T s c k)
  (fun _ _ _ _ _=>V6 P T s c k) (fun _ _=>V6 P T s c k) (fun _ _ _=>V6 P T s c k) (fun _ _ _=>V6 P T s c k) (fun _ _ _ _=>V6 P T s c k) (fun _ _ _ _ _=>V6 P T s c k) (fun _ _=>V6 P T s c k)
  (fun _=>V6 P T s c k) (fun _=>V6 P T s c k) (fun _ _ _ _ _ _ _=>V6 P T s c k) (fun _ _ _=>V6 P T s c k) (fun _ _ _=>V6 P T s c k) (fun _ _ _=>V6 P T s c k) (fun _ _ _ _ _ _ _=>V6 P T s c k)
  (V6 P T s c k) (fun _ _ _=>V6 P T s c k) (fun _ _ _ _=>V6 P T s c k)
  (fun f l=>bO T f (fun f=>iZ T l (fun l=>rE O s l f k))) false
def kA(T:BT Value)(d:Option Nat)(v:Value)(k:BT Value->Bool):Bool:=@Option.rec Nat (fun _=>Bool) (k T) (fun d=>nN T d v k) d
def kI(T:BT Value)(g:Option (Nat×Bool))(y:Bool)(n:Bool):Bool:=
 @Option.rec (Nat×Bool) (fun _=>Bool) y (fun p=>@Prod.rec Nat Bool (fun _=>Bool) (fun t w=>lM T t (fun v=>
  pQ v (fun b=>@Bool.rec (fun _=>Bool) (@Bool.rec (fun _=>Bool) y n w) (@Bool.rec (fun _=>Bool) n y w) b) n)) p) g
def zU(P:Program)(O:OK)(x:Item)(T:BT Value)(s:St)(k:BT Value->St->Bool):Bool:=
 @Item.rec (fun _=>Bool) (fun g d op=>kI T g (iI P O T s op (fun v s=>kA T d v (fun T=>k T s))) (kA T d undef (fun T=>k T s))) x
def fH(P:Program)(O:OK)(l:List Item)(T:BT Value)(s:St)(k:BT Value->St->Bool):Bool:=
 @List.rec Item (fun _=>BT Value->St->Bool) (fun T s=>k T s) (fun x _ ih T s=>zU P O x T s ih) l T s
def sC(l:Nat)(T:BT Value)(D:List Nat)(s:St)(k:iH->BT Value->List Nat->St->Bool):Bool:=
 Br s l (fun st x T' ps a b q=>@LoopState.casesOn (fun _=>Bool) st
  (dI s l (.loop .exhausted x T' ps a b q) (k x T D)) false (dI s l (.loop .exhausted x T' ps a b q) (k x T D)) (dI s l (.loop .exhausted x T' ps a b q) (k x T D)))
def lO(O:OK)(f:Value)(ps:List Nat)(a b:CC)(T:BT Value)(D:List Nat)(q:Nat)(s:St)(k:iH->BT Value->List Nat->St->Bool):Bool:=
 C1 s (fun l=>zT f (fun g p c=>jY s (.loop .ready .normal T ps a b q) (fun s=>O.call g (Be p (.func (.yield l) #[] #[]::c)) s (fun _ s=>sC l T D s k))) (fun _ _=>false))
def B8(O:OK)(r:Option Nat)(f:Value)(ps:List Nat)(a b:CC)(T:BT Value)(D:List Nat)(s:St)(k:iH->BT Value->List Nat->St->Bool):Bool:=
 @Option.rec Nat (fun _=>Bool) (C1 s (fun q=>jY s (.deferred true) (fun s=>lO O f ps a b T (q::D) q s k)))
  (fun l=>Br s l (fun _ _ _ _ _ _ q=>lO O f ps a b T D q s k)) r
def xB(P:Program)(O:OK)(r:Option Nat)(c:CC)(T:BT Value)(D:List Nat)(s:St)(k:iH->BT Value->List Nat->St->Bool):Bool:=
 @CC.casesOn (fun _=>Bool) c
  (k .normal T D s) (k .ret T D s) (fun id=>k (.exit id) T D s) (fun l=>k (.goto l) T D s)
  (fun a b=>O.code r a T D s (fun x T D s=>jZ x (O.code r b T D s k) (k x T D s) (fun _=>k x T D s) (fun _=>k x T D s)))
  (fun x a b=>bO T x (fun v=>pP v (fun t=>@Bool.rec (fun _=>Bool) (O.code r b T D s k) (O.code r a T D s k) t)))
  (fun id b=>O.code r b T D s (fun x T D s=>jZ x (k x T D s) (k x T D s) (fun j=>ifB (Nat.beq j id) (k .normal T D s) (k x T D s)) (fun _=>k x T D s)))
  (fun b=>O.code r b T D s (fun x T D s=>jZ x (O.code r (.loop b) T D s k) (k x T D s) (fun _=>k x T D s) (fun _=>k x T D s)))
  (fun b=>O.code r b T D s (fun x T D s=>jZ x (k x T D s) (k x T D s) (fun _=>k x T D s) (fun _=>false)))
  (fun l=>fH P O l T s (fun T s=>k .normal T D s))
  (fun f ps a b=>bO T f (fun f=>B8 O r f ps a b T D s k))
  false
def uG(D:List Nat)(s:St)(k:St->Bool):Bool:=
 @List.rec Nat (fun _=>St->Bool) (fun s=>k s) (fun q _ ih s=>qW s q (fun o=>@eW.casesOn (fun _=>Bool) o false (fun _ _ _ _=>false) (fun _ _ _ _ _ _ _=>false) (fun d=>@Bool.rec (fun _=>Bool) false (dI s q (.deferred false) ih) d) (fun _=>false) (fun _=>false))) D s
def xX(s:St)(T:BT Value)(l:List CRes)(k:List Value->Bool):Bool:=
 @List.rec CRes (fun _=>(List Value->Bool)->Bool) (fun k=>k [])
  (fun r _ ih k=>@CRes.casesOn (fun _=>Bool) r (fun t=>lM T t (fun v=>ih (fun l=>k (v::l)))) (fun a n=>lM T a (fun a=>En s n a (fun v=>ih (fun l=>k (v::l)))))) l k
def B9(l:List Value)(k:Value->Bool):Bool:=
 @List.rec Value (fun _=>Bool) (k (.tuple ⟨l⟩)) (fun v l' _=>@List.rec Value (fun _=>Bool) (k v) (fun _ _ _=>k (.tuple ⟨l⟩)) l') l
def gR(res:List CRes)(T:BT Value)(D:List Nat)(s:St)(k:Value->St->Bool):Bool:=
 uG D s (fun s=>xX s T res (fun l=>B9 l (fun v=>k v s)))
def xC(C:Nat->(CF->Bool)->Bool)(O:OK)(f:FuncId)(args:List Value)(s:St)(k:Value->St->Bool):Bool:=
 C f (fun c=>@CF.rec (fun _=>Bool) (fun body n res=>ifB (Nat.ble (mK args) n)
  (fM (full n) 0 args (fun T=>O.code none body T [] s (fun x T D s=>jZ x (gR res T D s k) (gR res T D s k) (fun _=>false) (fun _=>false)))) false) c)
def Bt(P:Program)(C:Nat->(CF->Bool)->Bool)(n:Nat):OK:=
 @Nat.rec (fun _=>OK) { code:=fun _ _ _ _ _ _=>false,call:=fun _ _ _ _=>false } (fun _ ih=>{ code:=xB P ih,call:=xC C ih }) n
def bZ(t:BT (Option CF))(f:Nat)(k:CF->Bool):Bool:=lM t f (fun o=>@Option.rec CF (fun _=>Bool) false k o)
def Io(v:Value):Bool:=pP v (fun b=>b)
def So(P:Program)(t:BT (Option CF))(n:Nat)(f:FuncId):Bool:=(Bt P (bZ t) n).call f [] ⟨.leaf,0⟩ (fun v _=>Io v)
end
end Go.Proofs.YtjkdkpckjgaplaaGreat.Ev
namespace Go.Proofs.YtjkdkpckjgaplaaGreat.Ev
open Go
variable{α:Type}{T:BT Value}{z:Bool}{v:Value}{k:List Value->Bool}{s:St}{b:Nat}
theorem Z5{b x:Bool}(h:ifB b x false=true):b=true/\x=true:=by cases b <;> simp_all [ifB]
theorem mX{b x y:Bool}(h:ifB b x y=true):(b=true/\x=true)∨(b=false/\y=true):=by cases b <;> simp_all [ifB]
@[simp] theorem bG (n : Nat) (k : Nat -> Bool) : dG n k = k n := by cases n <;> rfl
@[simp] theorem Sb (n : Int) (k : Int -> Bool) : El n k = k n := by cases n <;> simp [El]
@[simp] theorem Sc (b : Bool) (k : Bool -> Bool) : Ik b k = k b := by cases b <;> rfl
@[simp] theorem Sp (a : Option Addr) (k : Option Addr -> Bool) : Fk a k = k a := by
 cases a with
 |none=>rfl
 |some a=>obtain⟨b,o,s⟩:=a;simp[Fk]
@[simp] theorem eC (v : Value) (k : Value -> Bool) : gY v k = k v := by cases v <;> simp [gY]
theorem mY{x:Option α}{k:α->Bool}(h:pS x k=true):∃a,x=some a/\k a=true:=by
 cases x with
 |none=>simp[pS] at h
 |some a=>exact⟨a,rfl,h⟩
theorem C8(n:Nat):Nat.beq n 0=decide (n=0):=by cases n <;> rfl
theorem par(n:Nat):Nat.beq (Nat.mod n 2) 1=decide (n % 2=1):=by
 show Nat.beq (n % 2) 1=_;rcases Nat.mod_two_eq_zero_or_one n with h|h <;> rw[h] <;> rfl
theorem kJ{k:α->Bool}:∀{t:BT α} {n:Nat},lM t n k=true->∃a,t.get n=some a/\k a=true:=by
 intro t
 induction t with
 |leaf=>intro n h;simp[lM] at h
 |node a l r il ir=>
  intro n h;have h':@Bool.rec (fun _=>Bool) (@Bool.rec (fun _=>Bool) (lM r (Nat.pred (Nat.div n 2)) k) (lM l (Nat.div n 2) k) (Nat.beq (Nat.mod n 2) 1)) (k a) (Nat.beq n 0)=true:=h;rw[C8,par] at h';by_cases h0:n=0
  ·subst h0
   exact⟨a,by simp[BT.get],by simpa using h'⟩
  ·rw[decide_eq_false h0] at h'
   by_cases h1:n % 2=1
   ·rw[decide_eq_true h1] at h'
    obtain⟨b,hb,hk⟩:=il h';exact⟨b,by rw[BT.get,if_neg h0,if_pos h1];exact hb,hk⟩
   ·rw[decide_eq_false h1] at h'
    obtain⟨b,hb,hk⟩:=ir h';exact⟨b,by rw[BT.get,if_neg h0,if_neg h1];exact hb,hk⟩
theorem oQ{v:α}:∀{t:BT α} {n:Nat} {k:BT α->Bool},nN t n v k=true->∃t',k t'=true/\(t.get n).isSome=true/\∀j,t'.get j=if j=n then some v else t.get j:=by
 intro t
 induction t with
 |leaf=>intro n k h;simp[nN] at h
 |node a l r il ir=>
  intro n k h;have h':@Bool.rec (fun _=>Bool) (@Bool.rec (fun _=>Bool) (nN r (Nat.pred (Nat.div n 2)) v (fun r=>k (.node a l r))) (nN l (Nat.div n 2) v (fun l=>k (.node a l r))) (Nat.beq (Nat.mod n 2) 1)) (k (.node v l r)) (Nat.beq n 0)=true:=h;rw[C8,par] at h';by_cases h0:n=0
  ·subst h0
   refine⟨_,by simpa using h',by simp[BT.get],fun j=>?_⟩;by_cases hj:j=0
   ·simp[hj,BT.get]
   ·simp[hj,BT.get]
  ·rw[decide_eq_false h0] at h'
   by_cases h1:n % 2=1
   ·rw[decide_eq_true h1] at h'
    obtain⟨t',hk,hs,hg⟩:=il h';refine⟨_,hk,by rw[BT.get,if_neg h0,if_pos h1];exact hs,fun j=>?_⟩;simp only[BT.get];by_cases hj:j=0
    ·simp[hj,Ne.symm h0]
    ·by_cases hj1:j % 2=1
     ·rw[if_neg hj,if_pos hj1,hg]
      by_cases he:j=n
      ·subst he;simp;intro hh;exact absurd rfl hh
      ·have:j / 2≠Nat.div n 2:=by show j / 2≠n / 2;omega
       simp[this,he,hj,hj1]
     ·rw[if_neg hj,if_neg hj1]
      have:j≠n:=fun e=>hj1 (e ▸ h1)
      simp[this,hj,hj1]
   ·rw[decide_eq_false h1] at h'
    obtain⟨t',hk,hs,hg⟩:=ir h';refine⟨_,hk,by rw[BT.get,if_neg h0,if_neg h1];exact hs,fun j=>?_⟩;simp only[BT.get];by_cases hj:j=0
    ·simp[hj,Ne.symm h0]
    ·by_cases hj1:j % 2=1
     ·rw[if_neg hj,if_pos hj1]
      have:j≠n:=fun e=>h1 (e ▸ hj1)
      simp[this,hj,hj1]
     ·rw[if_neg hj,if_neg hj1,hg]
      by_cases he:j=n
      ·subst he;simp;intro hh;exact absurd rfl hh
      ·have:¬(j / 2-1=Nat.pred (Nat.div n 2)):=by
        show ¬(j / 2-1=n / 2-1);omega
       rw[if_neg this,if_neg he,if_neg hj,if_neg hj1]
theorem C9{v:α}:∀{t:BT α} {n:Nat} {k:BT α->Bool},qV t n v k=true->∃t',k t'=true/\t.get n=none/\∀j,t'.get j=if j=n then some v else t.get j:=by
 intro t
 induction t with
 |leaf=>
  intro n k h;have h':@Bool.rec (fun _=>Bool) false (k (.node v .leaf .leaf)) (Nat.beq n 0)=true:=h;rw[C8] at h';by_cases h0:n=0
  ·subst h0
   refine⟨_,by simpa using h',rfl,fun j=>?_⟩;by_cases hj:j=0
   ·simp[hj,BT.get]
   ·simp only[BT.get,hj,if_false];split <;> rfl
  ·rw[decide_eq_false h0] at h';cases h'
 |node a l r il ir=>
  intro n k h;have h':@Bool.rec (fun _=>Bool) (@Bool.rec (fun _=>Bool) (qV r (Nat.pred (Nat.div n 2)) v (fun r=>k (.node a l r))) (qV l (Nat.div n 2) v (fun l=>k (.node a l r))) (Nat.beq (Nat.mod n 2) 1)) false (Nat.beq n 0)=true:=h;rw[C8,par] at h';by_cases h0:n=0
  ·subst h0;cases h'
  ·rw[decide_eq_false h0] at h'
   by_cases h1:n % 2=1
   ·rw[decide_eq_true h1] at h'
    obtain⟨t',hk,hs,hg⟩:=il h';refine⟨_,hk,by rw[BT.get,if_neg h0,if_pos h1];exact hs,fun j=>?_⟩;simp only[BT.get];by_cases hj:j=0
    ·simp[hj,Ne.symm h0]
    ·by_cases hj1:j % 2=1
     ·rw[if_neg hj,if_pos hj1,hg]
      by_cases he:j=n
      ·subst he;simp;intro hh;exact absurd rfl hh
      ·have:j / 2≠Nat.div n 2:=by show j / 2≠n / 2;omega
       simp[this,he,hj,hj1]
     ·rw[if_neg hj,if_neg hj1]
      have:j≠n:=fun e=>hj1 (e ▸ h1)
      simp[this,hj,hj1]
   ·rw[decide_eq_false h1] at h'
    obtain⟨t',hk,hs,hg⟩:=ir h';refine⟨_,hk,by rw[BT.get,if_neg h0,if_neg h1];exact hs,fun j=>?_⟩;simp only[BT.get];by_cases hj:j=0
    ·simp[hj,Ne.symm h0]
    ·by_cases hj1:j % 2=1
     ·rw[if_neg hj,if_pos hj1]
      have:j≠n:=fun e=>h1 (e ▸ hj1)
      simp[this,hj,hj1]
     ·rw[if_neg hj,if_neg hj1,hg]
      by_cases he:j=n
      ·subst he;simp;intro hh;exact absurd rfl hh
      ·have:¬(j / 2-1=Nat.pred (Nat.div n 2)):=by
        show ¬(j / 2-1=n / 2-1);omega
       rw[if_neg this,if_neg he,if_neg hj,if_neg hj1]
theorem lC:∀{l:List α} {t:BT α} {n:Nat} {k:BT α->Bool},fM t n l k=true->∃t',k t'=true/\(∀i,i<l.length->(t.get (n+i)).isSome=true)/\∀j,t'.get j=if n<=j/\j<n+l.length then l[j-n]? else t.get j:=by
 intro l
 induction l with
 |nil=>intro t n k h;exact⟨t,h,fun i hi=>absurd hi sM,fun j=>by rw[if_neg (fun h=>by have:=h.2;simp at this;omega)]⟩
 |cons v l ih=>
  intro t n k h;have h':nN t n v (fun t=>fM t (Nat.succ n) l k)=true:=h;obtain⟨t1,h1,hs,hg⟩:=oQ h';obtain⟨t2,hk,hs2,hg2⟩:=ih h1;refine⟨t2,hk,fun i hi=>?_,fun j=>?_⟩
  ·rcases i with _|i
   ·exact hs
   ·have:=hs2 i (by simpa using hi)
    rw[hg,if_neg oM] at this
    rwa [show n+(i+1)=Nat.succ n+i by omega]
  ·rw[hg2,hg]
   simp only[List.length_cons,Nat.succ_eq_add_one];by_cases he:j=n
   ·subst he
    rw[if_neg oM,if_pos rfl,if_pos oM];simp
   ·by_cases hr:n+1<=j/\j<n+1+l.length
    ·rw[if_pos hr,if_pos oM,show j-n=(j-(n+1))+1 by omega,List.getElem?_cons_succ]
    ·rw[if_neg hr,if_neg he,if_neg oM]
theorem vX:∀{l:List α} {t:BT α} {n:Nat} {k:BT α->Bool},eY t n l k=true->∃t',k t'=true/\(∀i,i<l.length->t.get (n+i)=none)/\∀j,t'.get j=if n<=j/\j<n+l.length then l[j-n]? else t.get j:=by
 intro l
 induction l with
 |nil=>intro t n k h;exact⟨t,h,fun i hi=>absurd hi sM,fun j=>by rw[if_neg (fun h=>by have:=h.2;simp at this;omega)]⟩
 |cons v l ih=>
  intro t n k h;have h':qV t n v (fun t=>eY t (Nat.succ n) l k)=true:=h;obtain⟨t1,h1,hs,hg⟩:=C9 h';obtain⟨t2,hk,hs2,hg2⟩:=ih h1;refine⟨t2,hk,fun i hi=>?_,fun j=>?_⟩
  ·rcases i with _|i
   ·exact hs
   ·have:=hs2 i (by simpa using hi)
    rw[hg,if_neg oM] at this
    rwa [show n+(i+1)=Nat.succ n+i by omega]
  ·rw[hg2,hg]
   simp only[List.length_cons,Nat.succ_eq_add_one];by_cases he:j=n
   ·subst he
    rw[if_neg oM,if_pos rfl,if_pos oM];simp
   ·by_cases hr:n+1<=j/\j<n+1+l.length
    ·rw[if_pos hr,if_pos oM,show j-n=(j-(n+1))+1 by omega,List.getElem?_cons_succ]
    ·rw[if_neg hr,if_neg he,if_neg oM]
theorem uH{t:BT α}:∀{n i:Nat} {k:List α->Bool},mJ t i n k=true->∃l,k l=true/\l.length=n/\∀j,j<n->t.get (i+j)=l[j]?:=by
 intro n
 induction n with
 |zero=>intro i k h;exact⟨[],h,rfl,fun j hj=>absurd hj oM⟩
 |succ n ih=>
  intro i k h;have h':lM t i (fun v=>mJ t (Nat.succ i) n (fun l=>k (v::l)))=true:=h;obtain⟨v,hv,h1⟩:=kJ h';obtain⟨l,hk,hl,hg⟩:=ih h1;refine⟨v::l,hk,by simp[hl],fun j hj=>?_⟩;rcases j with _|j
  ·simpa using hv
  ·rw[List.getElem?_cons_succ,<-hg j oM];congr 1;omega
def XV(T:BT Value):X->Value->Prop
 | .t i,v=>T.get i=some v
 | .c u,v=>v=u
def Ef(T:BT Value):List X->List Value->Prop
 |[],l=>l=[]
 |x::xs,l=>∃v vs,l=v::vs/\XV T x v/\Ef T xs vs
def Ca(T:BT Value):List (Nat×Nat×X)->List (Nat×Nat×Value)->Prop
 |[],l=>l=[]
 |(o,n,x)::xs,l=>∃v vs,l=(o,n,v)::vs/\XV T x v/\Ca T xs vs
def XO(T:BT Value):Option X->Option Value->Prop
 |none,v=>v=none
 |some x,v=>∃u,v=some u/\XV T x u
theorem Q4{x:X}{k:Value->Bool}(h:bO T x k=true):∃v,XV T x v/\k v=true:=by
 cases x with
 |t i=>exact kJ h
 |c u=>exact⟨u,rfl,h⟩
theorem mP:∀{l:List X} {k:List Value->Bool},iZ T l k=true->∃vs,Ef T l vs/\k vs=true:=by
 intro l
 induction l with
 |nil=>intro k h;exact⟨[],rfl,h⟩
 |cons x l ih=>
  intro k h;have h':bO T x (fun v=>iZ T l (fun l=>k (v::l)))=true:=h;obtain⟨v,hv,h1⟩:=Q4 h';obtain⟨vs,hvs,hk⟩:=ih h1;exact⟨v::vs,⟨v,vs,rfl,hv,hvs⟩,hk⟩
theorem mZ:∀{l:List (Nat×Nat×X)} {k:List (Nat×Nat×Value)->Bool},pO T l k=true->∃vs,Ca T l vs/\k vs=true:=by
 intro l
 induction l with
 |nil=>intro k h;exact⟨[],rfl,h⟩
 |cons x l ih=>
  intro k h;obtain⟨o,n,x⟩:=x;have h':bO T x (fun v=>pO T l (fun l=>k ((o,n,v)::l)))=true:=h;obtain⟨v,hv,h1⟩:=Q4 h';obtain⟨vs,hvs,hk⟩:=ih h1;exact⟨(o,n,v)::vs,⟨v,vs,rfl,hv,hvs⟩,hk⟩
theorem gW{x:Option X}{k:Option Value->Bool}(h:eU T x k=true):∃v,XO T x v/\k v=true:=by
 cases x with
 |none=>exact⟨none,rfl,h⟩
 |some x=>obtain⟨v,hv,hk⟩:=Q4 (k:=fun v=>k (some v)) h;exact⟨some v,⟨v,rfl,hv⟩,hk⟩
theorem zV{a:Option Addr}{k:Nat->Nat->Bool}(h:zQ a z k=true):(a=none/\z=true)∨∃b o,a=some ⟨b,o,none⟩/\k b o=true:=by
 cases a with
 |none=>exact .inl ⟨rfl,h⟩
 |some a=>
  obtain⟨b,o,s⟩:=a;cases s with
  |none=>exact .inr ⟨b,o,rfl,h⟩
  |some s=>simp[zQ] at h
theorem vY{k:IntKind->Int->Bool}(h:tA v k z=true):(∃i n,v = .int i n/\k i n=true)∨z=true:=by cases v <;> first|exact .inr h|exact .inl ⟨_,_,rfl,h⟩
theorem vZ{k:IntKind->Int->Bool}(h:tA v k false=true):∃i n,v = .int i n/\k i n=true:=(vY h).resolve_right sM
theorem kB{k:Nat->Bool}(h:uE v k=true):∃i n,v = .int i (.ofNat n)/\k n=true:=by
 obtain⟨i,n,rfl,h⟩:=vZ h;cases n with
 |ofNat n=>exact⟨i,n,rfl,h⟩
 |negSucc n=>exact absurd (show false=true from h) sM
theorem pU{k:Bool->Bool}(h:pP v k=true):∃b,v = .bool b/\k b=true:=by cases v <;> first|exact⟨_,rfl,h⟩|(simp[pP] at h)
theorem xD{k:Bool->Bool}(h:pQ v k z=true):(∃b,v = .bool b/\k b=true)∨((∀b,v≠.bool b)/\z=true):=by cases v <;> first|exact .inl ⟨_,rfl,h⟩|exact .inr ⟨sM,h⟩
theorem mQ{k:Nat->Nat->Bool}(h:zS v k=true):∃b o,v = .pointer (some ⟨b,o,none⟩)/\k b o=true:=by
 cases v with
 |pointer a=>
  rcases zV h with ⟨_,h⟩|⟨b,o,rfl,h⟩
  ·cases h
  ·exact⟨b,o,rfl,h⟩
 |_=>simp[zS] at h
theorem gK{z:Nat->Nat->Bool}{k:Nat->Nat->Nat->Nat->Bool}(h:fX v z k=true):(∃n c,v = .slice none n c/\z n c=true)∨∃b o n c,v = .slice (some ⟨b,o,none⟩) n c/\k b o n c=true:=by
 cases v with
 |slice a n c=>
  rcases zV (show zQ a (z n c) (fun b off=>k b off n c)=true from h) with ⟨rfl,h⟩|⟨b,o,rfl,h⟩
  ·exact .inl ⟨n,c,rfl,h⟩
  ·exact .inr ⟨b,o,n,c,rfl,h⟩
 |_=>simp[fX] at h
theorem wA(h:uD v k=true):∃l,v = .agg ⟨l⟩/\k l=true:=by
 cases v with
 |agg a=>obtain⟨l⟩:=a;exact⟨l,rfl,h⟩
 |_=>simp[uD] at h
theorem Da(h:pR v k=true):∃l,v = .tuple ⟨l⟩/\k l=true:=by
 cases v with
 |tuple a=>obtain⟨l⟩:=a;exact⟨l,rfl,h⟩
 |_=>simp[pR] at h
theorem zW{k:Nat->List Value->List Value->Bool}{y:Nat->List Value->Bool}(h:zT v k y=true) :
 (∃g p c,v = .func (.func g) ⟨p⟩ ⟨c⟩/\k g p c=true)∨∃l p c,v = .func (.yield l) ⟨p⟩ ⟨c⟩/\y l p=true:=by
 cases v with
 |func f p c=>
  obtain⟨p⟩:=p;obtain⟨c⟩:=c;cases f with
  |func g=>exact .inl ⟨g,p,c,rfl,h⟩
  |yield l=>exact .inr ⟨l,p,c,rfl,h⟩
  |_=>simp[zT] at h
 |_=>simp[zT] at h
theorem oR{k:eW->Bool}(h:qW s b k=true):∃o,s.h.get b=some o/\k o=true:=by
 obtain⟨h',n⟩:=s;exact kJ h
theorem zX{k:Nat->BT Value->Nat->Bool->Bool}(h:C4 s b k=true):∃n c e op,s.h.get b=some (.cells n c e op)/\k n c e op=true:=by
 obtain⟨o,ho,hk⟩:=oR h;cases o with
 |cells n c e op=>exact⟨n,c,e,op,ho,hk⟩
 |_=>simp at hk
theorem zY{kc:BT Value->Bool}{kr:(Nat->Option Value)->Bool}(h:tH s b kc kr=true):(∃n c e op,s.h.get b=some (.cells n c e op)/\kc c=true)∨∃g,s.h.get b=some (.rom g)/\kr g=true:=by
 obtain⟨o,ho,hk⟩:=oR h;cases o with
 |cells n c e op=>exact .inl ⟨n,c,e,op,ho,hk⟩
 |rom g=>exact .inr ⟨g,ho,hk⟩
 |_=>simp at hk
theorem nT{g:Nat->Option Value}:∀{n i:Nat} {k:List Value->Bool},fY g i n k=true->∃l,k l=true/\l.length=n/\∀j,j<n->g (i+j)=l[j]?
 |0,i,k,h=>⟨[],h,rfl,fun j hj=>absurd hj (Nat.not_lt_zero j)⟩
 |n+1,i,k,h=>by
  have h1:pS (g i) (fun v=>fY g (Nat.succ i) n (fun l=>k (v::l)))=true:=h;obtain⟨v,hv,h2⟩:=mY h1;obtain⟨l,h3,h4,h5⟩:=nT h2;refine⟨v::l,h3,by simp[h4],fun j hj=>?_⟩;cases j with
  |zero=>exact hv
  |succ j=>rw[List.getElem?_cons_succ,<-h5 j oM];congr 1;omega
def wB(s:St)(b:Nat)(f:Nat->Option Value):Prop:=(∃n c e op,s.h.get b=some (.cells n c e op)/\f=c.get)∨s.h.get b=some (.rom f)
theorem zZ{b off n:Nat}(h:tH s b (fun c=>mJ c off n k) (fun g=>fY g off n k)=true):∃f l,wB s b f/\k l=true/\l.length=n/\∀j,j<n->f (off+j)=l[j]?:=by
 rcases zY h with ⟨N,c,e,op,h1,h2⟩|⟨g,h1,h2⟩
 ·obtain⟨l,h3,h4,h5⟩:=uH h2
  exact⟨_,l,.inl ⟨N,c,e,op,h1,rfl⟩,h3,h4,h5⟩
 ·obtain⟨l,h3,h4,h5⟩:=nT h2
  exact⟨_,l,.inr h1,h3,h4,h5⟩
theorem oS{k:LoopState->iH->BT Value->List Nat->CC->CC->Nat->Bool}(h:Br s b k=true):∃st x T ps a c q,s.h.get b=some (.loop st x T ps a c q)/\k st x T ps a c q=true:=by
 obtain⟨o,ho,hk⟩:=oR h;cases o with
 |loop st x T ps a c q=>exact⟨st,x,T,ps,a,c,q,ho,hk⟩
 |_=>simp at hk
theorem oU{o:eW}{k:St->Bool}(h:jY s o k=true):∃h',k ⟨h',s.n+1⟩=true/\s.h.get s.n=none/\∀j,h'.get j=if j=s.n then some o else s.h.get j:=by
 obtain⟨h0,n⟩:=s;have h':qV h0 n o (fun h=>dG (Nat.succ n) (fun m=>k ⟨h,m⟩))=true:=h;obtain⟨t,hk,hn,hg⟩:=C9 h';exact⟨t,by simpa using hk,hn,hg⟩
theorem eS{o:eW}{k:St->Bool}(h:dI s b o k=true):∃h',k ⟨h',s.n⟩=true/\(s.h.get b).isSome=true/\∀j,h'.get j=if j=b then some o else s.h.get j:=by
 obtain⟨h0,n⟩:=s;exact oQ (k:=fun h=>k ⟨h,n⟩) h
theorem gM{k:Nat->Bool}(h:C1 s k=true):k s.n=true:=by obtain⟨h0,n⟩:=s;exact h
theorem Db{k:Value->Bool}:∀{l:List Value} {i:Nat},B6 l i k=true->∃v,l[i]? = some v/\k v=true:=by
 intro l
 induction l with
 |nil=>intro i h;simp[B6] at h
 |cons v l ih=>
  intro i h;cases i with
  |zero=>exact⟨v,rfl,h⟩
  |succ i=>simpa using ih (i:=i) h
theorem Ip:∀{l:List Value} {i n:Nat} {k:List Value->Bool},C5 l i n k=true->k ((l.drop i).take n)=true:=by
 intro l
 induction l with
 |nil=>intro i n k h;cases n with
  |zero=>rw[List.drop_nil,List.take_nil];exact h
  |succ n=>simp[C5] at h
 |cons v l ih=>
  intro i n k h;cases i with
  |zero=>cases n with
   |zero=>exact h
   |succ n=>simpa using ih (i:=0) (n:=n) (k:=fun l=>k (v::l)) h
  |succ i=>simpa using ih (i:=i) (n:=n) (k:=k) h
theorem kK(l:List Value):mK l=l.length:=by
 induction l with
 |nil=>rfl
 |cons v l ih=>show Nat.succ (mK l)=_;rw[ih];rfl
theorem sD(l:List Value)(h:eZ l=true):∀v∈l,oneCell v=true:=by
 induction l with
 |nil=>simp
 |cons v l ih=>
  obtain⟨h1,h2⟩:=Z5 (b:=oneCell v) (x:=eZ l) h;intro u hu;rcases List.mem_cons.1 hu with rfl|hu
  ·exact h1
  ·exact ih h2 u hu
end Go.Proofs.YtjkdkpckjgaplaaGreat.Ev
namespace Go.Proofs.YtjkdkpckjgaplaaGreat.Ev
open Go
abbrev Mp:=Nat->Option (Nat×Nat)
mutual
def VR(m:Mp):Value->Value->Prop
 | .pointer (some a),v=>a.spot=none/\∃x y,m a.block=some (x,y)/\v = .pointer (some ⟨x,a.off,none⟩)
 | .slice (some a) n c,v=>a.spot=none /\
  (if c<OPEN then ∃x y,m a.block=some (x,y)/\v = .slice (some ⟨x,a.off,none⟩) n c
   else if c=OPEN∨n≠0 then ∃x y,m a.block=some (x,y)/\v = .slice (some ⟨x,a.off,none⟩) n (y-(c-OPEN))
   else ∃a' c',v = .slice (some a') 0 c')
 | .slice none n c,v=>c<OPEN/\v = .slice none n c
 | .func fn p c,v=>match fn with
  | .func f=>∃p' c',v = .func (.func f) p' c'/\AR m p p'/\AR m c c'
  | .yield l=>∃x y p' c',m l=some (x,y)/\v = .func (.yield x) p' c'/\AR m p p'/\AR m c c'
  |_=>False
 | .map (some r),v=>∃x y,m r=some (x,y)/\v = .map (some x)
 | .chan (some _),_=>False
 | .iface t u,v=>∃u',v = .iface t u'/\VR m u u'
 | .agg l,v=>∃l',v = .agg l'/\AR m l l'
 | .tuple l,v=>∃l',v = .tuple l'/\AR m l l'
 | .bool b,v=>v = .bool b
 | .int k n,v=>v = .int k n
 | .float k n,v=>v = .float k n
 | .complex k a b,v=>v = .complex k a b
 | .string b,v=>v = .string b
 | .pointer none,v=>v = .pointer none
 | .map none,v=>v = .map none
 | .chan none,v=>v = .chan none
 | .nilFunc,v=>v = .nilFunc
 | .nilIface,v=>v = .nilIface
def AR(m:Mp):Array Value->Array Value->Prop
 |⟨l⟩,a=>∃l',a=⟨l'⟩/\LR m l l'
def LR(m:Mp):List Value->List Value->Prop
 |[],l'=>l'=[]
 |v::l,l'=>∃v' t,l'=v'::t/\VR m v v'/\LR m l t
end
def Mp.le(m m':Mp):Prop:=∀i p,m i=some p->m' i=some p
theorem Mp.le_refl(m:Mp):m.le m:=fun _ _ h=>h
theorem Mp.le_trans{a b c:Mp}(h:a.le b)(k:b.le c):a.le c:=fun i p hp=>k i p (h i p hp)
mutual
theorem VR.mono{m m':Mp}(hm:m.le m'):∀(v:Value) {u:Value},VR m v u->VR m' v u
 | .pointer (some a),u,h=>by
  simp only[VR] at h ⊢;obtain⟨h1,x,y,hx,e⟩:=h;exact⟨h1,x,y,hm _ _ hx,e⟩
 | .slice (some a) n c,u,h=>by
  simp only[VR] at h ⊢;refine⟨h.1,?_⟩;have h:=h.2;by_cases h1:c<OPEN
  ·rw[if_pos h1] at h ⊢
   obtain⟨x,y,hx,e⟩:=h;exact⟨x,y,hm _ _ hx,e⟩
  ·rw[if_neg h1] at h ⊢
   by_cases h2:c=OPEN∨n≠0
   ·rw[if_pos h2] at h ⊢
    obtain⟨x,y,hx,e⟩:=h;exact⟨x,y,hm _ _ hx,e⟩
   ·rw[if_neg h2] at h ⊢
    exact h
 | .slice none n c,u,h=>by simpa only[VR] using h
 | .func fn p c,u,h=>by
  cases fn with
  |func f=>
   simp only[VR] at h ⊢;obtain⟨p',c',e,h1,h2⟩:=h;exact⟨p',c',e,AR.mono hm p h1,AR.mono hm c h2⟩
  |yield l=>
   simp only[VR] at h ⊢;obtain⟨x,y,p',c',hx,e,h1,h2⟩:=h;exact⟨x,y,p',c',hm _ _ hx,e,AR.mono hm p h1,AR.mono hm c h2⟩
  |_=>simp[VR] at h
 | .map (some _),u,h=>by
  simp only[VR] at h ⊢;obtain⟨x,y,hx,e⟩:=h;exact⟨x,y,hm _ _ hx,e⟩
 | .chan (some _),u,h=>by simp[VR] at h
 | .iface t w,u,h=>by
  simp only[VR] at h ⊢;obtain⟨w',e,h1⟩:=h;exact⟨w',e,VR.mono hm w h1⟩
 | .agg l,u,h=>by
  simp only[VR] at h ⊢;obtain⟨l',e,h1⟩:=h;exact⟨l',e,AR.mono hm l h1⟩
 | .tuple l,u,h=>by
  simp only[VR] at h ⊢;obtain⟨l',e,h1⟩:=h;exact⟨l',e,AR.mono hm l h1⟩
 | .bool b,u,h=>by simpa only[VR] using h
 | .int k n,u,h=>by simpa only[VR] using h
 | .float k n,u,h=>by simpa only[VR] using h
 | .complex k a b,u,h=>by simpa only[VR] using h
 | .string b,u,h=>by simpa only[VR] using h
 | .pointer none,u,h=>by simpa only[VR] using h
 | .map none,u,h=>by simpa only[VR] using h
 | .chan none,u,h=>by simpa only[VR] using h
 | .nilFunc,u,h=>by simpa only[VR] using h
 | .nilIface,u,h=>by simpa only[VR] using h
theorem AR.mono{m m':Mp}(hm:m.le m'):∀(v:Array Value) {u:Array Value},AR m v u->AR m' v u
 |⟨l⟩,u,h=>by
  simp only[AR] at h ⊢;obtain⟨l',e,h1⟩:=h;exact⟨l',e,LR.mono hm l h1⟩
theorem LR.mono{m m':Mp}(hm:m.le m'):∀(v:List Value) {u:List Value},LR m v u->LR m' v u
 |[],u,h=>by simpa only[LR] using h
 |v::l,u,h=>by
  simp only[LR] at h ⊢;obtain⟨v',t,e,h1,h2⟩:=h;exact⟨v',t,e,VR.mono hm v h1,LR.mono hm l h2⟩
end
mutual
theorem VR.flat{m:Mp}:∀(v:Value),flat v=true->VR m v v
 | .pointer (some a),h=>by simp[Ev.flat] at h
 | .slice (some a) n c,h=>by simp[Ev.flat] at h
 | .slice none n c,h=>by simp[Ev.flat,Nat.blt_eq] at h;simp only[VR];exact⟨h,trivial⟩
 | .func fn p c,h=>by
  cases fn with
  |func f=>
   simp only[Ev.flat,Bool.true_and,Bool.and_eq_true] at h;simp only[VR];exact⟨p,c,rfl,AR.flat p h.1,AR.flat c h.2⟩
  |_=>simp[Ev.flat] at h
 | .map (some _),h=>by simp[Ev.flat] at h
 | .chan (some _),h=>by simp[Ev.flat] at h
 | .iface t w,h=>by simp only[Ev.flat] at h;simp only[VR];exact⟨w,rfl,VR.flat w h⟩
 | .agg l,h=>by simp only[Ev.flat] at h;simp only[VR];exact⟨l,rfl,AR.flat l h⟩
 | .tuple l,h=>by simp only[Ev.flat] at h;simp only[VR];exact⟨l,rfl,AR.flat l h⟩
 | .bool b,h=>by simp only[VR]
 | .int k n,h=>by simp only[VR]
 | .float k n,h=>by simp only[VR]
 | .complex k a b,h=>by simp only[VR]
 | .string b,h=>by simp only[VR]
 | .pointer none,h=>by simp only[VR]
 | .map none,h=>by simp only[VR]
 | .chan none,h=>by simp only[VR]
 | .nilFunc,h=>by simp only[VR]
 | .nilIface,h=>by simp only[VR]
theorem AR.flat{m:Mp}:∀(v:Array Value),flatA v=true->AR m v v
 |⟨l⟩,h=>by simp only[flatA] at h;simp only[AR];exact⟨l,rfl,LR.flat l h⟩
theorem LR.flat{m:Mp}:∀(v:List Value),flatL v=true->LR m v v
 |[],h=>by simp only[LR]
 |v::l,h=>by
  simp only[flatL,Bool.and_eq_true] at h;simp only[LR];exact⟨v,l,rfl,VR.flat v h.1,LR.flat l h.2⟩
end
mutual
theorem VR.same{m:Mp}:∀(v:Value) {u:Value},flat v=true->VR m v u->u=v
 | .pointer (some a),u,h,_=>by simp[Ev.flat] at h
 | .slice (some a) n c,u,h,_=>by simp[Ev.flat] at h
 | .slice none n c,u,h,k=>by simp only[VR] at k;exact k.2
 | .func fn p c,u,h,k=>by
  cases fn with
  |func f=>
   simp only[Ev.flat,Bool.true_and,Bool.and_eq_true] at h;simp only[VR] at k;obtain⟨p',c',rfl,h1,h2⟩:=k;rw[AR.same p h.1 h1,AR.same c h.2 h2]
  |_=>simp[Ev.flat] at h
 | .map (some _),u,h,_=>by simp[Ev.flat] at h
 | .chan (some _),u,h,_=>by simp[Ev.flat] at h
 | .iface t w,u,h,k=>by
  simp only[Ev.flat] at h;simp only[VR] at k;obtain⟨w',rfl,h1⟩:=k;rw[VR.same w h h1]
 | .agg l,u,h,k=>by
  simp only[Ev.flat] at h;simp only[VR] at k;obtain⟨l',rfl,h1⟩:=k;rw[AR.same l h h1]
 | .tuple l,u,h,k=>by
  simp only[Ev.flat] at h;simp only[VR] at k;obtain⟨l',rfl,h1⟩:=k;rw[AR.same l h h1]
 | .bool b,u,h,k=>by simpa only[VR] using k
 | .int _ n,u,h,k=>by simpa only[VR] using k
 | .float _ n,u,h,k=>by simpa only[VR] using k
 | .complex _ a b,u,h,k=>by simpa only[VR] using k
 | .string b,u,h,k=>by simpa only[VR] using k
 | .pointer none,u,h,k=>by simpa only[VR] using k
 | .map none,u,h,k=>by simpa only[VR] using k
 | .chan none,u,h,k=>by simpa only[VR] using k
 | .nilFunc,u,h,k=>by simpa only[VR] using k
 | .nilIface,u,h,k=>by simpa only[VR] using k
theorem AR.same{m:Mp}:∀(v:Array Value) {u:Array Value},flatA v=true->AR m v u->u=v
 |⟨l⟩,u,h,k=>by
  simp only[flatA] at h;simp only[AR] at k;obtain⟨l',rfl,h1⟩:=k;rw[LR.same l h h1]
theorem LR.same{m:Mp}:∀(v:List Value) {u:List Value},flatL v=true->LR m v u->u=v
 |[],u,h,k=>by simpa only[LR] using k
 |v::l,u,h,k=>by
  simp only[flatL,Bool.and_eq_true] at h;simp only[LR] at k;obtain⟨v',t,rfl,h1,h2⟩:=k;rw[VR.same v h.1 h1,LR.same l h.2 h2]
end
variable{m m':Mp}{v u:Value}
theorem LR.length:∀{l l':List Value},LR m l l'->l'.length=l.length
 |[],_,h=>by simp only[LR] at h;simp[h]
 |v::l,_,h=>by simp only[LR] at h;obtain⟨v',t,rfl,_,h2⟩:=h;simp[LR.length h2]
theorem LR.get:∀{l l':List Value} {i:Nat} {v:Value},LR m l l'->l[i]? = some v->∃v',l'[i]? = some v'/\VR m v v'
 |[],_,i,v,h,hv=>by simp at hv
 |w::l,_,i,v,h,hv=>by
  simp only[LR] at h;obtain⟨w',t,rfl,h1,h2⟩:=h;rcases i with _|i
  ·simp at hv;subst hv;exact⟨w',rfl,h1⟩
  ·simp at hv ⊢;exact LR.get h2 hv
theorem LR.of_get:∀{l l':List Value},l'.length=l.length->(∀(i:Nat) (v:Value),l[i]? = some v->∃v',l'[i]? = some v'/\VR m v v')->LR m l l'
 |[],l',h,_=>by simp only[LR];exact List.eq_nil_of_length_eq_zero (by simpa using h)
 |v::l,l',h,k=>by
  rcases l' with _|⟨v',t⟩
  ·simp at h
  ·simp only[LR]
   obtain⟨u,hu,hr⟩:=k 0 v rfl;simp at hu;subst hu;exact⟨v',t,rfl,hr,LR.of_get (by simpa using h) (fun i w hw=>by simpa using k (i+1) w (by simpa using hw))⟩
theorem LR.append:∀{a a' b b':List Value},LR m a a'->LR m b b'->LR m (a++b) (a'++b')
 |[],_,_,_,h,k=>by simp only[LR] at h;subst h;simpa using k
 |v::l,_,_,_,h,k=>by
  simp only[LR] at h;obtain⟨v',t,rfl,h1,h2⟩:=h;simp only[List.cons_append,LR];exact⟨v',t++_,rfl,h1,LR.append h2 k⟩
theorem VR.plain(h:VR m v u)(hv:∀l,v≠.agg l):(v.cells = #[v]/\u.cells = #[u])/\oneCell u=oneCell v:=by
 cases v with
 |agg l=>exact absurd rfl (hv l)
 |pointer a=>
  cases a with
  |none=>simp only[VR] at h;subst h;exact⟨⟨rfl,rfl⟩,rfl⟩
  |some a=>simp only[VR] at h;obtain⟨_,x,y,_,rfl⟩:=h;exact⟨⟨rfl,rfl⟩,rfl⟩
 |slice a n c=>
  cases a with
  |none=>simp only[VR] at h;obtain⟨_,rfl⟩:=h;exact⟨⟨rfl,rfl⟩,rfl⟩
  |some a=>
   simp only[VR] at h;have h:=h.2;by_cases h1:c<OPEN
   ·rw[if_pos h1] at h;obtain⟨x,y,_,rfl⟩:=h;exact⟨⟨rfl,rfl⟩,rfl⟩
   ·rw[if_neg h1] at h
    by_cases h2:c=OPEN∨n≠0
    ·rw[if_pos h2] at h;obtain⟨x,y,_,rfl⟩:=h;exact⟨⟨rfl,rfl⟩,rfl⟩
    ·rw[if_neg h2] at h;obtain⟨x,y,rfl⟩:=h;exact⟨⟨rfl,rfl⟩,rfl⟩
 |func fn p c=>
  cases fn with
  |func f=>simp only[VR] at h;obtain⟨p',c',rfl,_⟩:=h;exact⟨⟨rfl,rfl⟩,rfl⟩
  |yield l=>simp only[VR] at h;obtain⟨x,y,p',c',_,rfl,_⟩:=h;exact⟨⟨rfl,rfl⟩,rfl⟩
  |_=>simp[VR] at h
 |map a=>
  cases a with
  |none=>simp only[VR] at h;subst h;exact⟨⟨rfl,rfl⟩,rfl⟩
  |some a=>simp only[VR] at h;obtain⟨x,y,_,rfl⟩:=h;exact⟨⟨rfl,rfl⟩,rfl⟩
 |chan a=>
  cases a with
  |none=>simp only[VR] at h;subst h;exact⟨⟨rfl,rfl⟩,rfl⟩
  |some a=>simp[VR] at h
 |iface t w=>simp only[VR] at h;obtain⟨w',rfl,_⟩:=h;exact⟨⟨rfl,rfl⟩,rfl⟩
 |tuple l=>simp only[VR] at h;obtain⟨w',rfl,_⟩:=h;exact⟨⟨rfl,rfl⟩,rfl⟩
 |_=>simp only[VR] at h;subst h;exact⟨⟨rfl,rfl⟩,rfl⟩
theorem VR.cells(h:VR m v u):LR m v.cells.toList u.cells.toList:=by
 by_cases hv:∃l,v = .agg l
 ·obtain⟨⟨l⟩,rfl⟩:=hv
  simp only[VR,AR] at h;obtain⟨l',rfl,l2,rfl,h1⟩:=h;exact h1
 ·obtain⟨⟨h1,h2⟩,_⟩:=h.plain (fun l e=>hv ⟨l,e⟩)
  rw[h1,h2];simp only[LR];exact⟨u,[],rfl,h,rfl⟩
theorem VR.one(h:VR m v u):oneCell u=oneCell v:=by
 by_cases hv:∃l,v = .agg l
 ·obtain⟨l,rfl⟩:=hv
  simp only[VR] at h;obtain⟨l',rfl,h1⟩:=h;rfl
 ·exact(h.plain (fun l e=>hv ⟨l,e⟩)).2
end Go.Proofs.YtjkdkpckjgaplaaGreat.Ev
namespace Go.Proofs.YtjkdkpckjgaplaaGreat.Ev
open Go Go.RowKit
variable{m m':Mp}{P:Program}{i B x y:Nat}{o:eW}{o':Obj}{w:World}{s:St}
def iH.code:iH->Option Code
 | .normal=>none
 | .ret=>some .ret
 | .exit id=>some (.exit id)
 | .goto l=>some (.goto l)
def TR(m:Mp)(T:BT Value)(a:Array Value):Prop:=∀t v,T.get t=some v->∃v',a[t]? = some v'/\VR m v v'
def ER(m:Mp):List (Int×Value)->List MapEntry->Prop
 |[],l=>l=[]
 |e::es,l=>∃f t,l=f::t/\f.key = .int .i64 e.1/\VR m e.2 f.val/\ER m es t
theorem ER.mono(hm:m.le m'):∀{es:List (Int×Value)} {l:List MapEntry},ER m es l->ER m' es l
 |[],_,h=>h
 |_::_,_,h=>by
  obtain⟨f,t,h1,h2,h3,h4⟩:=h;exact⟨f,t,h1,h2,h3.mono hm,ER.mono hm h4⟩
def OR(P:Program)(m:Mp)(i:Nat):eW->Obj->Prop
 | .dead,_=>True
 | .cells n c e op,o=>∃cs:Array Value,o = .cells cs e (0,0)/\n<=cs.size/\(∀j v,c.get j=some v->∃v',cs[j]? = some v'/\VR m v v') /\
  (op=true->∃x y,m i=some (x,y)/\y*P.cellsOf e=cs.size)/\(∀j v,c.get j=some v->oneCell v=true/\j<n)
 | .loop st x T ps a b q,o=>∃r:Loop,o = .loop r/\r.state=st/\r.pending=x.code/\TR m T r.tmps/\r.params.toList=ps/\comp P r.assign=a/\comp P r.body=b /\
  ∃z y,m q=some (z,y)/\r.defers=z
 | .deferred d,o=>o = .deferred (if d then some [] else none)
 | .imap es,o=>∃(a:Array MapEntry) (c:Nat),o = .map a c/\ER m es a.toList
 | .rom g,o=>∃(cs:Array Value) (e:Nat) (fr:Nat×Nat),o = .cells cs e fr/\∀j v,g j=some v->oneCell v=true/\∃v',cs[j]? = some v'/\VR m v v'
theorem TR.mono(hm:m.le m'){T:BT Value}{a:Array Value}(h:TR m T a):TR m' T a:=fun t v ht=>by
 obtain⟨v',h1,h2⟩:=h t v ht;exact⟨v',h1,h2.mono hm⟩
theorem OR.mono(hm:m.le m')(h:OR P m i o o'):OR P m' i o o':=by
 cases o with
 |dead=>trivial
 |cells n c e op=>
  obtain⟨cs,h1,h2,h3,h4,h7⟩:=h;refine⟨cs,h1,h2,fun j v hj=>?_,fun ho=>?_,h7⟩
  ·obtain⟨v',h5,h6⟩:=h3 j v hj;exact⟨v',h5,h6.mono hm⟩
  ·obtain⟨x,y,h5,h6⟩:=h4 ho;exact⟨x,y,hm _ _ h5,h6⟩
 |loop st x T ps a b q=>
  obtain⟨r,h1,h2,h3,h4,h5,h6,h7,z,y,h8,h9⟩:=h;exact⟨r,h1,h2,h3,h4.mono hm,h5,h6,h7,z,y,hm _ _ h8,h9⟩
 |deferred d=>exact h
 |imap es=>
  obtain⟨a,c,h1,h2⟩:=h;exact⟨a,c,h1,h2.mono hm⟩
 |rom g=>
  obtain⟨cs,e,fr,h1,h2⟩:=h;refine⟨cs,e,fr,h1,fun j v hj=>?_⟩;obtain⟨h3,v',h4,h5⟩:=h2 j v hj;exact⟨h3,v',h4,h5.mono hm⟩
abbrev Kp:=Nat->Option eW
variable{K:Kp}
structure dO(P:Program)(K:Kp)(B:Nat)(m:Mp)(s:St)(w:World):Prop where
 low:∀i x y,m i=some (x,y)->(B<=x∨∃g,s.h.get i=some (.rom g))/\x<w.heap.size
 old:∀i p,m i=some p->i<s.n
 obj:∀i x y o,m i=some (x,y)->s.h.get i=some o->∃o',w.heap[x]? = some o'/\OR P m i o o'
 inj:∀i j x y y',m i=some (x,y)->m j=some (x,y')->i≠j->B<=x->s.h.get i=some .dead∨s.h.get j=some .dead
 base:B<=w.heap.size
 kept:∀i o,K i=some o->m i=none/\s.h.get i=some o/\i<s.n
theorem rF{w w':World}(ho:w'.os=w.os)(ht:w'.tape=w.tape)(hp:w'.output=w.output)(hs:w.heap.size<=w'.heap.size)(hb:∀k,k<B->w'.heap[k]? = w.heap[k]?):Below B w w':=⟨ho,ht,hp,hs,hb⟩
def Mp.put(m:Mp)(i x y:Nat):Mp:=fun j=>if j=i then some (x,y) else m j
theorem Mp.put_le(h:m i=none):m.le (m.put i x y):=by
 intro j p hj;unfold Mp.put;rw[if_neg]
 ·exact hj
 ·rintro rfl;rw[h] at hj;cases hj
@[simp] theorem Mp.put_same (m : Mp) (i x y : Nat) : m.put i x y i = some (x, y) := by simp [Mp.put]
theorem Mp.put_ne{i x y j:Nat}(h:j≠i):m.put i x y j=m j:=by simp[Mp.put,h]
theorem dO.own(E:dO P K B m s w){b x y:Nat}{c:eW}(hm:m b=some (x,y))(hc:s.h.get b=some c)(hn:∀g,c≠.rom g):B<=x:=by
 rcases (E.low b x y hm).1 with h|⟨g,h⟩
 ·exact h
 ·rw[hc] at h;cases h;exact absurd rfl (hn g)
theorem dO.none{P:Program}{K:Kp}{B:Nat}{m:Mp}{s:St}{w:World}(E:dO P K B m s w):m s.n=none:=by
 cases h:m s.n with
 |none=>rfl
 |some p=>exact absurd (E.old _ _ h) oM
theorem dO.new(E:dO P K B m s w){h':BT eW}(y:Nat)(hg:∀j,h'.get j=if j=s.n then some o else s.h.get j)
 (hr:OR P (m.put s.n w.heap.size y) s.n o o'):dO P K B (m.put s.n w.heap.size y) ⟨h',s.n+1⟩ (w.alloc o'):=by
 have hn:=E.none;refine⟨fun i x z hi=>?_,fun i p hi=>?_,fun i x z c hi hc=>?_,fun i j x z z' hi hj hij hBx=>?_,by have:=E.base;simp;omega,fun i o2 hi=>?_⟩
 ·by_cases he:i=s.n
  ·subst he;simp at hi;have:=E.base;exact⟨.inl oM,by simp;omega⟩
  ·rw[Mp.put_ne he] at hi
   obtain⟨h1,h2⟩:=E.low i x z hi;refine⟨h1.imp id (fun ⟨g,h⟩=>⟨g,?_⟩),by simp;omega⟩;show h'.get i=_;rw[hg,if_neg he];exact h
 ·by_cases he:i=s.n
  ·subst he;exact Nat.lt_succ_self _
  ·rw[Mp.put_ne he] at hi;exact Nat.lt_succ_of_lt (E.old i p hi)
 ·have hc':h'.get i=some c:=hc
  rw[hg] at hc';by_cases he:i=s.n
  ·subst he
   rw[if_pos rfl] at hc';simp only[Mp.put_same,Option.some.injEq,Prod.mk.injEq] at hi;cases hc';refine⟨o',?_,hr⟩;rw[<-hi.1];show(w.heap.push o')[w.heap.size]? = some o';simp
  ·rw[if_neg he] at hc'
   rw[Mp.put_ne he] at hi;obtain⟨o2,h1,h2⟩:=E.obj i x z c hi hc';refine⟨o2,?_,h2.mono (Mp.put_le hn)⟩;have:=(E.low i x z hi).2;show(w.heap.push o')[x]? = some o2;rw[Array.getElem?_push_lt this];rw[Array.getElem?_eq_getElem this] at h1;exact h1
 ·show h'.get i=some .dead∨h'.get j=some .dead
  rw[hg,hg];by_cases hi':i=s.n
  ·subst hi'
   rw[Mp.put_ne (Ne.symm hij)] at hj;simp only[Mp.put_same,Option.some.injEq,Prod.mk.injEq] at hi;have:=(E.low j x z' hj).2;omega
  ·by_cases hj':j=s.n
   ·subst hj'
    rw[Mp.put_ne hij] at hi;simp only[Mp.put_same,Option.some.injEq,Prod.mk.injEq] at hj;have:=(E.low i x z hi).2;omega
   ·rw[if_neg hi',if_neg hj']
    rw[Mp.put_ne hi'] at hi;rw[Mp.put_ne hj'] at hj;exact E.inj i j x z z' hi hj hij hBx
 ·obtain⟨h1,h2,h3⟩:=E.kept i o2 hi
  have he:i≠s.n:=oM
  exact⟨by rw[Mp.put_ne he];exact h1,by show h'.get i=_;rw[hg,if_neg he];exact h2,Nat.lt_succ_of_lt h3⟩
theorem xE(hB:B<=w.heap.size)(o:Obj):Below B w (w.alloc o):=(Below.refl B w).alloc hB o
theorem dO.put{w w':World}(E:dO P K B m s w){h':BT eW}{b x y:Nat}{o c:eW}(hb:m b=some (x,y))(hc:s.h.get b=some c)(hd:c≠.dead/\∀g,c≠.rom g)
 (hg:∀j,h'.get j=if j=b then some o else s.h.get j) (hs:w'.heap.size=w.heap.size) (hx:w'.heap[x]? = some o') (hw:∀k,k≠x->w'.heap[k]? = w.heap[k]?) (hr:OR P m b o o'):dO P K B m ⟨h',s.n⟩ w':=by
 have hBb:=E.own hb hc hd.2;refine⟨fun i z u hi=>⟨?_,by rw[hs];exact(E.low i z u hi).2⟩,E.old,fun i z u d hi hd'=>?_,fun i j z u u' hi hj hij hBx=>?_,by rw[hs];exact E.base,fun i o2 hi=>?_⟩
 ·by_cases he:i=b
  ·subst he;rw[hb] at hi;cases hi;exact .inl hBb
  ·refine(E.low i z u hi).1.imp id (fun ⟨g,h⟩=>⟨g,?_⟩)
   show h'.get i=_;rw[hg,if_neg he];exact h
 ·have hd2:h'.get i=some d:=hd'
  rw[hg] at hd2;by_cases he:i=b
  ·subst he
   rw[if_pos rfl] at hd2;cases hd2;rw[hb] at hi;cases hi;exact⟨o',hx,hr⟩
  ·rw[if_neg he] at hd2
   obtain⟨o2,h1,h2⟩:=E.obj i z u d hi hd2;by_cases hz:z=x
   ·subst hz
    rcases E.inj i b z u y hi hb he hBb with h3|h3
    ·rw[hd2] at h3;cases h3;exact⟨o',hx,trivial⟩
    ·rw[hc] at h3;cases h3;exact absurd rfl hd.1
   ·exact⟨o2,by rw[hw z hz];exact h1,h2⟩
 ·show h'.get i=some .dead∨h'.get j=some .dead
  have:=E.inj i j z u u' hi hj hij hBx;rw[hg,hg];by_cases hi':i=b
  ·subst hi'
   rw[hb] at hi;cases hi;rcases this with h3|h3
   ·rw[hc] at h3;cases h3;exact absurd rfl hd.1
   ·right;rw[if_neg (Ne.symm hij)];exact h3
  ·by_cases hj':j=b
   ·subst hj'
    rcases this with h3|h3
    ·left;rw[if_neg hij];exact h3
    ·rw[hc] at h3;cases h3;exact absurd rfl hd.1
   ·rw[if_neg hi',if_neg hj'];exact this
 ·obtain⟨h1,h2,h3⟩:=E.kept i o2 hi
  have he:i≠b:=by rintro rfl;rw[hb] at h1;cases h1
  exact⟨h1,by show h'.get i=_;rw[hg,if_neg he];exact h2,h3⟩
end Go.Proofs.YtjkdkpckjgaplaaGreat.Ev
