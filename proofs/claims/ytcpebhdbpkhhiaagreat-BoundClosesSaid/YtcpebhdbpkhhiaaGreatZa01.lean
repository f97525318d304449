import Derived.RangeFuncLeaves
import Derived.RangeFuncIn
import Derived.OrdersIn
import Derived.Below
set_option linter.unusedVariables false
set_option linter.unusedSimpArgs false
/- An evaluator of calls that need nothing from outside: a function of the program is turned into a small code and run on memory of its own; the texts beside it prove that the program, in whatever world, does the same. No program here. -/
namespace Go.Proofs.YtcpebhdbpkhhiaaGreat.Ev
open Go

/-! Trees by number. -/
inductive BT (α : Type) where
  | leaf
  | node (a : α) (l r : BT α)

def sel {α : Type} (b : Bool) (x y : α) : α := match b with | true => x | false => y

def BT.get {α : Type} : BT α → Nat → Option α
  | .leaf, _ => none
  | .node a l r, n => if n = 0 then some a else if n % 2 = 1 then l.get (n / 2) else r.get (n / 2 - 1)
/-- One more, at the next number. -/
def BT.add {α : Type} : BT α → Nat → α → BT α
  | .leaf, n, v => if n = 0 then .node v .leaf .leaf else .leaf
  | .node a l r, n, v => if n = 0 then .node a l r else if n % 2 = 1 then .node a (l.add (n / 2) v) r else .node a l (r.add (n / 2 - 1) v)
def BT.adds {α : Type} : BT α → Nat → List α → BT α
  | t, _, [] => t
  | t, n, v :: l => (t.add n v).adds (n + 1) l
def BT.ofList {α : Type} (l : List α) : BT α := BT.adds .leaf 0 l

inductive Out where
  | normal | ret | exit (id : Nat) | goto (l : Nat)

/-- Where an operation finds a value. -/
inductive X where
  | t (i : Nat)
  | c (v : Value)

inductive COp where
  | mov (x : X)
  | pick (c a b : X)
  | new (e n : Nat) (z : BT Value)
  | box (e : Nat) (x : X)
  | build (z : List Value) (ps : List (Nat × Nat × X))
  | lit (e len n : Nat) (z : List Value) (ps : List (Nat × Nat × X))
  | ld (a : X) (n : Option Nat)
  | st (a x : X) (n : Option Nat)
  | nilc (x : X)
  | bin (b : BinOp) (t d : Nat) (x y : X)
  | un (u : UnOp) (x : X)
  | conv (a b : Nat) (x : X)
  | mini (t : Nat) (x : X)
  | tas (x : X) (a b : Nat) (ok : Bool)
  | bi (b : Builtin) (ts : Array Nat) (t : Nat) (l : List X)
  | ixs (t : Nat) (x i : X)
  | fn (f : Nat) (p c : List X)
  | mks (e size bytes : Nat) (z : List Value) (l c : X)
  | slc (e size : Nat) (x : X) (lo hi mx : Option X)
  | slcn (t : Nat) (x : X) (lo hi mx : Option X)
  | fa (x : X) (off : Nat)
  | fld (x : X) (off : Nat) (n : Option Nat)
  | ia (x i : X) (size : Nat)
  | iaa (x i : X) (len size : Nat)
  | ix (x i : X) (len size : Nat) (n : Option Nat)
  | ext (x : X) (i : Nat)
  | len (x : X)
  | cap (x : X)
  | app (e size bytes : Nat) (z : List Value) (ints : Bool) (x y : X)
  | copy (size : Nat) (x y : X)
  | clear (size : Nat) (z : List Value) (x : X)
  | again (a : X) (n : Option Nat) (d : Nat)
  | againS (e size : Nat) (x : X) (lo hi mx : Option X) (d : Nat)
  | mkmap
  | ins (m x v : X)
  | look (m x : X) (z : Value) (ok : Bool)
  | call (f : X) (args : List X)
  | bad

structure Item where
  g : Option (Nat × Bool)
  d : Option Nat
  op : COp

inductive CC where
  | skip | ret
  | exit (id : Nat)
  | goto (l : Nat)
  | seq (a b : CC)
  | cond (x : X) (a b : CC)
  | block (id : Nat) (b : CC)
  | loop (b : CC)
  | scope (b : CC)
  | items (l : List Item)
  | range (f : X) (ps : List Nat) (assign body : CC)
  | bad

inductive CObj where
  | dead
  | cells (n : Nat) (c : BT Value) (e : Nat) (op : Bool)
  | loop (s : LoopState) (pend : Out) (T : BT Value) (ps : List Nat) (assign body : CC) (q : Nat)
  | deferred (d : Bool)
  | imap (es : List (Int × Value))
  | rom (g : Nat → Option Value)

structure St where
  h : BT CObj
  n : Nat
/-- The cap of a slice whose row came of an append: it is not known. -/
def OPEN : Nat := 18446744073709551616

/-! Values without addresses. -/
mutual
def flat : Value → Bool
  | .bool _ | .int _ _ | .float _ _ | .complex _ _ _ | .string _ | .nilFunc | .nilIface => true
  | .pointer none | .map none | .chan none => true
  | .slice none _ c => Nat.blt c OPEN
  | .pointer (some _) | .slice (some _) _ _ | .map (some _) | .chan (some _) => false
  | .func fn first captured => (match fn with | .func _ => true | _ => false) && flatA first && flatA captured
  | .iface _ v => flat v
  | .agg cs => flatA cs
  | .tuple vs => flatA vs
def flatA : Array Value → Bool
  | ⟨l⟩ => flatL l
def flatL : List Value → Bool
  | [] => true
  | v :: l => flat v && flatL l
end

/-! ## Turning the program's code -/
def cx : Operand → Option X
  | .tmp t => some (.t t)
  | .const v => sel (flat v) (some (.c v)) none
  | .func f => some (.c (.func (.func f) #[] #[]))
  | .global _ => none
def cxs : List Operand → Option (List X)
  | [] => some []
  | x :: l => match cx x, cxs l with
    | some x, some l => some (x :: l)
    | _, _ => none
def cxo : Option Operand → Option (Option X)
  | none => some none
  | some x => (cx x).map some
def cparts (place : Nat → Option (Nat × Nat)) : List (Nat × Operand) → Option (List (Nat × Nat × X))
  | [] => some []
  | (i, x) :: l => match place i, cx x, cparts place l with
    | some (o, n), some x, some l => some ((o, n, x) :: l)
    | _, _, _ => none

def oneCell : Value → Bool
  | .agg _ | .tuple _ => false
  | _ => true
def zeroOf (P : Program) (t : TypeId) : Option (Array Value) :=
  match P.info? t with
  | some i => match i.zero with
    | some v => sel (flatA v.cells && v.cells.toList.all oneCell) (some v.cells) none
    | none => none
  | none => none
/-- How many cells a part of type t takes that is no single value: none if it is one. -/
def aggOf (P : Program) (t : TypeId) : Option (Option Nat) :=
  match P.underlying t, P.info? t with
  | some (.struct _), some i | some (.array _ _), some i => some (some i.size)
  | some _, some _ => some none
  | _, _ => none
def repeatN (z : List Value) : Nat → List Value
  | 0 => []
  | n + 1 => z ++ repeatN z n

def placesOf (P : Program) (fs : Array Field) (i : Nat) : Option (Nat × Nat) :=
  match fs[i]? with
  | some f => match P.info? f.type with
    | some inf => some (f.offset, inf.size)
    | none => none
  | none => none
/-- Parts that lie in n cells. -/
def inN (n : Nat) : List (Nat × Nat × X) → Bool
  | [] => true
  | (o, k, _) :: l => Nat.ble (o + k) n && inN n l

/-- What of a type may be nil: 1 a slice, 2 a pointer, 3 a function, 4 an interface value; 5: a struct or an array that holds no interface value. -/
def nilKind (P : Program) (t : TypeId) : Nat :=
  match P.underlying t with
  | some (.slice _) => 1
  | some (.pointer _) => 2
  | some (.func _ _ _) => 3
  | some (.interface _) => 4
  | some (.struct _) | some (.array _ _) => sel (P.eqGuardType P.depth t) 0 5
  | _ => 0

def compOp (P : Program) (o : Oper) : Option COp :=
  match o.op with
  | .move x | .assign x => (cx x).map .mov
  | .pick c a b => match cx c, cx a, cx b with
    | some c, some a, some b => some (.pick c a b)
    | _, _, _ => none
  | .alloc elem => (zeroOf P elem).map fun z => .new elem z.size (.ofList z.toList)
  | .box elem x => (cx x).map (.box elem)
  | .build t parts => match zeroOf P t, P.underlying t with
    | some z, some (.struct fs) => match cparts (placesOf P fs) parts.toList with
      | some ps => sel (inN z.size ps && fs.toList.all (fun f => (P.info? f.type).isSome)) (some (.build z.toList ps)) none
      | none => none
    | some z, some (.array _ e) => match P.info? e with
      | some i => match cparts (fun k => some (k * i.size, i.size)) parts.toList with
        | some ps => sel (inN z.size ps) (some (.build z.toList ps)) none
        | none => none
      | none => none
    | _, _ => none
  | .buildSlice t len parts => match P.underlying t with
    | some (.slice e) => match P.info? e, zeroOf P e with
      | some i, some z => match cparts (fun k => some (k * i.size, i.size)) parts.toList with
        | some ps => sel (inN (len * i.size) ps && Nat.beq z.size i.size && Nat.ble (len * i.size) 65536 && Nat.ble len 65536) (some (.lit e len (len * i.size) (repeatN z.toList len) ps)) none
        | none => none
      | _, _ => none
    | _ => none
  | .load t a => match aggOf P t, cx a with
    | some n, some a => some (.ld a n)
    | _, _ => none
  | .store t a x => match aggOf P t, P.info? t, cx a, cx x with
    | some n, some i, some a, some x => sel (match n with | none => Nat.beq i.size 1 | some _ => true) (some (.st a x n)) none
    | _, _, _, _ => none
  | .nilCheck x => (cx x).map .nilc
  | .binOp b t x y _ => match cx x, cx y with
    | some x, some y => some (.bin b t (nilKind P t) x y)
    | _, _ => none
  | .makeFunc (.func f) p c => match cxs p.toList, cxs c.toList with
    | some p, some c => some (.fn f p c)
    | _, _ => none
  | .makeSlice t l c => match P.underlying t, cx l, cx c with
    | some (.slice e), some l, some c => match P.info? e, zeroOf P e with
      | some i, some z => sel (Nat.beq z.size i.size) (some (.mks e i.size i.bytes z.toList l c)) none
      | _, _ => none
    | _, _, _ => none
  | .slice t x lo hi mx => match P.underlying t, cx x, cxo lo, cxo hi, cxo mx with
    | some (.slice e), some x, some lo, some hi, some mx => match P.info? e with
      | some i => sel (mx.isNone || hi.isSome) (some (.slc e i.size x lo hi mx)) none
      | none => none
    | some .string, some x, some lo, some hi, some mx => some (.slcn t x lo hi mx)
    | _, _, _, _, _ => none
  | .fieldAddr t x f => match P.underlying t, cx x with
    | some (.struct fs), some x => match fs[f]? with
      | some fd => match P.info? fd.type with
        | some i => sel (Nat.beq i.size 0) none (some (.fa x fd.offset))
        | none => none
      | none => none
    | _, _ => none
  | .field t x f => match P.underlying t, cx x with
    | some (.struct fs), some x => match fs[f]? with
      | some fd => (aggOf P fd.type).map (.fld x fd.offset)
      | none => none
    | _, _ => none
  | .indexAddr t x i => match P.underlying t, cx x, cx i with
    | some (.slice e), some x, some i => (P.info? e).map fun inf => .ia x i inf.size
    | some (.array n e), some x, some i => (P.info? e).map fun inf => .iaa x i n inf.size
    | _, _, _ => none
  | .index t x i => match P.underlying t, cx x, cx i with
    | some (.array n e), some x, some i => match P.info? e, aggOf P e with
      | some inf, some k => some (.ix x i n inf.size k)
      | _, _ => none
    | some .string, some x, some i => some (.ixs t x i)
    | _, _, _ => none
  | .extract t i => (cx t).map (.ext · i)
  | .call { callee := .value f, args, .. } => match cx f, cxs args.toList with
    | some f, some l => some (.call f l)
    | _, _ => none
  | .call { callee := .builtin b, args, argTypes } =>
    match b, args.toList with
    | .len, [x] => match (argTypes[0]?).bind P.underlying with
      | some (.slice _) => (cx x).map .len
      | some .string => (cx x).map fun x => .bi .len argTypes o.type [x]
      | _ => none
    | .cap, [x] => match (argTypes[0]?).bind P.underlying with
      | some (.slice _) => (cx x).map .cap
      | _ => none
    | .append, [x, y] => match (argTypes[0]?).bind P.underlying, (argTypes[1]?).bind P.underlying, cx x, cx y with
      | some (.slice e), some d, some x, some y => match P.info? e, zeroOf P e with
        | some i, some z => sel (Nat.beq z.size i.size && !Nat.beq i.size 0)
            (match d with
            | .int _ => some (.app e i.size i.bytes z.toList true x y)
            | .slice _ => some (.app e i.size i.bytes z.toList false x y)
            | _ => none) none
        | _, _ => none
      | _, _, _, _ => none
    | .copy, [x, y] => match (argTypes[0]?).bind P.underlying, cx x, cx y with
      | some (.slice e), some x, some y => (P.info? e).map fun i => .copy i.size x y
      | _, _, _ => none
    | .clear, [x] => match (argTypes[0]?).bind P.underlying, cx x with
      | some (.slice e), some x => match P.info? e, zeroOf P e with
        | some i, some z => sel (Nat.beq z.size i.size) (some (.clear i.size z.toList x)) none
        | _, _ => none
      | _, _ => none
    | .max, l => (cxs l).map (.bi .max argTypes o.type)
    | .min, l => (cxs l).map (.bi .min argTypes o.type)
    | _, _ => none
  | .unOp u _ x => (cx x).map (.un u)
  | .convert a b x => (cx x).map (.conv a b)
  | .makeInterface t x => (cx x).map (.mini t)
  | .typeAssert x a b ok => (cx x).map (.tas · a b ok)
  | .makeMap _ none => some .mkmap
  | .insert t m x v => match P.underlying t, cx m, cx x, cx v with
    | some (.map q _), some m, some x, some v => match P.underlying q with
      | some (.int _) => some (.ins m x v)
      | _ => none
    | _, _, _, _ => none
  | .lookup t m x ok => match P.underlying t, cx m, cx x with
    | some (.map q e), some m, some x => match P.underlying q, P.info? e with
      | some (.int _), some i => match i.zero with
        | some z => sel (flat z) (some (.look m x z ok)) none
        | none => none
      | _, _ => none
    | _, _, _ => none
  | _ => none

/-- An operation that neither writes what was there nor calls. -/
def calm : Op → Bool
  | .move _ | .assign _ | .pick .. | .alloc _ | .box .. | .build .. | .buildSlice .. | .load .. | .nilCheck _ | .binOp .. | .unOp .. | .convert .. | .makeFunc ..
  | .makeSlice .. | .slice .. | .fieldAddr .. | .field .. | .indexAddr .. | .index .. | .extract .. | .makeInterface .. | .typeAssert .. => true
  | .call { callee := .builtin b, .. } => match b with | .len | .cap | .min | .max => true | _ => false
  | _ => false
/-- An operation that looks into memory. -/
def isLook : Op → Bool
  | .load .. | .slice .. => true
  | _ => false

/-- Operation j waits for operation i. -/
def anc (b : Array Nat) (j i : Nat) : Bool := (b.getD j 0).testBit i
def pickCalm (ops : Array Oper) : List Nat → Option Nat
  | [] => none
  | i :: l => sel (match ops[i]? with | some o => calm o.op | none => false) (some i) (pickCalm ops l)

/-- An order for a region that draws one: what is calm comes as early as it may. With each operation, the loads that must go on to read the same behind it. -/
def sched (ops : Array Oper) (b : Array Nat) : Nat → Array Bool → List Nat → Option (List (Nat × List Nat))
  | 0, listed, _ => match Region.ready .any ops listed with
    | [] => some []
    | _ => none
  | fuel + 1, listed, lds => match Region.ready .any ops listed with
    | [] => some []
    | i :: rs => match pickCalm ops (i :: rs) with
      | some j => match sched ops b fuel (listed.setIfInBounds j true) (sel (match ops[j]? with | some o => isLook o.op | none => false) (j :: lds) lds) with
        | some l => some ((j, []) :: l)
        | none => none
      | none => match rs with
        | [] => match sched ops b fuel (listed.setIfInBounds i true) lds with
          | some l => some ((i, lds.filter fun k => !anc b i k) :: l)
          | none => none
        | _ => none

def orBad : Option COp → COp
  | some c => c
  | none => .bad
def compItem (P : Program) (ops : Array Oper) (i : Nat) : Option Item :=
  match ops[i]? with
  | some o => match o.guard with
    | none => some ⟨none, o.dst, orBad (compOp P o)⟩
    | some (j, w) => match (ops[j]?).bind (·.dst) with
      | some t => some ⟨some (t, w), o.dst, orBad (compOp P o)⟩
      | none => none
  | none => none
/-- What looked into memory looks once more. -/
def againOf : Item → Option Item
  | ⟨g, some d, .ld a n⟩ => some ⟨g, none, .again a n d⟩
  | ⟨g, some d, .slc e size x lo hi mx⟩ => some ⟨g, none, .againS e size x lo hi mx d⟩
  | ⟨g, d, .slcn t x lo hi mx⟩ => some ⟨g, none, .slcn t x lo hi mx⟩
  | _ => none
def againItem (P : Program) (ops : Array Oper) (i : Nat) : Option Item :=
  match compItem P ops i with
  | some x => againOf x
  | none => none
def agains (P : Program) (ops : Array Oper) : List Nat → Option (List Item)
  | [] => some []
  | i :: l => match againItem P ops i, agains P ops l with
    | some x, some l => some (x :: l)
    | _, _ => none
def itemsOf (P : Program) (ops : Array Oper) : List (Nat × List Nat) → Option (List Item)
  | [] => some []
  | (i, k) :: l => match compItem P ops i, agains P ops k, itemsOf P ops l with
    | some x, some a, some l => some (x :: (a ++ l))
    | _, _, _ => none

/-! What an operation reads. -/
def xsO : Option X → List X
  | some x => [x]
  | none => []
def opXs : COp → List X
  | .mov x | .nilc x | .un _ x | .conv _ _ x | .mini _ x | .tas x _ _ _ | .fa x _ | .fld x _ _ | .ext x _ | .len x | .cap x | .ld x _ => [x]
  | .pick c a b => [c, a, b]
  | .bin _ _ _ x y | .ixs _ x y | .ia x y _ | .iaa x y _ _ | .ix x y _ _ _ => [x, y]
  | .bi _ _ _ l => l
  | .fn _ p c => p ++ c
  | .slcn _ x lo hi mx | .slc _ _ x lo hi mx => x :: (xsO lo ++ xsO hi ++ xsO mx)
  | .build _ ps => ps.map (·.2.2)
  | _ => []
def xT : X → List Nat
  | .t i => [i]
  | .c _ => []
def oT : Operand → List Nat
  | .tmp t => [t]
  | _ => []
def gT (ops : Array Oper) (o : Oper) : List Nat :=
  match o.guard with
  | none => []
  | some (j, _) => match (ops[j]?).bind (·.dst) with
    | some t => [t]
    | none => []
/-- The temporaries that an operation looks at. -/
def readsT (P : Program) (ops : Array Oper) (o : Oper) : List Nat :=
  o.op.operands.toList.flatMap oT ++ (opXs (orBad (compOp P o))).flatMap xT ++ gT ops o
/-- One operation waits for another one, by an edge of its own. -/
def depOn (o : Oper) (i : Nat) : Bool := o.after.toList.any fun e => Nat.beq e.on i && Region.binds .any e
def memN (d : Nat) : List Nat → Bool
  | [] => false
  | x :: l => Nat.beq x d || memN d l
def writes (o : Oper) (d : Nat) : Bool := match o.dst with | some x => Nat.beq x d | none => false
/-- Each temporary has one writer; what looks at it waits for this one, or this one waits for it. -/
def tmpsOk (P : Program) (ops : Array Oper) (b : Array Nat) : Bool :=
  (List.range ops.size).all fun i => match ops[i]? with
    | some o' => (match o'.dst with
      | some d => (List.range ops.size).all fun j => match ops[j]? with
        | some o => (Nat.beq i j || !writes o d) && (!memN d (readsT P ops o) || depOn o i || (!isLook o.op && anc b i j))
        | none => true
      | none => true)
    | none => true

def compRegion (P : Program) (ops : Array Oper) (draw : Bool) : Option (List Item) :=
  match draw with
  | true => sel (tmpsOk P ops (Region.before ops) && P.follows .mixedOrders)
      (match sched ops (Region.before ops) ops.size (Array.replicate ops.size false) [] with
      | some l => itemsOf P ops l
      | none => none) none
  | false => itemsOf P ops ((List.range ops.size).map (·, []))

def itemsOr : Option (List Item) → CC
  | some l => .items l
  | none => .bad
def condOr (a b : CC) : Option X → CC
  | some x => .cond x a b
  | none => .bad
def rangeOr (ps : List Nat) (a b : CC) : Option X → CC
  | some x => .range x ps a b
  | none => .bad
def comp (P : Program) : Code → CC
  | .skip => .skip
  | .label _ => .skip
  | .ret => .ret
  | .exit id => .exit id
  | .goto l => .goto l
  | .seq a b => .seq (comp P a) (comp P b)
  | .cond c a b => condOr (comp P a) (comp P b) (cx c)
  | .block id b => .block id (comp P b)
  | .loop b => .loop (comp P b)
  | .scope b => .scope (comp P b)
  | .region _ ops draw => itemsOr (compRegion P ops draw)
  | .rangeFunc f ps assign body => rangeOr ps.toList (comp P assign) (comp P body) (cx f)
  | .refuse _ => .bad

inductive CRes where
  | tmp (t : Nat)
  | cell (a : Nat) (n : Option Nat)
structure CF where
  body : CC
  ntmps : Nat
  res : List CRes
def compRes (P : Program) : List ResultVar → Option (List CRes)
  | [] => some []
  | .tmp t :: l => (compRes P l).map (.tmp t :: ·)
  | .cell a t :: l => match aggOf P t, compRes P l with
    | some n, some l => some (.cell a n :: l)
    | _, _ => none
def compF (P : Program) (f : FuncId) : Option CF :=
  match P.funcs[f]? with
  | some fn => match fn.body with
    | some c => match compRes P fn.results.toList with
      | some r => sel (fn.name == "runtime.NumGoroutine") none (some ⟨comp P c, fn.ntmps, r⟩)
      | none => none
    | none => none
  | none => none

/-! ## Running it -/
def pureVal {α : Type} (P : Program) : Sem α → Option α
  | .pure a => some a
  | .program k => pureVal P (k P)
  | .mark _ k => pureVal P k
  | _ => none
/-- A value that hangs on no memory, made of such. -/
def flatR : Option Value → Option Value
  | some v => sel (flat v) (some v) none
  | none => none
def ev1 (P : Program) (f : Value → Sem Value) (x : Value) : Option Value := sel (flat x) (flatR (pureVal P (f x))) none
def nextV : Option Next → Option Value
  | some (.value v) => some v
  | _ => none
def evBi (P : Program) (b : Builtin) (ts : Array Nat) (t : Nat) (l : List Value) : Option Value :=
  sel (flatL l) (flatR (nextV (pureVal P (builtin b ts t #[] ⟨l⟩)))) none
def flatO : Option Value → Bool
  | none => true
  | some v => flat v
def evSlcn (P : Program) (t : Nat) (x : Value) (lo hi mx : Option Value) : Option Value :=
  sel (flat x && flatO lo && flatO hi && flatO mx) (flatR (pureVal P (Instr.slice t x lo hi mx))) none
def evIxs (P : Program) (t : Nat) (x i : Value) : Option Value := sel (flat x && flat i) (flatR (pureVal P (Instr.index t x i))) none

def kindEq : IntKind → IntKind → Bool
  | .i8, .i8 | .i16, .i16 | .i32, .i32 | .i64, .i64 | .u8, .u8 | .u16, .u16 | .u32, .u32 | .u64, .u64 => true
  | _, _ => false
def intEq : Int → Int → Bool
  | .ofNat a, .ofNat b => Nat.beq a b
  | .negSucc a, .negSucc b => Nat.beq a b
  | _, _ => false
def intLt : Int → Int → Bool
  | .ofNat a, .ofNat b => Nat.blt a b
  | .negSucc a, .negSucc b => Nat.blt b a
  | .negSucc _, .ofNat _ => true
  | .ofNat _, .negSucc _ => false
/-- The number itself, if it is an int64 as it is. -/
def fits : Int → Bool
  | .ofNat a => Nat.blt a 9223372036854775808
  | .negSucc a => Nat.blt a 9223372036854775808
def wrapq (k : IntKind) (n : Int) : Int :=
  match k with
  | .i64 => sel (fits n) n (IntKind.wrap .i64 n)
  | k => k.wrap n
def intBin (b : BinOp) (k : IntKind) (x y : Int) : Option Value :=
  match b with
  | .add => some (.int k (wrapq k (x + y)))
  | .sub => some (.int k (wrapq k (x - y)))
  | .mul => some (.int k (wrapq k (x * y)))
  | .eql => some (.bool (intEq x y))
  | .neq => some (.bool (!intEq x y))
  | .lss => some (.bool (intLt x y))
  | .leq => some (.bool (!intLt y x))
  | .gtr => some (.bool (intLt y x))
  | .geq => some (.bool (!intLt x y))
  | .quo => sel (intEq y 0) none (some (.int k (wrapq k (x.tdiv y))))
  | .rem => sel (intEq y 0) none (some (.int k (x.tmod y)))
  | _ => none

/-- Something against nil. -/
def nilCmp (d : Nat) (x y : Value) : Bool :=
  match d, x, y with
  | 1, .slice none _ _, .slice (some _) _ _ | 1, .slice (some _) _ _, .slice none _ _
  | 2, .pointer none, .pointer (some _) | 2, .pointer (some _), .pointer none
  | 3, .nilFunc, .func _ _ _ | 3, .func _ _ _, .nilFunc
  | 4, .nilIface, .iface _ _ | 4, .iface _ _, .nilIface => true
  | _, _, _ => false
def evNil (b : BinOp) : Option Value :=
  match b with
  | .eql => some (.bool false)
  | .neq => some (.bool true)
  | _ => none
/-- No test on whether two nil interface values may be compared is made for it. -/
def noGuard (d : Nat) : Value → Bool
  | .nilIface => false
  | .agg _ => Nat.beq d 5
  | _ => true
def evBin2 (P : Program) (b : BinOp) (t d : Nat) (x y : Value) : Option Value :=
  sel (flat x && flat y && noGuard d x) (flatR (pureVal P (binOp b t x y))) none
def orElse (x y : Option Value) : Option Value := match x with | some v => some v | none => y
def evBin (P : Program) (b : BinOp) (t d : Nat) (x y : Value) : Option Value :=
  match x, y with
  | .int k m, .int k' n => sel (kindEq k k') (orElse (intBin b k m n) (evBin2 P b t d (.int k m) (.int k' n))) (evBin2 P b t d (.int k m) (.int k' n))
  | x, y => sel (nilCmp d x y) (evNil b) (evBin2 P b t d x y)

def natOf : Value → Option Nat
  | .int _ (.ofNat n) => some n
  | _ => none
def bnd (d : Nat) : Option Value → Option Nat
  | none => some d
  | some v => natOf v

def evNilc : Value → Option Value
  | .pointer (some a) => some (.pointer (some a))
  | .func (.func f) p c => some (.func (.func f) p c)
  | _ => none
def evCap : Value → Option Value
  | .slice _ _ c => sel (Nat.ble OPEN c) none (some (.int .i64 c))
  | _ => none
/-- A slicing, its bounds at hand. -/
def evSlcAt (b off len cap : Nat) (size l h : Nat) (m : Option Nat) : Option Value :=
  match m with
  | none => sel (Nat.ble l h) (some (.slice (some ⟨b, sel (Nat.beq cap l) off (off + l * size), none⟩) (h - l) (cap - l))) none
  | some m => sel (Nat.ble l h && Nat.ble h m && Nat.ble m cap) (some (.slice (some ⟨b, sel (Nat.beq m l) off (off + l * size), none⟩) (h - l) (m - l))) none
/-- The same of a row that came of an append, j elements of which lie ahead; k cells of it are known. -/
def evSlcOpen (b size l h k j : Nat) (m : Option Nat) : Option Value :=
  match m with
  | none => sel (Nat.ble l h && Nat.ble ((j + h) * size) k) (some (.slice (some ⟨b, (j + l) * size, none⟩) (h - l) (OPEN + (j + l)))) none
  | some m => sel (Nat.ble l h && Nat.ble h m && Nat.blt m OPEN && Nat.ble ((j + m) * size) k) (some (.slice (some ⟨b, sel (Nat.beq m l) (j * size) ((j + l) * size), none⟩) (h - l) (m - l))) none
def evMx : Option Value → Option (Option Nat)
  | none => some none
  | some v => (natOf v).map some
def evSlc (row : Nat → Option (Nat × Nat × Bool)) (e size : Nat) (x : Value) (lo hi mx : Option Value) : Option Value :=
  match x with
  | .slice (some ⟨b, off, none⟩) len cap => match bnd 0 lo, bnd len hi, evMx mx with
    | some l, some h, some m =>
      sel (Nat.ble OPEN cap)
        (match row b with
        | some (k, e', op) => sel (op && Nat.beq e e' && Nat.beq off ((cap - OPEN) * size) && !Nat.beq size 0 && (Nat.beq cap OPEN || !Nat.beq len 0)) (evSlcOpen b size l h k (cap - OPEN) m) none
        | none => none)
        (sel (Nat.ble h cap) (evSlcAt b off len cap size l h m) none)
    | _, _, _ => none
  | .slice none 0 0 => match bnd 0 lo, bnd 0 hi, evMx mx with
    | some 0, some 0, some none => some (.slice none 0 0)
    | some 0, some 0, some (some 0) => some (.slice none 0 0)
    | _, _, _ => none
  | _ => none
/-! Equality of values. -/
mutual
def eqV : Value → Value → Bool
  | .bool a, .bool b => match a, b with | true, true | false, false => true | _, _ => false
  | .int k a, .int k' b => kindEq k k' && intEq a b
  | .string a, .string b => decide (a = b)
  | .pointer none, .pointer none => true
  | .pointer (some ⟨a, o, none⟩), .pointer (some ⟨b, o', none⟩) => Nat.beq a b && Nat.beq o o'
  | .slice none l c, .slice none l' c' => Nat.beq l l' && Nat.beq c c'
  | .slice (some ⟨a, o, none⟩) l c, .slice (some ⟨b, o', none⟩) l' c' => Nat.beq a b && Nat.beq o o' && Nat.beq l l' && Nat.beq c c'
  | .func (.func f) p c, .func (.func f') p' c' => Nat.beq f f' && eqA p p' && eqA c c'
  | .func (.yield f) p c, .func (.yield f') p' c' => Nat.beq f f' && eqA p p' && eqA c c'
  | .nilFunc, .nilFunc => true
  | .nilIface, .nilIface => true
  | .iface t v, .iface t' v' => Nat.beq t t' && eqV v v'
  | .agg a, .agg b => eqA a b
  | .tuple a, .tuple b => eqA a b
  | _, _ => false
def eqA : Array Value → Array Value → Bool
  | ⟨a⟩, ⟨b⟩ => eqL a b
def eqL : List Value → List Value → Bool
  | [], [] => true
  | a :: x, b :: y => eqV a b && eqL x y
  | _, _ => false
end

def undefs : Nat → List Value
  | 0 => []
  | n + 1 => undef :: undefs n
def full (n : Nat) : BT Value := BT.ofList (undefs n)
/-- A table of turned functions. -/
def tabOf (t : BT (Option CF)) (f : Nat) : Option CF := match t.get f with | some c => c | none => none
end Go.Proofs.YtcpebhdbpkhhiaaGreat.Ev
