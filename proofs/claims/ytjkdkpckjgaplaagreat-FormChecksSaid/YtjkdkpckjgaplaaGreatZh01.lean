import Derived.RangeFuncLeaves
import Derived.RangeFuncIn
import Derived.OrdersIn
import Derived.Below
import Derived.KernelRfl
set_option linter.unusedVariables false
set_option linter.unusedSimpArgs false
namespace Go.Proofs.YtjkdkpckjgaplaaGreat
theorem oM {p : Prop} (h : p := by omega) : p := h
theorem dE {p : Prop} (h : p := by decide) : p := h
theorem aM {p : Prop} (h : p := by assumption) : p := h
theorem sM {p : Prop} (h : p := by simp) : p := h
theorem kR {p : Prop} (h : p := by kernel_rfl) : p := h
theorem sR {α : Type _} {l a b : List α} (h : l.Sublist b) : l.Sublist (a ++ b) := List.sublist_append_of_sublist_right h
theorem sA {α : Type _} {a b : List α} : a.Sublist (a ++ b) := List.sublist_append_left _ _
end Go.Proofs.YtjkdkpckjgaplaaGreat
namespace Go.Proofs.YtjkdkpckjgaplaaGreat.Ev
theorem _root_.List.Sublist.q {α : Type _} {a b : List α} {x : α} (h : a.Sublist b) : (x :: a).Sublist (x :: b) := .cons_cons x h
theorem _root_.List.Sublist.r {α : Type _} {l a b : List α} (h : a.Sublist b) : (l ++ a).Sublist (l ++ b) := (List.Sublist.refl l).append h
theorem J {α : Sort _} {a : α} : a = a := rfl
open Go
/-! Trees by number. -/
inductive BT (α : Type) where
 | leaf
 | node (a : α) (l r : BT α)
def sel {α : Type} (b : Bool) (x y : α) : α := match b with | true => x | false => y
def BT.get {α : Type} : BT α -> Nat -> Option α
 | .leaf, _ => none
 | .node a l r, n => if n = 0 then some a else if n % 2 = 1 then l.get (n / 2) else r.get (n / 2 - 1)
def BT.add {α : Type} : BT α -> Nat -> α -> BT α
 | .leaf, n, v => if n = 0 then .node v .leaf .leaf else .leaf
 | .node a l r, n, v => if n = 0 then .node a l r else if n % 2 = 1 then .node a (l.add (n / 2) v) r else .node a l (r.add (n / 2 - 1) v)
def BT.adds {α : Type} : BT α -> Nat -> List α -> BT α
 | t, _, [] => t
 | t, n, v :: l => (t.add n v).adds (n + 1) l
def BT.ofList {α : Type} (l : List α) : BT α := BT.adds .leaf 0 l
inductive fT where
 | normal | ret | exit (id : Nat) | goto (l : Nat)
inductive X where
 | t (i : Nat)
 | c (v : Value)
inductive COp where
 | mov (x : X)
 | pick (c a b : X)
 | new (e n : Nat) (z : BT Value)
 | box (e : Nat) (x : X)
 | build (z : List Value) (ps : List (Nat × Nat × X))
 | lit (e len n : Nat) (z : List Value) (ps : List (Nat × Nat × X))
 | ld (a : X) (n : Option Nat)
 | st (a x : X) (n : Option Nat)
 | nilc (x : X)
 | bin (b : BinOp) (t d : Nat) (x y : X)
 | un (u : UnOp) (x : X)
 | conv (a b : Nat) (x : X)
 | mini (t : Nat) (x : X)
 | tas (x : X) (a b : Nat) (ok : Bool)
 | bi (b : Builtin) (ts : Array Nat) (t : Nat) (l : List X)
 | ixs (t : Nat) (x i : X)
 | fn (f : Nat) (p c : List X)
 | mks (e size bytes : Nat) (z : List Value) (l c : X)
 | slc (e size : Nat) (x : X) (lo hi mx : Option X)
 | slcn (t : Nat) (x : X) (lo hi mx : Option X)
 | fa (x : X) (off : Nat)
 | fld (x : X) (off : Nat) (n : Option Nat)
 | ia (x i : X) (size : Nat)
 | iaa (x i : X) (len size : Nat)
 | ix (x i : X) (len size : Nat) (n : Option Nat)
 | ext (x : X) (i : Nat)
 | len (x : X)
 | cap (x : X)
 | app (e size bytes : Nat) (z : List Value) (ints : Bool) (x y : X)
 | copy (size : Nat) (x y : X)
 | clear (size : Nat) (z : List Value) (x : X)
 | again (a : X) (n : Option Nat) (d : Nat)
 | againS (e size : Nat) (x : X) (lo hi mx : Option X) (d : Nat)
 | mkmap
 | ins (m x v : X)
 | look (m x : X) (z : Value) (ok : Bool)
 | call (f : X) (args : List X)
 | bad
structure Item where
 g : Option (Nat × Bool)
 d : Option Nat
 op : COp
inductive CC where
 | skip | ret
 | exit (id : Nat)
 | goto (l : Nat)
 | seq (a b : CC)
 | cond (x : X) (a b : CC)
 | block (id : Nat) (b : CC)
 | loop (b : CC)
 | scope (b : CC)
 | items (l : List Item)
 | range (f : X) (ps : List Nat) (assign body : CC)
 | bad
inductive dK where
 | dead
 | cells (n : Nat) (c : BT Value) (e : Nat) (op : Bool)
 | loop (s : LoopState) (pend : fT) (T : BT Value) (ps : List Nat) (assign body : CC) (q : Nat)
 | deferred (d : Bool)
 | imap (es : List (Int × Value))
 | rom (g : Nat -> Option Value)
structure St where
 h : BT dK
 n : Nat
def OPEN : Nat := 18446744073709551616
/-! Values without addresses. -/
mutual
def flat : Value -> Bool
 | .bool _ | .int _ _ | .float _ _ | .complex _ _ _ | .string _ | .nilFunc | .nilIface => true
 | .pointer none | .map none | .chan none => true
 | .slice none _ c => Nat.blt c OPEN
 | .pointer (some _) | .slice (some _) _ _ | .map (some _) | .chan (some _) => false
 | .func fn first captured => (match fn with | .func _ => true | _ => false) && flatA first && flatA captured
 | .iface _ v => flat v
 | .agg cs => flatA cs
 | .tuple vs => flatA vs
def flatA : Array Value -> Bool
 | ⟨l⟩ => flatL l
def flatL : List Value -> Bool
 | [] => true
 | v :: l => flat v && flatL l
end
/-! ## Turning the program's code -/
def cx : Operand -> Option X
 | .tmp t => some (.t t)
 | .const v => sel (flat v) (some (.c v)) none
 | .func f => some (.c (.func (.func f) #[] #[]))
 | .global _ => none
def cxs : List Operand -> Option (List X)
 | [] => some []
 | x :: l => match cx x, cxs l with
  | some x, some l => some (x :: l)
  | _, _ => none
def cxo : Option Operand -> Option (Option X)
 | none => some none
 | some x => (cx x).map some
def cparts (place : Nat -> Option (Nat × Nat)) : List (Nat × Operand) -> Option (List (Nat × Nat × X))
 | [] => some []
 | (i, x) :: l => match place i, cx x, cparts place l with
  | some (o, n), some x, some l => some ((o, n, x) :: l)
  | _, _, _ => none
def oneCell : Value -> Bool
 | .agg _ | .tuple _ => false
 | _ => true
def zeroOf (P : Program) (t : TypeId) : Option (Array Value) :=
 match P.info? t with
 | some i => match i.zero with
  | some v => sel (flatA v.cells && v.cells.toList.all oneCell) (some v.cells) none
  | none => none
 | none => none
def aggOf (P : Program) (t : TypeId) : Option (Option Nat) :=
 match P.underlying t, P.info? t with
 | some (.struct _), some i | some (.array _ _), some i => some (some i.size)
 | some _, some _ => some none
 | _, _ => none
def repeatN (z : List Value) : Nat -> List Value
 | 0 => []
 | n + 1 => z ++ repeatN z n
def placesOf (P : Program) (fs : Array Field) (i : Nat) : Option (Nat × Nat) :=
 match fs[i]? with
 | some f => match P.info? f.type with
  | some inf => some (f.offset, inf.size)
  | none => none
 | none => none
def inN (n : Nat) : List (Nat × Nat × X) -> Bool
 | [] => true
 | (o, k, _) :: l => Nat.ble (o + k) n && inN n l
def nilKind (P : Program) (t : TypeId) : Nat :=
 match P.underlying t with
 | some (.slice _) => 1
 | some (.pointer _) => 2
 | some (.func _ _ _) => 3
 | some (.interface _) => 4
 | some (.struct _) | some (.array _ _) => sel (P.eqGuardType P.depth t) 0 5
 | _ => 0
def compOp (P : Program) (o : Oper) : Option COp :=
 match o.op with
 | .move x | .assign x => (cx x).map .mov
 | .pick c a b => match cx c, cx a, cx b with
  | some c, some a, some b => some (.pick c a b)
  | _, _, _ => none
 | .alloc elem => (zeroOf P elem).map fun z => .new elem z.size (.ofList z.toList)
 | .box elem x => (cx x).map (.box elem)
 | .build t parts => match zeroOf P t, P.underlying t with
  | some z, some (.struct fs) => match cparts (placesOf P fs) parts.toList with
   | some ps => sel (inN z.size ps && fs.toList.all (fun f => (P.info? f.type).isSome)) (some (.build z.toList ps)) none
   | none => none
  | some z, some (.array _ e) => match P.info? e with
   | some i => match cparts (fun k => some (k * i.size, i.size)) parts.toList with
    | some ps => sel (inN z.size ps) (some (.build z.toList ps)) none
    | none => none
   | none => none
  | _, _ => none
 | .buildSlice t len parts => match P.underlying t with
  | some (.slice e) => match P.info? e, zeroOf P e with
   | some i, some z => match cparts (fun k => some (k * i.size, i.size)) parts.toList with
    | some ps => sel (inN (len * i.size) ps && Nat.beq z.size i.size && Nat.ble (len * i.size) 65536 && Nat.ble len 65536) (some (.lit e len (len * i.size) (repeatN z.toList len) ps)) none
    | none => none
   | _, _ => none
  | _ => none
 | .load t a => match aggOf P t, cx a with
  | some n, some a => some (.ld a n)
  | _, _ => none
 | .store t a x => match aggOf P t, P.info? t, cx a, cx x with
  | some n, some i, some a, some x => sel (match n with | none => Nat.beq i.size 1 | some _ => true) (some (.st a x n)) none
  | _, _, _, _ => none
 | .nilCheck x => (cx x).map .nilc
 | .binOp b t x y _ => match cx x, cx y with
  | some x, some y => some (.bin b t (nilKind P t) x y)
  | _, _ => none
 | .makeFunc (.func f) p c => match cxs p.toList, cxs c.toList with
  | some p, some c => some (.fn f p c)
  | _, _ => none
 | .makeSlice t l c => match P.underlying t, cx l, cx c with
  | some (.slice e), some l, some c => match P.info? e, zeroOf P e with
   | some i, some z => sel (Nat.beq z.size i.size) (some (.mks e i.size i.bytes z.toList l c)) none
   | _, _ => none
  | _, _, _ => none
 | .slice t x lo hi mx => match P.underlying t, cx x, cxo lo, cxo hi, cxo mx with
  | some (.slice e), some x, some lo, some hi, some mx => match P.info? e with
   | some i => sel (mx.isNone || hi.isSome) (some (.slc e i.size x lo hi mx)) none
   | none => none
  | some .string, some x, some lo, some hi, some mx => some (.slcn t x lo hi mx)
  | _, _, _, _, _ => none
 | .fieldAddr t x f => match P.underlying t, cx x with
  | some (.struct fs), some x => match fs[f]? with
   | some fd => match P.info? fd.type with
    | some i => sel (Nat.beq i.size 0) none (some (.fa x fd.offset))
    | none => none
   | none => none
  | _, _ => none
 | .field t x f => match P.underlying t, cx x with
  | some (.struct fs), some x => match fs[f]? with
   | some fd => (aggOf P fd.type).map (.fld x fd.offset)
   | none => none
  | _, _ => none
 | .indexAddr t x i => match P.underlying t, cx x, cx i with
  | some (.slice e), some x, some i => (P.info? e).map fun inf => .ia x i inf.size
  | some (.array n e), some x, some i => (P.info? e).map fun inf => .iaa x i n inf.size
  | _, _, _ => none
 | .index t x i => match P.underlying t, cx x, cx i with
  | some (.array n e), some x, some i => match P.info? e, aggOf P e with
   | some inf, some k => some (.ix x i n inf.size k)
   | _, _ => none
  | some .string, some x, some i => some (.ixs t x i)
  | _, _, _ => none
 | .extract t i => (cx t).map (.ext · i)
 | .call { callee := .value f, args, .. } => match cx f, cxs args.toList with
  | some f, some l => some (.call f l)
  | _, _ => none
 | .call { callee := .builtin b, args, argTypes } =>
  match b, args.toList with
  | .len, [x] => match (argTypes[0]?).bind P.underlying with
   | some (.slice _) => (cx x).map .len
   | some .string => (cx x).map fun x => .bi .len argTypes o.type [x]
   | _ => none
  | .cap, [x] => match (argTypes[0]?).bind P.underlying with
   | some (.slice _) => (cx x).map .cap
   | _ => none
  | .append, [x, y] => match (argTypes[0]?).bind P.underlying, (argTypes[1]?).bind P.underlying, cx x, cx y with
   | some (.slice e), some d, some x, some y => match P.info? e, zeroOf P e with
    | some i, some z => sel (Nat.beq z.size i.size && !Nat.beq i.size 0)
     (match d with
     | .int _ => some (.app e i.size i.bytes z.toList true x y)
     | .slice _ => some (.app e i.size i.bytes z.toList false x y)
     | _ => none) none
    | _, _ => none
   | _, _, _, _ => none
  | .copy, [x, y] => match (argTypes[0]?).bind P.underlying, cx x, cx y with
   | some (.slice e), some x, some y => (P.info? e).map fun i => .copy i.size x y
   | _, _, _ => none
  | .clear, [x] => match (argTypes[0]?).bind P.underlying, cx x with
   | some (.slice e), some x => match P.info? e, zeroOf P e with
    | some i, some z => sel (Nat.beq z.size i.size) (some (.clear i.size z.toList x)) none
    | _, _ => none
   | _, _ => none
  | .max, l => (cxs l).map (.bi .max argTypes o.type)
  | .min, l => (cxs l).map (.bi .min argTypes o.type)
  | _, _ => none
 | .unOp u _ x => (cx x).map (.un u)
 | .convert a b x => (cx x).map (.conv a b)
 | .makeInterface t x => (cx x).map (.mini t)
 | .typeAssert x a b ok => (cx x).map (.tas · a b ok)
 | .makeMap _ none => some .mkmap
 | .insert t m x v => match P.underlying t, cx m, cx x, cx v with
  | some (.map q _), some m, some x, some v => match P.underlying q with
   | some (.int _) => some (.ins m x v)
   | _ => none
  | _, _, _, _ => none
 | .lookup t m x ok => match P.underlying t, cx m, cx x with
  | some (.map q e), some m, some x => match P.underlying q, P.info? e with
   | some (.int _), some i => match i.zero with
    | some z => sel (flat z) (some (.look m x z ok)) none
    | none => none
   | _, _ => none
  | _, _, _ => none
 | _ => none
def calm : Op -> Bool
 | .move _ | .assign _ | .pick .. | .alloc _ | .box .. | .build .. | .buildSlice .. | .load .. | .nilCheck _ | .binOp .. | .unOp .. | .convert .. | .makeFunc ..
 | .makeSlice .. | .slice .. | .fieldAddr .. | .field .. | .indexAddr .. | .index .. | .extract .. | .makeInterface .. | .typeAssert .. => true
 | .call { callee := .builtin b, .. } => match b with | .len | .cap | .min | .max => true | _ => false
 | _ => false
def isLook : Op -> Bool
 | .load .. | .slice .. => true
 | _ => false
def anc (b : Array Nat) (j i : Nat) : Bool := (b.getD j 0).testBit i
def pickCalm (ops : Array Oper) : List Nat -> Option Nat
 | [] => none
 | i :: l => sel (match ops[i]? with | some o => calm o.op | none => false) (some i) (pickCalm ops l)
def sched (ops : Array Oper) (b : Array Nat) : Nat -> Array Bool -> List Nat -> Option (List (Nat × List Nat))
 | 0, listed, _ => match Region.ready .any ops listed with
  | [] => some []
  | _ => none
 | fuel + 1, listed, lds => match Region.ready .any ops listed with
  | [] => some []
  | i :: rs => match pickCalm ops (i :: rs) with
   | some j => match sched ops b fuel (listed.setIfInBounds j true) (sel (match ops[j]? with | some o => isLook o.op | none => false) (j :: lds) lds) with
    | some l => some ((j, []) :: l)
    | none => none
   | none => match rs with
    | [] => match sched ops b fuel (listed.setIfInBounds i true) lds with
     | some l => some ((i, lds.filter fun k => !anc b i k) :: l)
     | none => none
    | _ => none
def orBad : Option COp -> COp
 | some c => c
 | none => .bad
def compItem (P : Program) (ops : Array Oper) (i : Nat) : Option Item :=
 match ops[i]? with
 | some o => match o.guard with
  | none => some ⟨none, o.dst, orBad (compOp P o)⟩
  | some (j, w) => match (ops[j]?).bind (·.dst) with
   | some t => some ⟨some (t, w), o.dst, orBad (compOp P o)⟩
   | none => none
 | none => none
def againOf : Item -> Option Item
 | ⟨g, some d, .ld a n⟩ => some ⟨g, none, .again a n d⟩
 | ⟨g, some d, .slc e size x lo hi mx⟩ => some ⟨g, none, .againS e size x lo hi mx d⟩
 | ⟨g, d, .slcn t x lo hi mx⟩ => some ⟨g, none, .slcn t x lo hi mx⟩
 | _ => none
def againItem (P : Program) (ops : Array Oper) (i : Nat) : Option Item :=
 match compItem P ops i with
 | some x => againOf x
 | none => none
def agains (P : Program) (ops : Array Oper) : List Nat -> Option (List Item)
 | [] => some []
 | i :: l => match againItem P ops i, agains P ops l with
  | some x, some l => some (x :: l)
  | _, _ => none
def itemsOf (P : Program) (ops : Array Oper) : List (Nat × List Nat) -> Option (List Item)
 | [] => some []
 | (i, k) :: l => match compItem P ops i, agains P ops k, itemsOf P ops l with
  | some x, some a, some l => some (x :: (a ++ l))
  | _, _, _ => none
/-! What an operation reads. -/
def xsO : Option X -> List X
 | some x => [x]
 | none => []
def opXs : COp -> List X
 | .mov x | .nilc x | .un _ x | .conv _ _ x | .mini _ x | .tas x _ _ _ | .fa x _ | .fld x _ _ | .ext x _ | .len x | .cap x | .ld x _ => [x]
 | .pick c a b => [c, a, b]
 | .bin _ _ _ x y | .ixs _ x y | .ia x y _ | .iaa x y _ _ | .ix x y _ _ _ => [x, y]
 | .bi _ _ _ l => l
 | .fn _ p c => p ++ c
 | .slcn _ x lo hi mx | .slc _ _ x lo hi mx => x :: (xsO lo ++ xsO hi ++ xsO mx)
 | .build _ ps => ps.map (·.2.2)
 | _ => []
def xT : X -> List Nat
 | .t i => [i]
 | .c _ => []
def oT : Operand -> List Nat
 | .tmp t => [t]
 | _ => []
def gT (ops : Array Oper) (o : Oper) : List Nat :=
 match o.guard with
 | none => []
 | some (j, _) => match (ops[j]?).bind (·.dst) with
  | some t => [t]
  | none => []
def readsT (P : Program) (ops : Array Oper) (o : Oper) : List Nat :=
 o.op.operands.toList.flatMap oT ++ (opXs (orBad (compOp P o))).flatMap xT ++ gT ops o
def depOn (o : Oper) (i : Nat) : Bool := o.after.toList.any fun e => Nat.beq e.on i && Region.binds .any e
def memN (d : Nat) : List Nat -> Bool
 | [] => false
 | x :: l => Nat.beq x d || memN d l
def writes (o : Oper) (d : Nat) : Bool := match o.dst with | some x => Nat.beq x d | none => false
def tmpsOk (P : Program) (ops : Array Oper) (b : Array Nat) : Bool :=
 (List.range ops.size).all fun i => match ops[i]? with
  | some o' => (match o'.dst with
   | some d => (List.range ops.size).all fun j => match ops[j]? with
    | some o => (Nat.beq i j || !writes o d) && (!memN d (readsT P ops o) || depOn o i || (!isLook o.op && anc b i j))
    | none => true
   | none => true)
  | none => true
def compRegion (P : Program) (ops : Array Oper) (draw : Bool) : Option (List Item) :=
 match draw with
 | true => sel (tmpsOk P ops (Region.before ops) && P.follows .mixedOrders)
  (match sched ops (Region.before ops) ops.size (Array.replicate ops.size false) [] with
  | some l => itemsOf P ops l
  | none => none) none
 | false => itemsOf P ops ((List.range ops.size).map (·, []))
def itemsOr : Option (List Item) -> CC
 | some l => .items l
 | none => .bad
def condOr (a b : CC) : Option X -> CC
 | some x => .cond x a b
 | none => .bad
def rangeOr (ps : List Nat) (a b : CC) : Option X -> CC
 | some x => .range x ps a b
 | none => .bad
def comp (P : Program) : Code -> CC
 | .skip => .skip
 | .label _ => .skip
 | .ret => .ret
 | .exit id => .exit id
 | .goto l => .goto l
 | .seq a b => .seq (comp P a) (comp P b)
 | .cond c a b => condOr (comp P a) (comp P b) (cx c)
 | .block id b => .block id (comp P b)
 | .loop b => .loop (comp P b)
 | .scope b => .scope (comp P b)
 | .region _ ops draw => itemsOr (compRegion P ops draw)
 | .rangeFunc f ps assign body => rangeOr ps.toList (comp P assign) (comp P body) (cx f)
 | .refuse _ => .bad
inductive CRes where
 | tmp (t : Nat)
 | cell (a : Nat) (n : Option Nat)
structure CF where
 body : CC
 ntmps : Nat
 res : List CRes
def compRes (P : Program) : List ResultVar -> Option (List CRes)
 | [] => some []
 | .tmp t :: l => (compRes P l).map (.tmp t :: ·)
 | .cell a t :: l => match aggOf P t, compRes P l with
  | some n, some l => some (.cell a n :: l)
  | _, _ => none
def compF (P : Program) (f : FuncId) : Option CF :=
 match P.funcs[f]? with
 | some fn => match fn.body with
  | some c => match compRes P fn.results.toList with
   | some r => sel (fn.name == "runtime.NumGoroutine") none (some ⟨comp P c, fn.ntmps, r⟩)
   | none => none
  | none => none
 | none => none
/-! ## Running it -/
def pureVal {α : Type} (P : Program) : Sem α -> Option α
 | .pure a => some a
 | .program k => pureVal P (k P)
 | .mark _ k => pureVal P k
 | _ => none
def flatR : Option Value -> Option Value
 | some v => sel (flat v) (some v) none
 | none => none
def ev1 (P : Program) (f : Value -> Sem Value) (x : Value) : Option Value := sel (flat x) (flatR (pureVal P (f x))) none
def nextV : Option Next -> Option Value
 | some (.value v) => some v
 | _ => none
def evBi (P : Program) (b : Builtin) (ts : Array Nat) (t : Nat) (l : List Value) : Option Value :=
 sel (flatL l) (flatR (nextV (pureVal P (builtin b ts t #[] ⟨l⟩)))) none
def flatO : Option Value -> Bool
 | none => true
 | some v => flat v
def evSlcn (P : Program) (t : Nat) (x : Value) (lo hi mx : Option Value) : Option Value :=
 sel (flat x && flatO lo && flatO hi && flatO mx) (flatR (pureVal P (Instr.slice t x lo hi mx))) none
def evIxs (P : Program) (t : Nat) (x i : Value) : Option Value := sel (flat x && flat i) (flatR (pureVal P (Instr.index t x i))) none
def kindEq : IntKind -> IntKind -> Bool
 | .i8, .i8 | .i16, .i16 | .i32, .i32 | .i64, .i64 | .u8, .u8 | .u16, .u16 | .u32, .u32 | .u64, .u64 => true
 | _, _ => false
def intEq : Int -> Int -> Bool
 | .ofNat a, .ofNat b => Nat.beq a b
 | .negSucc a, .negSucc b => Nat.beq a b
 | _, _ => false
def intLt : Int -> Int -> Bool
 | .ofNat a, .ofNat b => Nat.blt a b
 | .negSucc a, .negSucc b => Nat.blt b a
 | .negSucc _, .ofNat _ => true
 | .ofNat _, .negSucc _ => false
def fits : Int -> Bool
 | .ofNat a => Nat.blt a 9223372036854775808
 | .negSucc a => Nat.blt a 9223372036854775808
def wrapq (k : IntKind) (n : Int) : Int :=
 match k with
 | .i64 => sel (fits n) n (IntKind.wrap .i64 n)
 | k => k.wrap n
def intBin (b : BinOp) (k : IntKind) (x y : Int) : Option Value :=
 match b with
 | .add => some (.int k (wrapq k (x + y)))
 | .sub => some (.int k (wrapq k (x - y)))
 | .mul => some (.int k (wrapq k (x * y)))
 | .eql => some (.bool (intEq x y))
 | .neq => some (.bool (!intEq x y))
 | .lss => some (.bool (intLt x y))
 | .leq => some (.bool (!intLt y x))
 | .gtr => some (.bool (intLt y x))
 | .geq => some (.bool (!intLt x y))
 | .quo => sel (intEq y 0) none (some (.int k (wrapq k (x.tdiv y))))
 | .rem => sel (intEq y 0) none (some (.int k (x.tmod y)))
 | _ => none
def nilCmp (d : Nat) (x y : Value) : Bool :=
 match d, x, y with
 | 1, .slice none _ _, .slice (some _) _ _ | 1, .slice (some _) _ _, .slice none _ _
 | 2, .pointer none, .pointer (some _) | 2, .pointer (some _), .pointer none
 | 3, .nilFunc, .func _ _ _ | 3, .func _ _ _, .nilFunc
 | 4, .nilIface, .iface _ _ | 4, .iface _ _, .nilIface => true
 | _, _, _ => false
def evNil (b : BinOp) : Option Value :=
 match b with
 | .eql => some (.bool false)
 | .neq => some (.bool true)
 | _ => none
def noGuard (d : Nat) : Value -> Bool
 | .nilIface => false
 | .agg _ => Nat.beq d 5
 | _ => true
def evBin2 (P : Program) (b : BinOp) (t d : Nat) (x y : Value) : Option Value :=
 sel (flat x && flat y && noGuard d x) (flatR (pureVal P (binOp b t x y))) none
def orElse (x y : Option Value) : Option Value := match x with | some v => some v | none => y
def evBin (P : Program) (b : BinOp) (t d : Nat) (x y : Value) : Option Value :=
 match x, y with
 | .int k m, .int k' n => sel (kindEq k k') (orElse (intBin b k m n) (evBin2 P b t d (.int k m) (.int k' n))) (evBin2 P b t d (.int k m) (.int k' n))
 | x, y => sel (nilCmp d x y) (evNil b) (evBin2 P b t d x y)
def natOf : Value -> Option Nat
 | .int _ (.ofNat n) => some n
 | _ => none
def bnd (d : Nat) : Option Value -> Option Nat
 | none => some d
 | some v => natOf v
def evNilc : Value -> Option Value
 | .pointer (some a) => some (.pointer (some a))
 | .func (.func f) p c => some (.func (.func f) p c)
 | _ => none
def evCap : Value -> Option Value
 | .slice _ _ c => sel (Nat.ble OPEN c) none (some (.int .i64 c))
 | _ => none
def evSlcAt (b off len cap : Nat) (size l h : Nat) (m : Option Nat) : Option Value :=
 match m with
 | none => sel (Nat.ble l h) (some (.slice (some ⟨b, sel (Nat.beq cap l) off (off + l * size), none⟩) (h - l) (cap - l))) none
 | some m => sel (Nat.ble l h && Nat.ble h m && Nat.ble m cap) (some (.slice (some ⟨b, sel (Nat.beq m l) off (off + l * size), none⟩) (h - l) (m - l))) none
def evSlcOpen (b size l h k j : Nat) (m : Option Nat) : Option Value :=
 match m with
 | none => sel (Nat.ble l h && Nat.ble ((j + h) * size) k) (some (.slice (some ⟨b, (j + l) * size, none⟩) (h - l) (OPEN + (j + l)))) none
 | some m => sel (Nat.ble l h && Nat.ble h m && Nat.blt m OPEN && Nat.ble ((j + m) * size) k) (some (.slice (some ⟨b, sel (Nat.beq m l) (j * size) ((j + l) * size), none⟩) (h - l) (m - l))) none
def evMx : Option Value -> Option (Option Nat)
 | none => some none
 | some v => (natOf v).map some
def evSlc (row : Nat -> Option (Nat × Nat × Bool)) (e size : Nat) (x : Value) (lo hi mx : Option Value) : Option Value :=
 match x with
 | .slice (some ⟨b, off, none⟩) len cap => match bnd 0 lo, bnd len hi, evMx mx with
  | some l, some h, some m =>
   sel (Nat.ble OPEN cap)
    (match row b with
    | some (k, e', op) => sel (op && Nat.beq e e' && Nat.beq off ((cap - OPEN) * size) && !Nat.beq size 0 && (Nat.beq cap OPEN || !Nat.beq len 0)) (evSlcOpen b size l h k (cap - OPEN) m) none
    | none => none)
    (sel (Nat.ble h cap) (evSlcAt b off len cap size l h m) none)
  | _, _, _ => none
 | .slice none 0 0 => match bnd 0 lo, bnd 0 hi, evMx mx with
  | some 0, some 0, some none => some (.slice none 0 0)
  | some 0, some 0, some (some 0) => some (.slice none 0 0)
  | _, _, _ => none
 | _ => none
/-! Equality of values. -/
mutual
def eqV : Value -> Value -> Bool
 | .bool a, .bool b => match a, b with | true, true | false, false => true | _, _ => false
 | .int k a, .int k' b => kindEq k k' && intEq a b
 | .string a, .string b => decide (a = b)
 | .pointer none, .pointer none => true
 | .pointer (some ⟨a, o, none⟩), .pointer (some ⟨b, o', none⟩) => Nat.beq a b && Nat.beq o o'
 | .slice none l c, .slice none l' c' => Nat.beq l l' && Nat.beq c c'
 | .slice (some ⟨a, o, none⟩) l c, .slice (some ⟨b, o', none⟩) l' c' => Nat.beq a b && Nat.beq o o' && Nat.beq l l' && Nat.beq c c'
 | .func (.func f) p c, .func (.func f') p' c' => Nat.beq f f' && eqA p p' && eqA c c'
 | .func (.yield f) p c, .func (.yield f') p' c' => Nat.beq f f' && eqA p p' && eqA c c'
 | .nilFunc, .nilFunc => true
 | .nilIface, .nilIface => true
 | .iface t v, .iface t' v' => Nat.beq t t' && eqV v v'
 | .agg a, .agg b => eqA a b
 | .tuple a, .tuple b => eqA a b
 | _, _ => false
def eqA : Array Value -> Array Value -> Bool
 | ⟨a⟩, ⟨b⟩ => eqL a b
def eqL : List Value -> List Value -> Bool
 | [], [] => true
 | a :: x, b :: y => eqV a b && eqL x y
 | _, _ => false
end
def undefs : Nat -> List Value
 | 0 => []
 | n + 1 => undef :: undefs n
def full (n : Nat) : BT Value := BT.ofList (undefs n)
end Go.Proofs.YtjkdkpckjgaplaaGreat.Ev
namespace Go.Proofs.YtjkdkpckjgaplaaGreat.Ev
open Go
noncomputable section
def ifB (b x y : Bool) : Bool := @Bool.rec (fun _ => Bool) y x b
def cI (n : Nat) (k : Nat -> Bool) : Bool := @Nat.rec (fun _ => Bool) (k 0) (fun m _ => k (Nat.succ m)) n
def Co (n : Int) (k : Int -> Bool) : Bool := @Int.rec (fun _ => Bool) (fun m => cI m (fun m => k (Int.ofNat m))) (fun m => cI m (fun m => k (Int.negSucc m))) n
def F0 (b : Bool) (k : Bool -> Bool) : Bool := @Bool.rec (fun _ => Bool) (k false) (k true) b
def jR {α : Type} (t : BT α) (n : Nat) (k : α -> Bool) : Bool :=
 @BT.rec α (fun _ => Nat -> Bool) (fun _ => false)
  (fun a _ _ gl gr n => @Bool.rec (fun _ => Bool) (@Bool.rec (fun _ => Bool) (gr (Nat.pred (Nat.div n 2))) (gl (Nat.div n 2)) (Nat.beq (Nat.mod n 2) 1)) (k a) (Nat.beq n 0)) t n
def lM {α : Type} (t : BT α) (n : Nat) (v : α) (k : BT α -> Bool) : Bool :=
 @BT.rec α (fun _ => Nat -> (BT α -> Bool) -> Bool) (fun _ _ => false)
  (fun a l r gl gr n k => @Bool.rec (fun _ => Bool) (@Bool.rec (fun _ => Bool) (gr (Nat.pred (Nat.div n 2)) (fun r => k (.node a l r))) (gl (Nat.div n 2) (fun l => k (.node a l r))) (Nat.beq (Nat.mod n 2) 1)) (k (.node v l r)) (Nat.beq n 0)) t n k
def oN {α : Type} (t : BT α) (n : Nat) (v : α) (k : BT α -> Bool) : Bool :=
 @BT.rec α (fun _ => Nat -> (BT α -> Bool) -> Bool) (fun n k => @Bool.rec (fun _ => Bool) false (k (.node v .leaf .leaf)) (Nat.beq n 0))
  (fun a l r gl gr n k => @Bool.rec (fun _ => Bool) (@Bool.rec (fun _ => Bool) (gr (Nat.pred (Nat.div n 2)) (fun r => k (.node a l r))) (gl (Nat.div n 2) (fun l => k (.node a l r))) (Nat.beq (Nat.mod n 2) 1)) false (Nat.beq n 0)) t n k
def dT {α : Type} (t : BT α) (n : Nat) (l : List α) (k : BT α -> Bool) : Bool :=
 @List.rec α (fun _ => BT α -> Nat -> Bool) (fun t _ => k t) (fun v _ ih t n => lM t n v (fun t => ih t (Nat.succ n))) l t n
def eB {α : Type} (t : BT α) (n : Nat) (l : List α) (k : BT α -> Bool) : Bool :=
 @List.rec α (fun _ => BT α -> Nat -> Bool) (fun t _ => k t) (fun v _ ih t n => oN t n v (fun t => ih t (Nat.succ n))) l t n
def lN {α : Type} (t : BT α) (i n : Nat) (k : List α -> Bool) : Bool :=
 @Nat.rec (fun _ => Nat -> (List α -> Bool) -> Bool) (fun _ k => k []) (fun _ ih i k => jR t i (fun v => ih (Nat.succ i) (fun l => k (v :: l)))) n i k
def bF (T : BT Value) (x : X) (k : Value -> Bool) : Bool := @X.rec (fun _ => Bool) (fun i => jR T i k) (fun v => k v) x
def gF (T : BT Value) (l : List X) (k : List Value -> Bool) : Bool :=
 @List.rec X (fun _ => (List Value -> Bool) -> Bool) (fun k => k []) (fun x _ ih k => bF T x (fun v => ih (fun l => k (v :: l)))) l k
def mZ (T : BT Value) (l : List (Nat × Nat × X)) (k : List (Nat × Nat × Value) -> Bool) : Bool :=
 @List.rec (Nat × Nat × X) (fun _ => (List (Nat × Nat × Value) -> Bool) -> Bool) (fun k => k [])
  (fun p _ ih k => @Prod.rec Nat (Nat × X) (fun _ => Bool) (fun o q => @Prod.rec Nat X (fun _ => Bool) (fun n x => bF T x (fun v => ih (fun l => k ((o, n, v) :: l)))) q) p) l k
def dJ (T : BT Value) (x : Option X) (k : Option Value -> Bool) : Bool := @Option.rec X (fun _ => Bool) (k none) (fun x => bF T x (fun v => k (some v))) x
/-! One shape of a value each. -/
def wG (a : Option Addr) (z : Bool) (k : Nat -> Nat -> Bool) : Bool :=
 @Option.rec Addr (fun _ => Bool) z (fun a => @Addr.rec (fun _ => Bool) (fun b off sp => @Option.rec Nat (fun _ => Bool) (k b off) (fun _ => false) sp) a) a
def qF (v : Value) (k : IntKind -> Int -> Bool) (z : Bool) : Bool :=
 @Value.casesOn (fun _ => Bool) v (fun _ => z) (fun i n => k i n) (fun _ _ => z) (fun _ _ _ => z) (fun _ => z) (fun _ => z) (fun _ _ _ => z) (fun _ => z) (fun _ => z) (fun _ _ _ => z) z (fun _ _ => z) z (fun _ => z) (fun _ => z)
def nA (v : Value) (k : Bool -> Bool) : Bool :=
 @Value.casesOn (fun _ => Bool) v (fun b => k b) (fun _ _ => false) (fun _ _ => false) (fun _ _ _ => false) (fun _ => false) (fun _ => false) (fun _ _ _ => false) (fun _ => false) (fun _ => false) (fun _ _ _ => false) false (fun _ _ => false) false (fun _ => false) (fun _ => false)
def nB (v : Value) (k : Bool -> Bool) (z : Bool) : Bool :=
 @Value.casesOn (fun _ => Bool) v (fun b => k b) (fun _ _ => z) (fun _ _ => z) (fun _ _ _ => z) (fun _ => z) (fun _ => z) (fun _ _ _ => z) (fun _ => z) (fun _ => z) (fun _ _ _ => z) z (fun _ _ => z) z (fun _ => z) (fun _ => z)
def wH (v : Value) (k : Nat -> Nat -> Bool) : Bool :=
 @Value.casesOn (fun _ => Bool) v (fun _ => false) (fun _ _ => false) (fun _ _ => false) (fun _ _ _ => false) (fun _ => false) (fun a => wG a false k) (fun _ _ _ => false) (fun _ => false) (fun _ => false) (fun _ _ _ => false) false (fun _ _ => false) false (fun _ => false) (fun _ => false)
def eK (v : Value) (z : Nat -> Nat -> Bool) (k : Nat -> Nat -> Nat -> Nat -> Bool) : Bool :=
 @Value.casesOn (fun _ => Bool) v (fun _ => false) (fun _ _ => false) (fun _ _ => false) (fun _ _ _ => false) (fun _ => false) (fun _ => false) (fun a n c => wG a (z n c) (fun b off => k b off n c)) (fun _ => false) (fun _ => false) (fun _ _ _ => false) false (fun _ _ => false) false (fun _ => false) (fun _ => false)
def rJ (v : Value) (k : List Value -> Bool) : Bool :=
 @Value.casesOn (fun _ => Bool) v (fun _ => false) (fun _ _ => false) (fun _ _ => false) (fun _ _ _ => false) (fun _ => false) (fun _ => false) (fun _ _ _ => false) (fun _ => false) (fun _ => false) (fun _ _ _ => false) false (fun _ _ => false) false (fun a => @Array.rec Value (fun _ => Bool) (fun l => k l) a) (fun _ => false)
def nD (v : Value) (k : List Value -> Bool) : Bool :=
 @Value.casesOn (fun _ => Bool) v (fun _ => false) (fun _ _ => false) (fun _ _ => false) (fun _ _ _ => false) (fun _ => false) (fun _ => false) (fun _ _ _ => false) (fun _ => false) (fun _ => false) (fun _ _ _ => false) false (fun _ _ => false) false (fun _ => false) (fun a => @Array.rec Value (fun _ => Bool) (fun l => k l) a)
def wI (v : Value) (k : Nat -> List Value -> List Value -> Bool) (y : Nat -> List Value -> Bool) : Bool :=
 @Value.casesOn (fun _ => Bool) v (fun _ => false) (fun _ _ => false) (fun _ _ => false) (fun _ _ _ => false) (fun _ => false) (fun _ => false) (fun _ _ _ => false) (fun _ => false) (fun _ => false)
  (fun f p c => @Array.rec Value (fun _ => Bool) (fun p => @Array.rec Value (fun _ => Bool) (fun c =>
   @Fn.casesOn (fun _ => Bool) f (fun g => k g p c) (fun _ => false) (fun _ _ => false) (fun _ _ _ _ => false) (fun l => y l p)) c) p) false (fun _ _ => false) false (fun _ => false) (fun _ => false)
def rK (v : Value) (k : Nat -> Bool) : Bool := qF v (fun _ n => @Int.rec (fun _ => Bool) (fun m => k m) (fun _ => false) n) false
def nE {α : Type} (x : Option α) (k : α -> Bool) : Bool := @Option.rec α (fun _ => Bool) false k x
def iH (s : St) (o : dK) (k : St -> Bool) : Bool := @St.rec (fun _ => Bool) (fun h n => oN h n o (fun h => cI (Nat.succ n) (fun m => k ⟨h, m⟩))) s
def A9 (s : St) (k : Nat -> Bool) : Bool := @St.rec (fun _ => Bool) (fun _ n => k n) s
def cK (s : St) (b : Nat) (o : dK) (k : St -> Bool) : Bool := @St.rec (fun _ => Bool) (fun h n => lM h b o (fun h => k ⟨h, n⟩)) s
def qD (s : St) (b : Nat) (k : dK -> Bool) : Bool := @St.rec (fun _ => Bool) (fun h _ => jR h b k) s
def Df (v : Value) (k : Nat -> Bool) : Bool :=
 @Value.casesOn (fun _ => Bool) v (fun _ => false) (fun _ _ => false) (fun _ _ => false) (fun _ _ _ => false) (fun _ => false) (fun _ => false) (fun _ _ _ => false) (fun r => @Option.rec Nat (fun _ => Bool) false (fun b => k b) r) (fun _ => false) (fun _ _ _ => false) false (fun _ _ => false) false (fun _ => false) (fun _ => false)
def rL (n : Int) (es : List (Int × Value)) : Option Value :=
 @List.rec (Int × Value) (fun _ => Option Value) none (fun e _ ih => @Bool.rec (fun _ => Option Value) ih (some e.2) (intEq e.1 n)) es
def OD (a b : List (Int × Value)) : List (Int × Value) := @List.rec (Int × Value) (fun _ => List (Int × Value)) b (fun v _ ih => v :: ih) a
def yP (ok : Bool) (v : Value) (b : Bool) : Value := @Bool.rec (fun _ => Value) v (.tuple #[v, .bool b]) ok
def Ba (s : St) (b : Nat) (k : Nat -> BT Value -> Nat -> Bool -> Bool) : Bool :=
 qD s b (fun o => @dK.casesOn (fun _ => Bool) o false k (fun _ _ _ _ _ _ _ => false) (fun _ => false) (fun _ => false) (fun _ => false))
def qO (s : St) (b : Nat) (kc : BT Value -> Bool) (kr : (Nat -> Option Value) -> Bool) : Bool :=
 qD s b (fun o => @dK.casesOn (fun _ => Bool) o false (fun _ c _ _ => kc c) (fun _ _ _ _ _ _ _ => false) (fun _ => false) (fun _ => false) kr)
def eL (g : Nat -> Option Value) (i n : Nat) (k : List Value -> Bool) : Bool :=
 @Nat.rec (fun _ => Nat -> (List Value -> Bool) -> Bool) (fun _ k => k []) (fun _ ih i k => nE (g i) (fun v => ih (Nat.succ i) (fun l => k (v :: l)))) n i k
def nF (g : Nat -> Option Value) (off : Nat) (n : Option Nat) (k : Value -> Bool) : Bool :=
 @Option.rec Nat (fun _ => Bool) (nE (g off) k) (fun n => eL g off n (fun l => k (.agg ⟨l⟩))) n
def F1 (s : St) (b : Nat) (k : List (Int × Value) -> Bool) : Bool :=
 qD s b (fun o => @dK.casesOn (fun _ => Bool) o false (fun _ _ _ _ => false) (fun _ _ _ _ _ _ _ => false) (fun _ => false) k (fun _ => false))
def OE (s : St) (m x v : Value) (k : St -> Bool) : Bool :=
 Df m (fun b => qF x (fun i n => ifB (kindEq i .i64) (F1 s b (fun es => @Option.rec Value (fun _ => Bool) (cK s b (.imap (OD es [(n, v)])) k) (fun _ => false) (rL n es))) false) false)
def MG (s : St) (z : Value) (ok : Bool) (m x : Value) (k : Value -> St -> Bool) : Bool :=
 Df m (fun b => qF x (fun i n => ifB (kindEq i .i64) (F1 s b (fun es => @Option.rec Value (fun _ => Bool) (k (yP ok z false) s) (fun v => k (yP ok v true) s) (rL n es))) false) false)
def yQ (s : St) (b : Nat) (k : LoopState -> fT -> BT Value -> List Nat -> CC -> CC -> Nat -> Bool) : Bool :=
 qD s b (fun o => @dK.casesOn (fun _ => Bool) o false (fun _ _ _ _ => false) k (fun _ => false) (fun _ => false) (fun _ => false))
def Cp (c : BT Value) (off : Nat) (n : Option Nat) (k : Value -> Bool) : Bool :=
 @Option.rec Nat (fun _ => Bool) (jR c off k) (fun n => lN c off n (fun l => k (.agg ⟨l⟩))) n
def Cq (s : St) (n : Option Nat) (v : Value) (k : Value -> Bool) : Bool := wH v (fun b off => qO s b (fun c => Cp c off n k) (fun g => nF g off n k))
def dU (l : List Value) : Bool := @List.rec Value (fun _ => Bool) true (fun v _ ih => ifB (oneCell v) ih false) l
def I7 (s : St) (n : Option Nat) (v a : Value) (k : St -> Bool) : Bool :=
 wH a (fun b off => Ba s b (fun m c e op =>
  @Option.rec Nat (fun _ => Bool)
   (ifB (oneCell v) (ifB (Nat.blt off m) (lM c off v (fun c => cK s b (.cells m c e op) k)) false) false)
   (fun n => rJ v (fun l => ifB (Nat.beq l.length n) (ifB (Nat.ble (Nat.add off n) m) (ifB (dU l) (dT c off l (fun c => cK s b (.cells m c e op) k)) false) false) false)) n))
def Dg (a : Option Addr) (k : Option Addr -> Bool) : Bool :=
 @Option.rec Addr (fun _ => Bool) (k none) (fun a => @Addr.rec (fun _ => Bool) (fun b off sp => cI b (fun b => cI off (fun off => k (some ⟨b, off, sp⟩)))) a) a
def dV (v : Value) (k : Value -> Bool) : Bool :=
 @Value.casesOn (fun _ => Bool) v (fun b => F0 b (fun b => k (.bool b))) (fun i n => Co n (fun n => k (.int i n))) (fun a b => k (.float a b)) (fun a b c => k (.complex a b c)) (fun s => k (.string s))
  (fun a => Dg a (fun a => k (.pointer a))) (fun a n c => Dg a (fun a => cI n (fun n => cI c (fun c => k (.slice a n c))))) (fun m => k (.map m)) (fun m => k (.chan m)) (fun f p c => k (.func f p c)) (k .nilFunc) (fun t v => k (.iface t v)) (k .nilIface) (fun a => k (.agg a)) (fun a => k (.tuple a))
def F2 (P : Program) (b : BinOp) (t d : Nat) (x y : Value) (k : Value -> Bool) : Bool := nE (evBin P b t d x y) (fun v => dV v k)
def iI (s : St) (b : Nat) : Option (Nat × Nat × Bool) :=
 match s.h.get b with
 | some (.cells n _ e op) => some (n, e, op)
 | _ => none
def kE (s : St) (e size : Nat) (x : Value) (lo hi mx : Option Value) (k : Value -> Bool) : Bool := nE (evSlc (iI s) e size x lo hi mx) (fun v => dV v k)
def kN (l : List Value) : Nat := @List.rec Value (fun _ => Nat) 0 (fun _ _ ih => Nat.succ ih) l
def Dh (s : St) (size : Nat) (z : List Value) (ints : Bool) (y : Value) (k : Nat -> List Value -> Bool) : Bool :=
 @Bool.rec (fun _ => Bool)
  (eK y (fun n _ => ifB (Nat.beq n 0) (k 0 []) false) (fun b off n _ => ifB (Nat.beq n 0) (k 0 []) (qO s b (fun c => lN c off (Nat.mul n size) (fun l => k n l)) (fun g => eL g off (Nat.mul n size) (fun l => k n l)))))
  (qF y (fun i _ => ifB (kindEq i .i64) (rK y (fun n => ifB (Nat.ble n 1048576) (k n (repeatN z n)) false)) false) false) ints
def uH (s : St) (e size len n : Nat) (more : List Value) (old : List Value) (k : Value -> St -> Bool) : Bool :=
 eB .leaf 0 old (fun c => eB c (Nat.mul len size) more (fun c => A9 s (fun g => cI (Nat.mul (Nat.add len n) size) (fun m => iH s (.cells m c e true) (fun s => cI (Nat.add len n) (fun l => k (.slice (some ⟨g, 0, none⟩) l OPEN) s))))))
def eG (s : St) (e size b off len cap n : Nat) (more : List Value) (k : Value -> St -> Bool) : Bool :=
 qD s b (fun o => @dK.casesOn (fun _ => Bool) o false
  (fun m c e' op => ifB (Nat.beq e e')
   (ifB (Nat.ble OPEN cap)
    (ifB op (ifB (Nat.beq off 0) (ifB (Nat.beq cap OPEN)
     (ifB (Nat.ble (Nat.mul (Nat.add len n) size) m)
      (dT c (Nat.mul len size) more (fun c => cK s b (.cells m c e true) (fun s => cI (Nat.add len n) (fun l => k (.slice (some ⟨b, 0, none⟩) l OPEN) s))))
      (ifB (Nat.beq (Nat.mul len size) m)
       (eB c (Nat.mul len size) more (fun c => A9 s (fun g => cK s b .dead (fun s => cI (Nat.mul (Nat.add len n) size) (fun m => iH s (.cells m c e true) (fun s => cI (Nat.add len n) (fun l => k (.slice (some ⟨g, 0, none⟩) l OPEN) s))))))) false)) false) false) false)
    (ifB (Nat.ble (Nat.add len n) cap)
     (ifB (Nat.ble (Nat.add off (Nat.mul (Nat.add len n) size)) m)
      (dT c (Nat.add off (Nat.mul len size)) more (fun c => cK s b (.cells m c e op) (fun s => cI (Nat.add len n) (fun l => k (.slice (some ⟨b, off, none⟩) l cap) s)))) false)
     (lN c off (Nat.mul len size) (fun old => uH s e size len n more old k)))) false)
  (fun _ _ _ _ _ _ _ => false) (fun _ => false) (fun _ => false)
  (fun g => ifB (Nat.ble OPEN cap) false (ifB (Nat.ble (Nat.add len n) cap) false (eL g off (Nat.mul len size) (fun old => uH s e size len n more old k)))))
def jC (s : St) (e size bytes : Nat) (z : List Value) (ints : Bool) (x y : Value) (k : Value -> St -> Bool) : Bool :=
 Dh s size z ints y (fun n more =>
  eK x (fun len cap => ifB (Nat.beq len 0) (ifB (Nat.beq cap 0)
   (ifB (Nat.beq n 0) (k (.slice none 0 0) s)
    (ifB (Nat.ble n 1048576) (ifB (Nat.ble (Nat.mul bytes n) 1073741824) (eB .leaf 0 more (fun c => A9 s (fun g => cI (Nat.mul n size) (fun m => iH s (.cells m c e true) (k (.slice (some ⟨g, 0, none⟩) n OPEN)))))) false) false)) false) false)
   (fun b off len cap => ifB (Nat.beq cap 0)
    (ifB (Nat.beq len 0) (ifB (Nat.beq n 0) (k (.slice (some ⟨b, off, none⟩) 0 0) s)
     (ifB (Nat.ble n 1048576) (ifB (Nat.ble (Nat.mul bytes n) 1073741824) (eB .leaf 0 more (fun c => A9 s (fun g => cI (Nat.mul n size) (fun m => iH s (.cells m c e true) (k (.slice (some ⟨g, 0, none⟩) n OPEN)))))) false) false)) false)
    (ifB (Nat.ble (Nat.add len n) 1048576) (ifB (Nat.ble (Nat.mul bytes (Nat.add len n)) 1073741824) (eG s e size b off len cap n more k) false) false)))
def vK (s : St) (k : Value -> St -> Bool) (v : Value) : Bool := k v s
def oK (s : St) (k : Value -> St -> Bool) (v : Option Value) : Bool := nE v (fun v => dV v (fun v => k v s))
def ptr (b : Nat) : Value := .pointer (some ⟨b, 0, none⟩)
def Ow (v : Value) (off : Nat) (k : Value -> Bool) : Bool := wH v (fun b o => cI (Nat.add o off) (fun o => k (.pointer (some ⟨b, o, none⟩))))
def Ox (v i : Value) (size : Nat) (k : Value -> Bool) : Bool :=
 eK v (fun _ _ => false) (fun b o n _ => rK i (fun i => ifB (Nat.blt i n) (cI (Nat.add o (Nat.mul i size)) (fun o => k (.pointer (some ⟨b, o, none⟩)))) false))
def Cr (v i : Value) (len size : Nat) (k : Value -> Bool) : Bool :=
 wH v (fun b o => rK i (fun i => ifB (Nat.blt i len) (cI (Nat.add o (Nat.mul i size)) (fun o => k (.pointer (some ⟨b, o, none⟩)))) false))
def Aa (l : List Value) (i : Nat) (k : Value -> Bool) : Bool :=
 @List.rec Value (fun _ => Nat -> Bool) (fun _ => false) (fun v _ ih n => @Nat.rec (fun _ => Bool) (k v) (fun m _ => ih m) n) l i
def Bb (l : List Value) (i n : Nat) (k : List Value -> Bool) : Bool :=
 @List.rec Value (fun _ => Nat -> Nat -> (List Value -> Bool) -> Bool)
  (fun _ n k => @Nat.rec (fun _ => Bool) (k []) (fun _ _ => false) n)
  (fun v _ ih i n k => @Nat.rec (fun _ => Bool) (@Nat.rec (fun _ => Bool) (k []) (fun m _ => ih 0 m (fun l => k (v :: l))) n) (fun j _ => ih j n k) i) l i n k
def yR (l : List Value) (off : Nat) (n : Option Nat) (k : Value -> Bool) : Bool :=
 @Option.rec Nat (fun _ => Bool) (Aa l off k) (fun n => Bb l off n (fun l => k (.agg ⟨l⟩))) n
def OF (v i : Value) (len size : Nat) (n : Option Nat) (k : Value -> Bool) : Bool :=
 rJ v (fun l => rK i (fun i => ifB (Nat.blt i len) (yR l (Nat.mul i size) n k) false))
def Di (v : Value) (k : Value -> Bool) : Bool := nE (evNilc v) (fun _ => k v)
def rM (c a b : Value) (k : Value -> Bool) : Bool := nA c (fun t => @Bool.rec (fun _ => Bool) (k b) (k a) t)
def Fc (s : St) (e : Nat) (v : Value) (k : Value -> St -> Bool) : Bool :=
 A9 s (fun g => dV v (fun v => @Array.rec Value (fun _ => Bool) (fun l => ifB (dU l) (cI (kN l) (fun m => eB .leaf 0 l (fun c => iH s (.cells m c e false) (k (ptr g))))) false) v.cells))
def lP (c : BT Value) (ps : List (Nat × Nat × Value)) (k : BT Value -> Bool) : Bool :=
 @List.rec (Nat × Nat × Value) (fun _ => BT Value -> Bool) (fun c => k c)
  (fun p _ ih c => @Prod.rec Nat (Nat × Value) (fun _ => Bool) (fun o q => @Prod.rec Nat Value (fun _ => Bool) (fun n v => @Array.rec Value (fun _ => Bool) (fun l => ifB (Nat.beq (kN l) n) (ifB (dU l) (dT c o l ih) false) false) v.cells) q) p) ps c
def oU (z : List Value) (ps : List (Nat × Nat × Value)) (k : Value -> Bool) : Bool :=
 eB .leaf 0 z (fun c => lP c ps (fun c => lN c 0 (kN z) (fun l => k (.agg ⟨l⟩))))
def Bc (s : St) (e len n : Nat) (z : List Value) (ps : List (Nat × Nat × Value)) (k : Value -> St -> Bool) : Bool :=
 eB .leaf 0 z (fun c => lP c ps (fun c => A9 s (fun g => iH s (.cells n c e false) (k (.slice (some ⟨g, 0, none⟩) len len)))))
def Be (s : St) (e size bytes : Nat) (z : List Value) (l c : Value) (k : Value -> St -> Bool) : Bool :=
 qF l (fun i _ => qF c (fun j _ => ifB (kindEq i .i64) (ifB (kindEq j .i64) (rK l (fun l => rK c (fun c =>
  ifB (Nat.ble l c) (ifB (Nat.ble c 1048576) (ifB (Nat.ble (Nat.mul bytes c) 1073741824)
   (eB .leaf 0 (repeatN z c) (fun t => A9 s (fun g => cI (Nat.mul c size) (fun m => iH s (.cells m t e false) (k (.slice (some ⟨g, 0, none⟩) l c)))))) false) false) false))) false) false) false) false
def Qf (a b : Nat) (k : Nat -> Bool) : Bool := ifB (Nat.ble a b) (k a) (k b)
def Dj (f : (List Value -> Bool) -> Bool) (h : List Value -> Bool) : Bool := f h
def Dk (s : St) (size : Nat) (x y : Value) (k : Value -> St -> Bool) : Bool :=
 eK x (fun n _ => ifB (Nat.beq n 0) (eK y (fun _ _ => k (.int .i64 (.ofNat 0)) s) (fun _ _ _ _ => k (.int .i64 (.ofNat 0)) s)) false)
  (fun b off len _ => eK y (fun n _ => ifB (Nat.beq n 0) (k (.int .i64 (.ofNat 0)) s) false)
   (fun b' off' n _ => Qf n len (fun j => ifB (Nat.beq j 0) (k (.int .i64 (.ofNat 0)) s) (Ba s b (fun m c e op => Dj (fun h => qO s b' (fun c' => lN c' off' (Nat.mul j size) h) (fun g => eL g off' (Nat.mul j size) h)) (fun l =>
    ifB (Nat.ble (Nat.add off (Nat.mul j size)) m) (dT c off l (fun c => cK s b (.cells m c e op) (k (.int .i64 (.ofNat j))))) false))))))
def Ab (s : St) (size : Nat) (z : List Value) (x : Value) (k : Value -> St -> Bool) : Bool :=
 eK x (fun _ _ => k (.tuple #[]) s)
  (fun b off n _ => ifB (Nat.beq n 0) (k (.tuple #[]) s)
   (Ba s b (fun m c e op => ifB (Nat.ble (Nat.add off (Nat.mul n size)) m) (dT c off (repeatN z n) (fun c => cK s b (.cells m c e op) (k (.tuple #[])))) false)))
def sZ (s : St) (n : Option Nat) (a d : Value) (k : Value -> St -> Bool) : Bool := Cq s n a (fun v => ifB (eqV v d) (k undef s) false)
def V6 (P : Program) (T : BT Value) (s : St) (c : COp) (k : Value -> St -> Bool) : Bool :=
 @COp.casesOn (fun _ => Bool) c
  (fun x => bF T x (vK s k))
  (fun c a b => bF T c (fun c => bF T a (fun a => bF T b (fun b => rM c a b (vK s k)))))
  (fun e n z => A9 s (fun g => iH s (.cells n z e false) (k (ptr g))))
  (fun e x => bF T x (fun v => Fc s e v k))
  (fun z ps => mZ T ps (fun ps => oU z ps (vK s k)))
  (fun e len n z ps => mZ T ps (fun ps => Bc s e len n z ps k))
  (fun a n => bF T a (fun a => Cq s n a (vK s k)))
  (fun a x n => bF T a (fun a => bF T x (fun x => I7 s n x a (k undef))))
  (fun x => bF T x (fun v => Di v (vK s k)))
  (fun b t d x y => bF T x (fun x => bF T y (fun y => F2 P b t d x y (vK s k))))
  (fun u x => bF T x (fun x => oK s k (ev1 P (Op.unary u) x)))
  (fun a b x => bF T x (fun x => oK s k (ev1 P (convert a b) x)))
  (fun t x => bF T x (fun x => oK s k (ev1 P (Instr.makeInterface t) x)))
  (fun x a b o => bF T x (fun x => oK s k (ev1 P (fun v => Instr.typeAssert v a b o) x)))
  (fun b ts t l => gF T l (fun l => oK s k (evBi P b ts t l)))
  (fun t x i => bF T x (fun x => bF T i (fun i => oK s k (evIxs P t x i))))
  (fun f p c => gF T p (fun p => gF T c (fun c => k (.func (.func f) ⟨p⟩ ⟨c⟩) s)))
  (fun e size bytes z l c => bF T l (fun l => bF T c (fun c => Be s e size bytes z l c k)))
  (fun e size x lo hi mx => bF T x (fun x => dJ T lo (fun lo => dJ T hi (fun hi => dJ T mx (fun mx => kE s e size x lo hi mx (vK s k))))))
  (fun t x lo hi mx => bF T x (fun x => dJ T lo (fun lo => dJ T hi (fun hi => dJ T mx (fun mx => oK s k (evSlcn P t x lo hi mx))))))
  (fun x off => bF T x (fun x => Ow x off (vK s k)))
  (fun x off n => bF T x (fun x => rJ x (fun l => yR l off n (vK s k))))
  (fun x i size => bF T x (fun x => bF T i (fun i => Ox x i size (vK s k))))
  (fun x i len size => bF T x (fun x => bF T i (fun i => Cr x i len size (vK s k))))
  (fun x i len size n => bF T x (fun x => bF T i (fun i => OF x i len size n (vK s k))))
  (fun x i => bF T x (fun x => nD x (fun l => Aa l i (vK s k))))
  (fun x => bF T x (fun x => eK x (fun n _ => k (.int .i64 (.ofNat n)) s) (fun _ _ n _ => k (.int .i64 (.ofNat n)) s)))
  (fun x => bF T x (fun x => oK s k (evCap x)))
  (fun e size bytes z ints x y => bF T x (fun x => bF T y (fun y => jC s e size bytes z ints x y k)))
  (fun size x y => bF T x (fun x => bF T y (fun y => Dk s size x y k)))
  (fun size z x => bF T x (fun x => Ab s size z x k))
  (fun a n d => bF T a (fun a => bF T (.t d) (fun d => sZ s n a d k)))
  (fun e size x lo hi mx d => bF T x (fun x => dJ T lo (fun lo => dJ T hi (fun hi => dJ T mx (fun mx => bF T (.t d) (fun d => kE s e size x lo hi mx (fun v => ifB (eqV v d) (k undef s) false)))))))
  (A9 s (fun g => iH s (.imap []) (k (.map (some g)))))
  (fun m x v => bF T m (fun m => bF T x (fun x => bF T v (fun v => OE s m x v (k undef)))))
  (fun m x z ok => bF T m (fun m => bF T x (fun x => MG s z ok m x k)))
  (fun _ _ => false)
  false
structure OK where
 code : Option Nat -> CC -> BT Value -> List Nat -> St -> (fT -> BT Value -> List Nat -> St -> Bool) -> Bool
 call : FuncId -> List Value -> St -> (Value -> St -> Bool) -> Bool
def qP (T : BT Value) (ps : List Nat) (l : List Value) (k : BT Value -> Bool) : Bool :=
 @List.rec Nat (fun _ => BT Value -> List Value -> Bool) (fun T l => @List.rec Value (fun _ => Bool) (k T) (fun _ _ _ => false) l)
  (fun t _ ih T l => @List.rec Value (fun _ => Bool) false (fun v l _ => lM T t v (fun T => ih T l)) l) ps T l
def yI (a b : List Value) : List Value := @List.rec Value (fun _ => List Value) b (fun v _ ih => v :: ih) a
def gV (x : fT) (n r : Bool) (e g : Nat -> Bool) : Bool := @fT.casesOn (fun _ => Bool) x n r e g
def I8 (l : Nat) (x : fT) (s : St) (k : Value -> St -> Bool) : Bool :=
 yQ s l (fun st _ T ps a b q => @LoopState.casesOn (fun _ => Bool) st false
  (gV x (cK s l (.loop .ready .normal T ps a b q) (k (.bool true))) (cK s l (.loop .done x T ps a b q) (k (.bool false))) (fun _ => cK s l (.loop .done x T ps a b q) (k (.bool false))) (fun _ => cK s l (.loop .done x T ps a b q) (k (.bool false)))) false false)
def Dl (O : OK) (l : Nat) (body : CC) (T : BT Value) (D : List Nat) (s : St) (k : Value -> St -> Bool) : Bool :=
 yQ s l (fun st p T' ps a b q => @LoopState.casesOn (fun _ => Bool) st
  (cK s l (.loop .busy p T' ps a b q) (fun s => O.code (some l) body T D s (fun x _ _ s => I8 l x s k))) false false false)
def Cs (O : OK) (l : Nat) (args : List Value) (s : St) (k : Value -> St -> Bool) : Bool :=
 yQ s l (fun _ _ T ps a b _ => qP T ps args (fun T => O.code (some l) a T [] s (fun x T D s => gV x (Dl O l b T D s k) false (fun _ => false) (fun _ => false))))
def oV (O : OK) (s : St) (args : List Value) (f : Value) (k : Value -> St -> Bool) : Bool :=
 wI f (fun g p c => O.call g (yI p (yI args c)) s k) (fun l p => Cs O l (yI p args) s k)
def fU (P : Program) (O : OK) (T : BT Value) (s : St) (c : COp) (k : Value -> St -> Bool) : Bool :=
 @COp.casesOn (fun _ => Bool) c
  (fun _ => V6 P T s c k) (fun _ _ _ => V6 P T s c k) (fun _ _ _ => V6 P T s c k) (fun _ _ => V6 P T s c k) (fun _ _ => V6 P T s c k) (fun _ _ _ _ _ => V6 P T s c k)
  (fun _ _ => V6 P T s c k) (fun _ _ _ => V6 P T s c k) (fun _ => V6 P T s c k) (fun _ _ _ _ _ => V6 P T s c k) (fun _ _ => V6 P T s c k) (fun _ _ _ => V6 P T s c k) (fun _ _ => V6 P T s c k)
  (fun _ _ _ _ => V6 P T s c k) (fun _ _ _ _ => V6 P T s c k) (fun _ _ _ => V6 P T s c k) (fun _ _ _ => V6 P T s c k) (fun _ _ _ _ _ _ => V6 P T s c k) (fun _ _ _ _ _ _ => V6 P T s c k)
  (fun _ _ _ _ _ => V6 P T s c k) (fun _ _ => V6 P T s c k) (fun _ _ _ => V6 P T s c k) (fun _ _ _ => V6 P T s c k) (fun _ _ _ _ => V6 P T s c k) (fun _ _ _ _ _ => V6 P T s c k) (fun _ _ => V6 P T s c k)
  (fun _ => V6 P T s c k) (fun _ => V6 P T s c k) (fun _ _ _ _ _ _ _ => V6 P T s c k) (fun _ _ _ => V6 P T s c k) (fun _ _ _ => V6 P T s c k) (fun _ _ _ => V6 P T s c k) (fun _ _ _ _ _ _ _ => V6 P T s c k)
  (V6 P T s c k) (fun _ _ _ => V6 P T s c k) (fun _ _ _ _ => V6 P T s c k)
  (fun f l => bF T f (fun f => gF T l (fun l => oV O s l f k))) false
def gW (T : BT Value) (d : Option Nat) (v : Value) (k : BT Value -> Bool) : Bool := @Option.rec Nat (fun _ => Bool) (k T) (fun d => lM T d v k) d
def iJ (T : BT Value) (g : Option (Nat × Bool)) (y : Bool) (n : Bool) : Bool :=
 @Option.rec (Nat × Bool) (fun _ => Bool) y (fun p => @Prod.rec Nat Bool (fun _ => Bool) (fun t w => jR T t (fun v =>
  nB v (fun b => @Bool.rec (fun _ => Bool) (@Bool.rec (fun _ => Bool) y n w) (@Bool.rec (fun _ => Bool) n y w) b) n)) p) g
def wJ (P : Program) (O : OK) (x : Item) (T : BT Value) (s : St) (k : BT Value -> St -> Bool) : Bool :=
 @Item.rec (fun _ => Bool) (fun g d op => iJ T g (fU P O T s op (fun v s => gW T d v (fun T => k T s))) (gW T d undef (fun T => k T s))) x
def dW (P : Program) (O : OK) (l : List Item) (T : BT Value) (s : St) (k : BT Value -> St -> Bool) : Bool :=
 @List.rec Item (fun _ => BT Value -> St -> Bool) (fun T s => k T s) (fun x _ ih T s => wJ P O x T s ih) l T s
def pQ (l : Nat) (T : BT Value) (D : List Nat) (s : St) (k : fT -> BT Value -> List Nat -> St -> Bool) : Bool :=
 yQ s l (fun st x T' ps a b q => @LoopState.casesOn (fun _ => Bool) st
  (cK s l (.loop .exhausted x T' ps a b q) (k x T D)) false (cK s l (.loop .exhausted x T' ps a b q) (k x T D)) (cK s l (.loop .exhausted x T' ps a b q) (k x T D)))
def jU (O : OK) (f : Value) (ps : List Nat) (a b : CC) (T : BT Value) (D : List Nat) (q : Nat) (s : St) (k : fT -> BT Value -> List Nat -> St -> Bool) : Bool :=
 A9 s (fun l => wI f (fun g p c => iH s (.loop .ready .normal T ps a b q) (fun s => O.call g (yI p (.func (.yield l) #[] #[] :: c)) s (fun _ s => pQ l T D s k))) (fun _ _ => false))
def Ac (O : OK) (r : Option Nat) (f : Value) (ps : List Nat) (a b : CC) (T : BT Value) (D : List Nat) (s : St) (k : fT -> BT Value -> List Nat -> St -> Bool) : Bool :=
 @Option.rec Nat (fun _ => Bool) (A9 s (fun q => iH s (.deferred true) (fun s => jU O f ps a b T (q :: D) q s k)))
  (fun l => yQ s l (fun _ _ _ _ _ _ q => jU O f ps a b T D q s k)) r
def uI (P : Program) (O : OK) (r : Option Nat) (c : CC) (T : BT Value) (D : List Nat) (s : St) (k : fT -> BT Value -> List Nat -> St -> Bool) : Bool :=
 @CC.casesOn (fun _ => Bool) c
  (k .normal T D s) (k .ret T D s) (fun id => k (.exit id) T D s) (fun l => k (.goto l) T D s)
  (fun a b => O.code r a T D s (fun x T D s => gV x (O.code r b T D s k) (k x T D s) (fun _ => k x T D s) (fun _ => k x T D s)))
  (fun x a b => bF T x (fun v => nA v (fun t => @Bool.rec (fun _ => Bool) (O.code r b T D s k) (O.code r a T D s k) t)))
  (fun id b => O.code r b T D s (fun x T D s => gV x (k x T D s) (k x T D s) (fun j => ifB (Nat.beq j id) (k .normal T D s) (k x T D s)) (fun _ => k x T D s)))
  (fun b => O.code r b T D s (fun x T D s => gV x (O.code r (.loop b) T D s k) (k x T D s) (fun _ => k x T D s) (fun _ => k x T D s)))
  (fun b => O.code r b T D s (fun x T D s => gV x (k x T D s) (k x T D s) (fun _ => k x T D s) (fun _ => false)))
  (fun l => dW P O l T s (fun T s => k .normal T D s))
  (fun f ps a b => bF T f (fun f => Ac O r f ps a b T D s k))
  false
def rN (D : List Nat) (s : St) (k : St -> Bool) : Bool :=
 @List.rec Nat (fun _ => St -> Bool) (fun s => k s) (fun q _ ih s => qD s q (fun o => @dK.casesOn (fun _ => Bool) o false (fun _ _ _ _ => false) (fun _ _ _ _ _ _ _ => false) (fun d => @Bool.rec (fun _ => Bool) false (cK s q (.deferred false) ih) d) (fun _ => false) (fun _ => false))) D s
def uY (s : St) (T : BT Value) (l : List CRes) (k : List Value -> Bool) : Bool :=
 @List.rec CRes (fun _ => (List Value -> Bool) -> Bool) (fun k => k [])
  (fun r _ ih k => @CRes.casesOn (fun _ => Bool) r (fun t => jR T t (fun v => ih (fun l => k (v :: l)))) (fun a n => jR T a (fun a => Cq s n a (fun v => ih (fun l => k (v :: l)))))) l k
def Ad (l : List Value) (k : Value -> Bool) : Bool :=
 @List.rec Value (fun _ => Bool) (k (.tuple ⟨l⟩)) (fun v l' _ => @List.rec Value (fun _ => Bool) (k v) (fun _ _ _ => k (.tuple ⟨l⟩)) l') l
def fA (res : List CRes) (T : BT Value) (D : List Nat) (s : St) (k : Value -> St -> Bool) : Bool :=
 rN D s (fun s => uY s T res (fun l => Ad l (fun v => k v s)))
def uJ (C : Nat -> (CF -> Bool) -> Bool) (O : OK) (f : FuncId) (args : List Value) (s : St) (k : Value -> St -> Bool) : Bool :=
 C f (fun c => @CF.rec (fun _ => Bool) (fun body n res => ifB (Nat.ble (kN args) n)
  (dT (full n) 0 args (fun T => O.code none body T [] s (fun x T D s => gV x (fA res T D s k) (fA res T D s k) (fun _ => false) (fun _ => false)))) false) c)
def yS (P : Program) (C : Nat -> (CF -> Bool) -> Bool) (n : Nat) : OK :=
 @Nat.rec (fun _ => OK) { code := fun _ _ _ _ _ _ => false, call := fun _ _ _ _ => false } (fun _ ih => { code := uI P ih, call := uJ C ih }) n
def cA (t : BT (Option CF)) (f : Nat) (k : CF -> Bool) : Bool := jR t f (fun o => @Option.rec CF (fun _ => Bool) false k o)
def F3 (v : Value) : Bool := nA v (fun b => b)
def OG (P : Program) (t : BT (Option CF)) (n : Nat) (f : FuncId) : Bool := (yS P (cA t) n).call f [] ⟨.leaf, 0⟩ (fun v _ => F3 v)
end
end Go.Proofs.YtjkdkpckjgaplaaGreat.Ev
namespace Go.Proofs.YtjkdkpckjgaplaaGreat.Ev
open Go
theorem Z5 {b x : Bool} (h : ifB b x false = true) : b = true /\ x = true := by cases b <;> simp_all [ifB]
theorem lB {b x y : Bool} (h : ifB b x y = true) : (b = true /\ x = true) ∨ (b = false /\ y = true) := by cases b <;> simp_all [ifB]
@[simp] theorem bB (n : Nat) (k : Nat -> Bool) : cI n k = k n := by cases n <;> rfl
@[simp] theorem Oy (n : Int) (k : Int -> Bool) : Co n k = k n := by cases n <;> simp [Co]
@[simp] theorem Oz (b : Bool) (k : Bool -> Bool) : F0 b k = k b := by cases b <;> rfl
@[simp] theorem OH (a : Option Addr) (k : Option Addr -> Bool) : Dg a k = k a := by
 cases a with
 | none => rfl
 | some a => obtain ⟨b, o, s⟩ := a; simp [Dg]
@[simp] theorem cL (v : Value) (k : Value -> Bool) : dV v k = k v := by cases v <;> simp [dV]
theorem lC {α : Type} {x : Option α} {k : α -> Bool} (h : nE x k = true) : ∃ a, x = some a /\ k a = true := by
 cases x with
 | none => simp [nE] at h
 | some a => exact ⟨a, rfl, h⟩
theorem Bf (n : Nat) : Nat.beq n 0 = decide (n = 0) := by cases n <;> rfl
theorem par (n : Nat) : Nat.beq (Nat.mod n 2) 1 = decide (n % 2 = 1) := by
 show Nat.beq (n % 2) 1 = _;rcases Nat.mod_two_eq_zero_or_one n with h | h <;> rw [h] <;> rfl
theorem iK {α : Type} {k : α -> Bool} : ∀ {t : BT α} {n : Nat}, jR t n k = true -> ∃ a, t.get n = some a /\ k a = true := by
 intro t
 induction t with
 | leaf => intro n h; simp [jR] at h
 | node a l r il ir =>
  intro n h;have h' : @Bool.rec (fun _ => Bool) (@Bool.rec (fun _ => Bool) (jR r (Nat.pred (Nat.div n 2)) k) (jR l (Nat.div n 2) k) (Nat.beq (Nat.mod n 2) 1)) (k a) (Nat.beq n 0) = true := h;rw [Bf, par] at h';by_cases h0 : n = 0
  ·subst h0
   exact ⟨a, by simp [BT.get], by simpa using h'⟩
  ·rw [decide_eq_false h0] at h'
   by_cases h1 : n % 2 = 1
   ·rw [decide_eq_true h1] at h'
    obtain ⟨b, hb, hk⟩ := il h';exact ⟨b, by rw [BT.get, if_neg h0, if_pos h1]; exact hb, hk⟩
   ·rw [decide_eq_false h1] at h'
    obtain ⟨b, hb, hk⟩ := ir h';exact ⟨b, by rw [BT.get, if_neg h0, if_neg h1]; exact hb, hk⟩
theorem mC {α : Type} {v : α} : ∀ {t : BT α} {n : Nat} {k : BT α -> Bool}, lM t n v k = true -> ∃ t', k t' = true /\ (t.get n).isSome = true /\ ∀ j, t'.get j = if j = n then some v else t.get j := by
 intro t
 induction t with
 | leaf => intro n k h; simp [lM] at h
 | node a l r il ir =>
  intro n k h;have h' : @Bool.rec (fun _ => Bool) (@Bool.rec (fun _ => Bool) (lM r (Nat.pred (Nat.div n 2)) v (fun r => k (.node a l r))) (lM l (Nat.div n 2) v (fun l => k (.node a l r))) (Nat.beq (Nat.mod n 2) 1)) (k (.node v l r)) (Nat.beq n 0) = true := h;rw [Bf, par] at h';by_cases h0 : n = 0
  ·subst h0
   refine ⟨_, by simpa using h', by simp [BT.get], fun j => ?_⟩;by_cases hj : j = 0
   ·simp [hj, BT.get]
   ·simp [hj, BT.get]
  ·rw [decide_eq_false h0] at h'
   by_cases h1 : n % 2 = 1
   ·rw [decide_eq_true h1] at h'
    obtain ⟨t', hk, hs, hg⟩ := il h';refine ⟨_, hk, by rw [BT.get, if_neg h0, if_pos h1]; exact hs, fun j => ?_⟩;simp only [BT.get];by_cases hj : j = 0
    ·simp [hj, Ne.symm h0]
    ·by_cases hj1 : j % 2 = 1
     ·rw [if_neg hj, if_pos hj1, hg]
      by_cases he : j = n
      ·subst he; simp; intro hh; exact absurd rfl hh
      ·have : j / 2 ≠ Nat.div n 2 := by show j / 2 ≠ n / 2; omega
       simp [this, he, hj, hj1]
     ·rw [if_neg hj, if_neg hj1]
      have : j ≠ n := fun e => hj1 (e ▸ h1)
      simp [this, hj, hj1]
   ·rw [decide_eq_false h1] at h'
    obtain ⟨t', hk, hs, hg⟩ := ir h';refine ⟨_, hk, by rw [BT.get, if_neg h0, if_neg h1]; exact hs, fun j => ?_⟩;simp only [BT.get];by_cases hj : j = 0
    ·simp [hj, Ne.symm h0]
    ·by_cases hj1 : j % 2 = 1
     ·rw [if_neg hj, if_pos hj1]
      have : j ≠ n := fun e => h1 (e ▸ hj1)
      simp [this, hj, hj1]
     ·rw [if_neg hj, if_neg hj1, hg]
      by_cases he : j = n
      ·subst he; simp; intro hh; exact absurd rfl hh
      ·have : ¬ (j / 2 - 1 = Nat.pred (Nat.div n 2)) := by
        show ¬ (j / 2 - 1 = n / 2 - 1); omega
       rw [if_neg this, if_neg he, if_neg hj, if_neg hj1]
theorem Bg {α : Type} {v : α} : ∀ {t : BT α} {n : Nat} {k : BT α -> Bool}, oN t n v k = true -> ∃ t', k t' = true /\ t.get n = none /\ ∀ j, t'.get j = if j = n then some v else t.get j := by
 intro t
 induction t with
 | leaf =>
  intro n k h;have h' : @Bool.rec (fun _ => Bool) false (k (.node v .leaf .leaf)) (Nat.beq n 0) = true := h;rw [Bf] at h';by_cases h0 : n = 0
  ·subst h0
   refine ⟨_, by simpa using h', rfl, fun j => ?_⟩;by_cases hj : j = 0
   ·simp [hj, BT.get]
   ·simp only [BT.get, hj, if_false]; split <;> rfl
  ·rw [decide_eq_false h0] at h'; cases h'
 | node a l r il ir =>
  intro n k h;have h' : @Bool.rec (fun _ => Bool) (@Bool.rec (fun _ => Bool) (oN r (Nat.pred (Nat.div n 2)) v (fun r => k (.node a l r))) (oN l (Nat.div n 2) v (fun l => k (.node a l r))) (Nat.beq (Nat.mod n 2) 1)) false (Nat.beq n 0) = true := h;rw [Bf, par] at h';by_cases h0 : n = 0
  ·subst h0; cases h'
  ·rw [decide_eq_false h0] at h'
   by_cases h1 : n % 2 = 1
   ·rw [decide_eq_true h1] at h'
    obtain ⟨t', hk, hs, hg⟩ := il h';refine ⟨_, hk, by rw [BT.get, if_neg h0, if_pos h1]; exact hs, fun j => ?_⟩;simp only [BT.get];by_cases hj : j = 0
    ·simp [hj, Ne.symm h0]
    ·by_cases hj1 : j % 2 = 1
     ·rw [if_neg hj, if_pos hj1, hg]
      by_cases he : j = n
      ·subst he; simp; intro hh; exact absurd rfl hh
      ·have : j / 2 ≠ Nat.div n 2 := by show j / 2 ≠ n / 2; omega
       simp [this, he, hj, hj1]
     ·rw [if_neg hj, if_neg hj1]
      have : j ≠ n := fun e => hj1 (e ▸ h1)
      simp [this, hj, hj1]
   ·rw [decide_eq_false h1] at h'
    obtain ⟨t', hk, hs, hg⟩ := ir h';refine ⟨_, hk, by rw [BT.get, if_neg h0, if_neg h1]; exact hs, fun j => ?_⟩;simp only [BT.get];by_cases hj : j = 0
    ·simp [hj, Ne.symm h0]
    ·by_cases hj1 : j % 2 = 1
     ·rw [if_neg hj, if_pos hj1]
      have : j ≠ n := fun e => h1 (e ▸ hj1)
      simp [this, hj, hj1]
     ·rw [if_neg hj, if_neg hj1, hg]
      by_cases he : j = n
      ·subst he; simp; intro hh; exact absurd rfl hh
      ·have : ¬ (j / 2 - 1 = Nat.pred (Nat.div n 2)) := by
        show ¬ (j / 2 - 1 = n / 2 - 1); omega
       rw [if_neg this, if_neg he, if_neg hj, if_neg hj1]
theorem gX {α : Type} : ∀ {l : List α} {t : BT α} {n : Nat} {k : BT α -> Bool}, dT t n l k = true -> ∃ t', k t' = true /\ (∀ i, i < l.length -> (t.get (n + i)).isSome = true) /\ ∀ j, t'.get j = if n <= j /\ j < n + l.length then l[j - n]? else t.get j := by
 intro l
 induction l with
 | nil => intro t n k h; exact ⟨t, h, fun i hi => absurd hi sM, fun j => by rw [if_neg (fun h => by have := h.2; simp at this; omega)]⟩
 | cons v l ih =>
  intro t n k h;have h' : lM t n v (fun t => dT t (Nat.succ n) l k) = true := h;obtain ⟨t1, h1, hs, hg⟩ := mC h';obtain ⟨t2, hk, hs2, hg2⟩ := ih h1;refine ⟨t2, hk, fun i hi => ?_, fun j => ?_⟩
  ·rcases i with _ | i
   ·exact hs
   ·have := hs2 i (by simpa using hi)
    rw [hg, if_neg oM] at this
    rwa [show n + (i + 1) = Nat.succ n + i by omega]
  ·rw [hg2, hg]
   simp only [List.length_cons, Nat.succ_eq_add_one];by_cases he : j = n
   ·subst he
    rw [if_neg oM, if_pos rfl, if_pos oM]; simp
   ·by_cases hr : n + 1 <= j /\ j < n + 1 + l.length
    ·rw [if_pos hr, if_pos oM, show j - n = (j - (n + 1)) + 1 by omega, List.getElem?_cons_succ]
    ·rw [if_neg hr, if_neg he, if_neg oM]
theorem tA {α : Type} : ∀ {l : List α} {t : BT α} {n : Nat} {k : BT α -> Bool}, eB t n l k = true -> ∃ t', k t' = true /\ (∀ i, i < l.length -> t.get (n + i) = none) /\ ∀ j, t'.get j = if n <= j /\ j < n + l.length then l[j - n]? else t.get j := by
 intro l
 induction l with
 | nil => intro t n k h; exact ⟨t, h, fun i hi => absurd hi sM, fun j => by rw [if_neg (fun h => by have := h.2; simp at this; omega)]⟩
 | cons v l ih =>
  intro t n k h;have h' : oN t n v (fun t => eB t (Nat.succ n) l k) = true := h;obtain ⟨t1, h1, hs, hg⟩ := Bg h';obtain ⟨t2, hk, hs2, hg2⟩ := ih h1;refine ⟨t2, hk, fun i hi => ?_, fun j => ?_⟩
  ·rcases i with _ | i
   ·exact hs
   ·have := hs2 i (by simpa using hi)
    rw [hg, if_neg oM] at this
    rwa [show n + (i + 1) = Nat.succ n + i by omega]
  ·rw [hg2, hg]
   simp only [List.length_cons, Nat.succ_eq_add_one];by_cases he : j = n
   ·subst he
    rw [if_neg oM, if_pos rfl, if_pos oM]; simp
   ·by_cases hr : n + 1 <= j /\ j < n + 1 + l.length
    ·rw [if_pos hr, if_pos oM, show j - n = (j - (n + 1)) + 1 by omega, List.getElem?_cons_succ]
    ·rw [if_neg hr, if_neg he, if_neg oM]
theorem rO {α : Type} {t : BT α} : ∀ {n i : Nat} {k : List α -> Bool}, lN t i n k = true -> ∃ l, k l = true /\ l.length = n /\ ∀ j, j < n -> t.get (i + j) = l[j]? := by
 intro n
 induction n with
 | zero => intro i k h; exact ⟨[], h, rfl, fun j hj => absurd hj oM⟩
 | succ n ih =>
  intro i k h;have h' : jR t i (fun v => lN t (Nat.succ i) n (fun l => k (v :: l))) = true := h;obtain ⟨v, hv, h1⟩ := iK h';obtain ⟨l, hk, hl, hg⟩ := ih h1;refine ⟨v :: l, hk, by simp [hl], fun j hj => ?_⟩;rcases j with _ | j
  ·simpa using hv
  ·rw [List.getElem?_cons_succ, <- hg j oM]; congr 1; omega
def XV (T : BT Value) : X -> Value -> Prop
 | .t i, v => T.get i = some v
 | .c u, v => v = u
def Ci (T : BT Value) : List X -> List Value -> Prop
 | [], l => l = []
 | x :: xs, l => ∃ v vs, l = v :: vs /\ XV T x v /\ Ci T xs vs
def Ae (T : BT Value) : List (Nat × Nat × X) -> List (Nat × Nat × Value) -> Prop
 | [], l => l = []
 | (o, n, x) :: xs, l => ∃ v vs, l = (o, n, v) :: vs /\ XV T x v /\ Ae T xs vs
def XO (T : BT Value) : Option X -> Option Value -> Prop
 | none, v => v = none
 | some x, v => ∃ u, v = some u /\ XV T x u
theorem Q4 {T : BT Value} {x : X} {k : Value -> Bool} (h : bF T x k = true) : ∃ v, XV T x v /\ k v = true := by
 cases x with
 | t i => exact iK h
 | c u => exact ⟨u, rfl, h⟩
theorem kU {T : BT Value} : ∀ {l : List X} {k : List Value -> Bool}, gF T l k = true -> ∃ vs, Ci T l vs /\ k vs = true := by
 intro l
 induction l with
 | nil => intro k h; exact ⟨[], rfl, h⟩
 | cons x l ih =>
  intro k h;have h' : bF T x (fun v => gF T l (fun l => k (v :: l))) = true := h;obtain ⟨v, hv, h1⟩ := Q4 h';obtain ⟨vs, hvs, hk⟩ := ih h1;exact ⟨v :: vs, ⟨v, vs, rfl, hv, hvs⟩, hk⟩
theorem lD {T : BT Value} : ∀ {l : List (Nat × Nat × X)} {k : List (Nat × Nat × Value) -> Bool}, mZ T l k = true -> ∃ vs, Ae T l vs /\ k vs = true := by
 intro l
 induction l with
 | nil => intro k h; exact ⟨[], rfl, h⟩
 | cons x l ih =>
  intro k h;obtain ⟨o, n, x⟩ := x;have h' : bF T x (fun v => mZ T l (fun l => k ((o, n, v) :: l))) = true := h;obtain ⟨v, hv, h1⟩ := Q4 h';obtain ⟨vs, hvs, hk⟩ := ih h1;exact ⟨(o, n, v) :: vs, ⟨v, vs, rfl, hv, hvs⟩, hk⟩
theorem fF {T : BT Value} {x : Option X} {k : Option Value -> Bool} (h : dJ T x k = true) : ∃ v, XO T x v /\ k v = true := by
 cases x with
 | none => exact ⟨none, rfl, h⟩
 | some x => obtain ⟨v, hv, hk⟩ := Q4 (k := fun v => k (some v)) h; exact ⟨some v, ⟨v, rfl, hv⟩, hk⟩
theorem wK {a : Option Addr} {z : Bool} {k : Nat -> Nat -> Bool} (h : wG a z k = true) : (a = none /\ z = true) ∨ ∃ b o, a = some ⟨b, o, none⟩ /\ k b o = true := by
 cases a with
 | none => exact .inl ⟨rfl, h⟩
 | some a =>
  obtain ⟨b, o, s⟩ := a;cases s with
  | none => exact .inr ⟨b, o, rfl, h⟩
  | some s => simp [wG] at h
theorem tB {v : Value} {k : IntKind -> Int -> Bool} {z : Bool} (h : qF v k z = true) : (∃ i n, v = .int i n /\ k i n = true) ∨ z = true := by cases v <;> first | exact .inr h | exact .inl ⟨_, _, rfl, h⟩
theorem tC {v : Value} {k : IntKind -> Int -> Bool} (h : qF v k false = true) : ∃ i n, v = .int i n /\ k i n = true := (tB h).resolve_right sM
theorem gY {v : Value} {k : Nat -> Bool} (h : rK v k = true) : ∃ i n, v = .int i (.ofNat n) /\ k n = true := by
 obtain ⟨i, n, rfl, h⟩ := tC h;cases n with
 | ofNat n => exact ⟨i, n, rfl, h⟩
 | negSucc n => exact absurd (show false = true from h) sM
theorem nG {v : Value} {k : Bool -> Bool} (h : nA v k = true) : ∃ b, v = .bool b /\ k b = true := by cases v <;> first | exact ⟨_, rfl, h⟩ | (simp [nA] at h)
theorem uK {v : Value} {k : Bool -> Bool} {z : Bool} (h : nB v k z = true) : (∃ b, v = .bool b /\ k b = true) ∨ ((∀ b, v ≠ .bool b) /\ z = true) := by cases v <;> first | exact .inl ⟨_, rfl, h⟩ | exact .inr ⟨sM, h⟩
theorem kV {v : Value} {k : Nat -> Nat -> Bool} (h : wH v k = true) : ∃ b o, v = .pointer (some ⟨b, o, none⟩) /\ k b o = true := by
 cases v with
 | pointer a =>
  rcases wK h with ⟨_, h⟩ | ⟨b, o, rfl, h⟩
  ·cases h
  ·exact ⟨b, o, rfl, h⟩
 | _ => simp [wH] at h
theorem eS {v : Value} {z : Nat -> Nat -> Bool} {k : Nat -> Nat -> Nat -> Nat -> Bool} (h : eK v z k = true) : (∃ n c, v = .slice none n c /\ z n c = true) ∨ ∃ b o n c, v = .slice (some ⟨b, o, none⟩) n c /\ k b o n c = true := by
 cases v with
 | slice a n c =>
  rcases wK (show wG a (z n c) (fun b off => k b off n c) = true from h) with ⟨rfl, h⟩ | ⟨b, o, rfl, h⟩
  ·exact .inl ⟨n, c, rfl, h⟩
  ·exact .inr ⟨b, o, n, c, rfl, h⟩
 | _ => simp [eK] at h
theorem tD {v : Value} {k : List Value -> Bool} (h : rJ v k = true) : ∃ l, v = .agg ⟨l⟩ /\ k l = true := by
 cases v with
 | agg a => obtain ⟨l⟩ := a; exact ⟨l, rfl, h⟩
 | _ => simp [rJ] at h
theorem Bh {v : Value} {k : List Value -> Bool} (h : nD v k = true) : ∃ l, v = .tuple ⟨l⟩ /\ k l = true := by
 cases v with
 | tuple a => obtain ⟨l⟩ := a; exact ⟨l, rfl, h⟩
 | _ => simp [nD] at h
theorem wL {v : Value} {k : Nat -> List Value -> List Value -> Bool} {y : Nat -> List Value -> Bool} (h : wI v k y = true) :
 (∃ g p c, v = .func (.func g) ⟨p⟩ ⟨c⟩ /\ k g p c = true) ∨ ∃ l p c, v = .func (.yield l) ⟨p⟩ ⟨c⟩ /\ y l p = true := by
 cases v with
 | func f p c =>
  obtain ⟨p⟩ := p; obtain ⟨c⟩ := c;cases f with
  | func g => exact .inl ⟨g, p, c, rfl, h⟩
  | yield l => exact .inr ⟨l, p, c, rfl, h⟩
  | _ => simp [wI] at h
 | _ => simp [wI] at h
theorem mD {s : St} {b : Nat} {k : dK -> Bool} (h : qD s b k = true) : ∃ o, s.h.get b = some o /\ k o = true := by
 obtain ⟨h', n⟩ := s; exact iK h
theorem wM {s : St} {b : Nat} {k : Nat -> BT Value -> Nat -> Bool -> Bool} (h : Ba s b k = true) : ∃ n c e op, s.h.get b = some (.cells n c e op) /\ k n c e op = true := by
 obtain ⟨o, ho, hk⟩ := mD h;cases o with
 | cells n c e op => exact ⟨n, c, e, op, ho, hk⟩
 | _ => simp at hk
theorem wN {s : St} {b : Nat} {kc : BT Value -> Bool} {kr : (Nat -> Option Value) -> Bool} (h : qO s b kc kr = true) : (∃ n c e op, s.h.get b = some (.cells n c e op) /\ kc c = true) ∨ ∃ g, s.h.get b = some (.rom g) /\ kr g = true := by
 obtain ⟨o, ho, hk⟩ := mD h;cases o with
 | cells n c e op => exact .inl ⟨n, c, e, op, ho, hk⟩
 | rom g => exact .inr ⟨g, ho, hk⟩
 | _ => simp at hk
theorem lQ {g : Nat -> Option Value} : ∀ {n i : Nat} {k : List Value -> Bool}, eL g i n k = true -> ∃ l, k l = true /\ l.length = n /\ ∀ j, j < n -> g (i + j) = l[j]?
 | 0, i, k, h => ⟨[], h, rfl, fun j hj => absurd hj (Nat.not_lt_zero j)⟩
 | n + 1, i, k, h => by
  have h1 : nE (g i) (fun v => eL g (Nat.succ i) n (fun l => k (v :: l))) = true := h;obtain ⟨v, hv, h2⟩ := lC h1;obtain ⟨l, h3, h4, h5⟩ := lQ h2;refine ⟨v :: l, h3, by simp [h4], fun j hj => ?_⟩;cases j with
  | zero => exact hv
  | succ j => rw [List.getElem?_cons_succ, <- h5 j oM]; congr 1; omega
def tF (s : St) (b : Nat) (f : Nat -> Option Value) : Prop := (∃ n c e op, s.h.get b = some (.cells n c e op) /\ f = c.get) ∨ s.h.get b = some (.rom f)
theorem wO {s : St} {b off n : Nat} {k : List Value -> Bool} (h : qO s b (fun c => lN c off n k) (fun g => eL g off n k) = true) : ∃ f l, tF s b f /\ k l = true /\ l.length = n /\ ∀ j, j < n -> f (off + j) = l[j]? := by
 rcases wN h with ⟨N, c, e, op, h1, h2⟩ | ⟨g, h1, h2⟩
 ·obtain ⟨l, h3, h4, h5⟩ := rO h2
  exact ⟨_, l, .inl ⟨N, c, e, op, h1, rfl⟩, h3, h4, h5⟩
 ·obtain ⟨l, h3, h4, h5⟩ := lQ h2
  exact ⟨_, l, .inr h1, h3, h4, h5⟩
theorem mE {s : St} {b : Nat} {k : LoopState -> fT -> BT Value -> List Nat -> CC -> CC -> Nat -> Bool} (h : yQ s b k = true) : ∃ st x T ps a c q, s.h.get b = some (.loop st x T ps a c q) /\ k st x T ps a c q = true := by
 obtain ⟨o, ho, hk⟩ := mD h;cases o with
 | loop st x T ps a c q => exact ⟨st, x, T, ps, a, c, q, ho, hk⟩
 | _ => simp at hk
theorem mF {s : St} {o : dK} {k : St -> Bool} (h : iH s o k = true) : ∃ h', k ⟨h', s.n + 1⟩ = true /\ s.h.get s.n = none /\ ∀ j, h'.get j = if j = s.n then some o else s.h.get j := by
 obtain ⟨h0, n⟩ := s;have h' : oN h0 n o (fun h => cI (Nat.succ n) (fun m => k ⟨h, m⟩)) = true := h;obtain ⟨t, hk, hn, hg⟩ := Bg h';exact ⟨t, by simpa using hk, hn, hg⟩
theorem dD {s : St} {b : Nat} {o : dK} {k : St -> Bool} (h : cK s b o k = true) : ∃ h', k ⟨h', s.n⟩ = true /\ (s.h.get b).isSome = true /\ ∀ j, h'.get j = if j = b then some o else s.h.get j := by
 obtain ⟨h0, n⟩ := s;exact mC (k := fun h => k ⟨h, n⟩) h
theorem eU {s : St} {k : Nat -> Bool} (h : A9 s k = true) : k s.n = true := by obtain ⟨h0, n⟩ := s; exact h
theorem Bi {k : Value -> Bool} : ∀ {l : List Value} {i : Nat}, Aa l i k = true -> ∃ v, l[i]? = some v /\ k v = true := by
 intro l
 induction l with
 | nil => intro i h; simp [Aa] at h
 | cons v l ih =>
  intro i h;cases i with
  | zero => exact ⟨v, rfl, h⟩
  | succ i => simpa using ih (i := i) h
theorem F5 : ∀ {l : List Value} {i n : Nat} {k : List Value -> Bool}, Bb l i n k = true -> k ((l.drop i).take n) = true := by
 intro l
 induction l with
 | nil => intro i n k h; cases n with
  | zero => rw [List.drop_nil, List.take_nil]; exact h
  | succ n => simp [Bb] at h
 | cons v l ih =>
  intro i n k h;cases i with
  | zero => cases n with
   | zero => exact h
   | succ n => simpa using ih (i := 0) (n := n) (k := fun l => k (v :: l)) h
  | succ i => simpa using ih (i := i) (n := n) (k := k) h
theorem iL (l : List Value) : kN l = l.length := by
 induction l with
 | nil => rfl
 | cons v l ih => show Nat.succ (kN l) = _; rw [ih]; rfl
theorem pR (l : List Value) (h : dU l = true) : ∀ v ∈ l, oneCell v = true := by
 induction l with
 | nil => simp
 | cons v l ih =>
  obtain ⟨h1, h2⟩ := Z5 (b := oneCell v) (x := dU l) h;intro u hu;rcases List.mem_cons.1 hu with rfl | hu
  ·exact h1
  ·exact ih h2 u hu
end Go.Proofs.YtjkdkpckjgaplaaGreat.Ev
namespace Go.Proofs.YtjkdkpckjgaplaaGreat.Ev
open Go
abbrev Mp := Nat -> Option (Nat × Nat)
mutual
def VR (m : Mp) : Value -> Value -> Prop
 | .pointer (some a), v => a.spot = none /\ ∃ x y, m a.block = some (x, y) /\ v = .pointer (some ⟨x, a.off, none⟩)
 | .slice (some a) n c, v => a.spot = none /\
  (if c < OPEN then ∃ x y, m a.block = some (x, y) /\ v = .slice (some ⟨x, a.off, none⟩) n c
   else if c = OPEN ∨ n ≠ 0 then ∃ x y, m a.block = some (x, y) /\ v = .slice (some ⟨x, a.off, none⟩) n (y - (c - OPEN))
   else ∃ a' c', v = .slice (some a') 0 c')
 | .slice none n c, v => c < OPEN /\ v = .slice none n c
 | .func fn p c, v => match fn with
  | .func f => ∃ p' c', v = .func (.func f) p' c' /\ AR m p p' /\ AR m c c'
  | .yield l => ∃ x y p' c', m l = some (x, y) /\ v = .func (.yield x) p' c' /\ AR m p p' /\ AR m c c'
  | _ => False
 | .map (some r), v => ∃ x y, m r = some (x, y) /\ v = .map (some x)
 | .chan (some _), _ => False
 | .iface t u, v => ∃ u', v = .iface t u' /\ VR m u u'
 | .agg l, v => ∃ l', v = .agg l' /\ AR m l l'
 | .tuple l, v => ∃ l', v = .tuple l' /\ AR m l l'
 | .bool b, v => v = .bool b
 | .int k n, v => v = .int k n
 | .float k n, v => v = .float k n
 | .complex k a b, v => v = .complex k a b
 | .string b, v => v = .string b
 | .pointer none, v => v = .pointer none
 | .map none, v => v = .map none
 | .chan none, v => v = .chan none
 | .nilFunc, v => v = .nilFunc
 | .nilIface, v => v = .nilIface
def AR (m : Mp) : Array Value -> Array Value -> Prop
 | ⟨l⟩, a => ∃ l', a = ⟨l'⟩ /\ LR m l l'
def LR (m : Mp) : List Value -> List Value -> Prop
 | [], l' => l' = []
 | v :: l, l' => ∃ v' t, l' = v' :: t /\ VR m v v' /\ LR m l t
end
def Mp.le (m m' : Mp) : Prop := ∀ i p, m i = some p -> m' i = some p
theorem Mp.le_refl (m : Mp) : m.le m := fun _ _ h => h
theorem Mp.le_trans {a b c : Mp} (h : a.le b) (k : b.le c) : a.le c := fun i p hp => k i p (h i p hp)
mutual
theorem VR.mono {m m' : Mp} (hm : m.le m') : ∀ (v : Value) {u : Value}, VR m v u -> VR m' v u
 | .pointer (some a), u, h => by
  simp only [VR] at h ⊢;obtain ⟨h1, x, y, hx, e⟩ := h;exact ⟨h1, x, y, hm _ _ hx, e⟩
 | .slice (some a) n c, u, h => by
  simp only [VR] at h ⊢;refine ⟨h.1, ?_⟩;have h := h.2;by_cases h1 : c < OPEN
  ·rw [if_pos h1] at h ⊢
   obtain ⟨x, y, hx, e⟩ := h; exact ⟨x, y, hm _ _ hx, e⟩
  ·rw [if_neg h1] at h ⊢
   by_cases h2 : c = OPEN ∨ n ≠ 0
   ·rw [if_pos h2] at h ⊢
    obtain ⟨x, y, hx, e⟩ := h; exact ⟨x, y, hm _ _ hx, e⟩
   ·rw [if_neg h2] at h ⊢
    exact h
 | .slice none n c, u, h => by simpa only [VR] using h
 | .func fn p c, u, h => by
  cases fn with
  | func f =>
   simp only [VR] at h ⊢;obtain ⟨p', c', e, h1, h2⟩ := h;exact ⟨p', c', e, AR.mono hm p h1, AR.mono hm c h2⟩
  | yield l =>
   simp only [VR] at h ⊢;obtain ⟨x, y, p', c', hx, e, h1, h2⟩ := h;exact ⟨x, y, p', c', hm _ _ hx, e, AR.mono hm p h1, AR.mono hm c h2⟩
  | _ => simp [VR] at h
 | .map (some _), u, h => by
  simp only [VR] at h ⊢;obtain ⟨x, y, hx, e⟩ := h;exact ⟨x, y, hm _ _ hx, e⟩
 | .chan (some _), u, h => by simp [VR] at h
 | .iface t w, u, h => by
  simp only [VR] at h ⊢;obtain ⟨w', e, h1⟩ := h;exact ⟨w', e, VR.mono hm w h1⟩
 | .agg l, u, h => by
  simp only [VR] at h ⊢;obtain ⟨l', e, h1⟩ := h;exact ⟨l', e, AR.mono hm l h1⟩
 | .tuple l, u, h => by
  simp only [VR] at h ⊢;obtain ⟨l', e, h1⟩ := h;exact ⟨l', e, AR.mono hm l h1⟩
 | .bool b, u, h => by simpa only [VR] using h
 | .int k n, u, h => by simpa only [VR] using h
 | .float k n, u, h => by simpa only [VR] using h
 | .complex k a b, u, h => by simpa only [VR] using h
 | .string b, u, h => by simpa only [VR] using h
 | .pointer none, u, h => by simpa only [VR] using h
 | .map none, u, h => by simpa only [VR] using h
 | .chan none, u, h => by simpa only [VR] using h
 | .nilFunc, u, h => by simpa only [VR] using h
 | .nilIface, u, h => by simpa only [VR] using h
theorem AR.mono {m m' : Mp} (hm : m.le m') : ∀ (v : Array Value) {u : Array Value}, AR m v u -> AR m' v u
 | ⟨l⟩, u, h => by
  simp only [AR] at h ⊢;obtain ⟨l', e, h1⟩ := h;exact ⟨l', e, LR.mono hm l h1⟩
theorem LR.mono {m m' : Mp} (hm : m.le m') : ∀ (v : List Value) {u : List Value}, LR m v u -> LR m' v u
 | [], u, h => by simpa only [LR] using h
 | v :: l, u, h => by
  simp only [LR] at h ⊢;obtain ⟨v', t, e, h1, h2⟩ := h;exact ⟨v', t, e, VR.mono hm v h1, LR.mono hm l h2⟩
end
mutual
theorem VR.flat {m : Mp} : ∀ (v : Value), flat v = true -> VR m v v
 | .pointer (some a), h => by simp [Ev.flat] at h
 | .slice (some a) n c, h => by simp [Ev.flat] at h
 | .slice none n c, h => by simp [Ev.flat, Nat.blt_eq] at h; simp only [VR]; exact ⟨h, trivial⟩
 | .func fn p c, h => by
  cases fn with
  | func f =>
   simp only [Ev.flat, Bool.true_and, Bool.and_eq_true] at h;simp only [VR];exact ⟨p, c, rfl, AR.flat p h.1, AR.flat c h.2⟩
  | _ => simp [Ev.flat] at h
 | .map (some _), h => by simp [Ev.flat] at h
 | .chan (some _), h => by simp [Ev.flat] at h
 | .iface t w, h => by simp only [Ev.flat] at h; simp only [VR]; exact ⟨w, rfl, VR.flat w h⟩
 | .agg l, h => by simp only [Ev.flat] at h; simp only [VR]; exact ⟨l, rfl, AR.flat l h⟩
 | .tuple l, h => by simp only [Ev.flat] at h; simp only [VR]; exact ⟨l, rfl, AR.flat l h⟩
 | .bool b, h => by simp only [VR]
 | .int k n, h => by simp only [VR]
 | .float k n, h => by simp only [VR]
 | .complex k a b, h => by simp only [VR]
 | .string b, h => by simp only [VR]
 | .pointer none, h => by simp only [VR]
 | .map none, h => by simp only [VR]
 | .chan none, h => by simp only [VR]
 | .nilFunc, h => by simp only [VR]
 | .nilIface, h => by simp only [VR]
theorem AR.flat {m : Mp} : ∀ (v : Array Value), flatA v = true -> AR m v v
 | ⟨l⟩, h => by simp only [flatA] at h; simp only [AR]; exact ⟨l, rfl, LR.flat l h⟩
theorem LR.flat {m : Mp} : ∀ (v : List Value), flatL v = true -> LR m v v
 | [], h => by simp only [LR]
 | v :: l, h => by
  simp only [flatL, Bool.and_eq_true] at h;simp only [LR];exact ⟨v, l, rfl, VR.flat v h.1, LR.flat l h.2⟩
end
mutual
theorem VR.same {m : Mp} : ∀ (v : Value) {u : Value}, flat v = true -> VR m v u -> u = v
 | .pointer (some a), u, h, _ => by simp [Ev.flat] at h
 | .slice (some a) n c, u, h, _ => by simp [Ev.flat] at h
 | .slice none n c, u, h, k => by simp only [VR] at k; exact k.2
 | .func fn p c, u, h, k => by
  cases fn with
  | func f =>
   simp only [Ev.flat, Bool.true_and, Bool.and_eq_true] at h;simp only [VR] at k;obtain ⟨p', c', rfl, h1, h2⟩ := k;rw [AR.same p h.1 h1, AR.same c h.2 h2]
  | _ => simp [Ev.flat] at h
 | .map (some _), u, h, _ => by simp [Ev.flat] at h
 | .chan (some _), u, h, _ => by simp [Ev.flat] at h
 | .iface t w, u, h, k => by
  simp only [Ev.flat] at h; simp only [VR] at k;obtain ⟨w', rfl, h1⟩ := k;rw [VR.same w h h1]
 | .agg l, u, h, k => by
  simp only [Ev.flat] at h; simp only [VR] at k;obtain ⟨l', rfl, h1⟩ := k;rw [AR.same l h h1]
 | .tuple l, u, h, k => by
  simp only [Ev.flat] at h; simp only [VR] at k;obtain ⟨l', rfl, h1⟩ := k;rw [AR.same l h h1]
 | .bool b, u, h, k => by simpa only [VR] using k
 | .int _ n, u, h, k => by simpa only [VR] using k
 | .float _ n, u, h, k => by simpa only [VR] using k
 | .complex _ a b, u, h, k => by simpa only [VR] using k
 | .string b, u, h, k => by simpa only [VR] using k
 | .pointer none, u, h, k => by simpa only [VR] using k
 | .map none, u, h, k => by simpa only [VR] using k
 | .chan none, u, h, k => by simpa only [VR] using k
 | .nilFunc, u, h, k => by simpa only [VR] using k
 | .nilIface, u, h, k => by simpa only [VR] using k
theorem AR.same {m : Mp} : ∀ (v : Array Value) {u : Array Value}, flatA v = true -> AR m v u -> u = v
 | ⟨l⟩, u, h, k => by
  simp only [flatA] at h; simp only [AR] at k;obtain ⟨l', rfl, h1⟩ := k;rw [LR.same l h h1]
theorem LR.same {m : Mp} : ∀ (v : List Value) {u : List Value}, flatL v = true -> LR m v u -> u = v
 | [], u, h, k => by simpa only [LR] using k
 | v :: l, u, h, k => by
  simp only [flatL, Bool.and_eq_true] at h;simp only [LR] at k;obtain ⟨v', t, rfl, h1, h2⟩ := k;rw [VR.same v h.1 h1, LR.same l h.2 h2]
end
theorem LR.length {m : Mp} : ∀ {l l' : List Value}, LR m l l' -> l'.length = l.length
 | [], _, h => by simp only [LR] at h; simp [h]
 | v :: l, _, h => by simp only [LR] at h; obtain ⟨v', t, rfl, _, h2⟩ := h; simp [LR.length h2]
theorem LR.get {m : Mp} : ∀ {l l' : List Value} {i : Nat} {v : Value}, LR m l l' -> l[i]? = some v -> ∃ v', l'[i]? = some v' /\ VR m v v'
 | [], _, i, v, h, hv => by simp at hv
 | w :: l, _, i, v, h, hv => by
  simp only [LR] at h;obtain ⟨w', t, rfl, h1, h2⟩ := h;rcases i with _ | i
  ·simp at hv; subst hv; exact ⟨w', rfl, h1⟩
  ·simp at hv ⊢; exact LR.get h2 hv
theorem LR.of_get {m : Mp} : ∀ {l l' : List Value}, l'.length = l.length -> (∀ (i : Nat) (v : Value), l[i]? = some v -> ∃ v', l'[i]? = some v' /\ VR m v v') -> LR m l l'
 | [], l', h, _ => by simp only [LR]; exact List.eq_nil_of_length_eq_zero (by simpa using h)
 | v :: l, l', h, k => by
  rcases l' with _ | ⟨v', t⟩
  ·simp at h
  ·simp only [LR]
   obtain ⟨u, hu, hr⟩ := k 0 v rfl;simp at hu; subst hu;exact ⟨v', t, rfl, hr, LR.of_get (by simpa using h) (fun i w hw => by simpa using k (i + 1) w (by simpa using hw))⟩
theorem LR.append {m : Mp} : ∀ {a a' b b' : List Value}, LR m a a' -> LR m b b' -> LR m (a ++ b) (a' ++ b')
 | [], _, _, _, h, k => by simp only [LR] at h; subst h; simpa using k
 | v :: l, _, _, _, h, k => by
  simp only [LR] at h;obtain ⟨v', t, rfl, h1, h2⟩ := h;simp only [List.cons_append, LR];exact ⟨v', t ++ _, rfl, h1, LR.append h2 k⟩
theorem VR.plain {m : Mp} {v u : Value} (h : VR m v u) (hv : ∀ l, v ≠ .agg l) : (v.cells = #[v] /\ u.cells = #[u]) /\ oneCell u = oneCell v := by
 cases v with
 | agg l => exact absurd rfl (hv l)
 | pointer a =>
  cases a with
  | none => simp only [VR] at h; subst h; exact ⟨⟨rfl, rfl⟩, rfl⟩
  | some a => simp only [VR] at h; obtain ⟨_, x, y, _, rfl⟩ := h; exact ⟨⟨rfl, rfl⟩, rfl⟩
 | slice a n c =>
  cases a with
  | none => simp only [VR] at h; obtain ⟨_, rfl⟩ := h; exact ⟨⟨rfl, rfl⟩, rfl⟩
  | some a =>
   simp only [VR] at h;have h := h.2;by_cases h1 : c < OPEN
   ·rw [if_pos h1] at h; obtain ⟨x, y, _, rfl⟩ := h; exact ⟨⟨rfl, rfl⟩, rfl⟩
   ·rw [if_neg h1] at h
    by_cases h2 : c = OPEN ∨ n ≠ 0
    ·rw [if_pos h2] at h; obtain ⟨x, y, _, rfl⟩ := h; exact ⟨⟨rfl, rfl⟩, rfl⟩
    ·rw [if_neg h2] at h; obtain ⟨x, y, rfl⟩ := h; exact ⟨⟨rfl, rfl⟩, rfl⟩
 | func fn p c =>
  cases fn with
  | func f => simp only [VR] at h; obtain ⟨p', c', rfl, _⟩ := h; exact ⟨⟨rfl, rfl⟩, rfl⟩
  | yield l => simp only [VR] at h; obtain ⟨x, y, p', c', _, rfl, _⟩ := h; exact ⟨⟨rfl, rfl⟩, rfl⟩
  | _ => simp [VR] at h
 | map a =>
  cases a with
  | none => simp only [VR] at h; subst h; exact ⟨⟨rfl, rfl⟩, rfl⟩
  | some a => simp only [VR] at h; obtain ⟨x, y, _, rfl⟩ := h; exact ⟨⟨rfl, rfl⟩, rfl⟩
 | chan a =>
  cases a with
  | none => simp only [VR] at h; subst h; exact ⟨⟨rfl, rfl⟩, rfl⟩
  | some a => simp [VR] at h
 | iface t w => simp only [VR] at h; obtain ⟨w', rfl, _⟩ := h; exact ⟨⟨rfl, rfl⟩, rfl⟩
 | tuple l => simp only [VR] at h; obtain ⟨w', rfl, _⟩ := h; exact ⟨⟨rfl, rfl⟩, rfl⟩
 | _ => simp only [VR] at h; subst h; exact ⟨⟨rfl, rfl⟩, rfl⟩
theorem VR.cells {m : Mp} {v u : Value} (h : VR m v u) : LR m v.cells.toList u.cells.toList := by
 by_cases hv : ∃ l, v = .agg l
 ·obtain ⟨⟨l⟩, rfl⟩ := hv
  simp only [VR, AR] at h;obtain ⟨l', rfl, l2, rfl, h1⟩ := h;exact h1
 ·obtain ⟨⟨h1, h2⟩, _⟩ := h.plain (fun l e => hv ⟨l, e⟩)
  rw [h1, h2];simp only [LR];exact ⟨u, [], rfl, h, rfl⟩
theorem VR.one {m : Mp} {v u : Value} (h : VR m v u) : oneCell u = oneCell v := by
 by_cases hv : ∃ l, v = .agg l
 ·obtain ⟨l, rfl⟩ := hv
  simp only [VR] at h;obtain ⟨l', rfl, h1⟩ := h;rfl
 ·exact (h.plain (fun l e => hv ⟨l, e⟩)).2
end Go.Proofs.YtjkdkpckjgaplaaGreat.Ev
