import Derived.Test.YtjkdkpckjgaplaaGreatZh03
import Derived.OrdersIn
import Derived.Scope
import Derived.RangeFuncRecord
set_option linter.unusedVariables false
set_option linter.unusedSimpArgs false
namespace Go.Proofs.YtjkdkpckjgaplaaGreat.Ev
open Go Go.RowKit
def Fr (r : Option Nat) : Fence := { Fence.wide with round := r }
theorem wV {r : Option Nat} {n : Nat} {P : Program} {f : FuncId} {args : Array Value} {w : World} {R : Ending -> World -> Prop} (h : CallsIn Fence.wide 0 P f args w R) : CallsIn (Fr r) n P f args w R :=
 ⟨trivial, fun cs _ => h.2 cs (room_wide _)⟩
def Bl (P : Program) (K : Kp) (B : Nat) (m : Mp) (w : World) (k : Value -> St -> Bool) : Ending -> World -> Prop
 | .returned u, w' => ∃ v s' m', k v s' = true /\ m.le m' /\ cN P K B m' s' w' /\ Below B w w' /\ VR m' v u
 | _, _ => False
structure iQ (P : Program) (K : Kp) (B : Nat) (O : OK) : Prop where
 call : ∀ {f : FuncId} {vs : List Value} {s : St} {k : Value -> St -> Bool}, O.call f vs s k = true -> ∀ {m : Mp} {w : World} {us : List Value}, cN P K B m s w -> LR m vs us ->
  (∀ w, (callFunc f ⟨us⟩).run P w = .ok (.enter f ⟨us⟩) w) /\ CallsIn Fence.wide 0 P f ⟨us⟩ w (Bl P K B m w k)
 round : ∀ {l : Nat} {vs : List Value} {s : St} {k : Value -> St -> Bool}, Cs O l vs s k = true -> ∀ {m : Mp} {w : World} {us : List Value} {x y : Nat}, m l = some (x, y) -> cN P K B m s w -> LR m vs us ->
  ∃ f tmps assign body, (Instr.yield x ⟨us⟩).run P w = .ok (.round x f tmps assign body) w /\ ∀ r n, RoundIn (Fr r) n P x f tmps assign body w (Bl P K B m w k)
theorem Ak {m : Mp} {T : BT Value} {a : Act} (hT : TR m T a.tmps) {x : Operand} {X : X} {v : Value} (hx : cx x = some X) (hv : XV T X v) : VR m v (a.eval x) := by
 cases x with
 | tmp t =>
  simp only [cx, Option.some.injEq] at hx;subst hx;obtain ⟨v', h1, h2⟩ := hT t v hv;have : a.eval (.tmp t) = v' := by simp [Act.eval, Array.getD_eq_getD_getElem?, h1]
  rw [this];exact h2
 | const u =>
  simp only [cx] at hx;obtain ⟨hf, hx⟩ := bU hx;cases hx;simp only [XV] at hv;subst hv;exact VR.flat v hf
 | func f =>
  simp only [cx, Option.some.injEq] at hx;subst hx;simp only [XV] at hv;subst hv;exact VR.flat _ (by simp [flat, flatA, flatL])
 | global g => cases hx
theorem Jl {m : Mp} {T : BT Value} {a : Act} (hT : TR m T a.tmps) (op : Op) : Hρ m T a.eval op := fun _ _ _ _ hx hv => Ak hT hx hv
theorem Gi {m : Mp} {T : BT Value} {a : Act} (hT : TR m T a.tmps) {d : Option Nat} {v u : Value} {k : BT Value -> Bool} (hv : VR m v u) (hk : gW T d v k = true) : ∃ T', k T' = true /\ TR m T' (a.put d u).tmps /\ (a.put d u).defers = a.defers := by
 cases d with
 | none => exact ⟨T, hk, hT, rfl⟩
 | some d =>
  obtain ⟨T', hk, hd, hg⟩ := mC (k := k) hk;refine ⟨T', hk, fun t x ht => ?_, rfl⟩;obtain ⟨x0, hx0⟩ := Option.isSome_iff_exists.1 hd;obtain ⟨x1, h1, _⟩ := hT d x0 hx0;have hlt : d < a.tmps.size := (Array.getElem?_eq_some_iff.1 h1).1;rw [hg] at ht;by_cases h : t = d
  ·subst h
   rw [if_pos rfl] at ht;cases ht;exact ⟨u, by simp [Act.put, hlt], hv⟩
  ·rw [if_neg h] at ht
   obtain ⟨x', h2, h3⟩ := hT t x ht;exact ⟨x', by simp only [Act.put]; rw [Array.getElem?_setIfInBounds_ne oM]; exact h2, h3⟩
theorem Cz {P : Program} {O : OK} {T : BT Value} {s : St} {c : COp} {k : Value -> St -> Bool} (h : fU P O T s c k = true) : V6 P T s c k = true ∨ ∃ f l, c = .call f l /\ bF T f (fun f => gF T l (fun l => oV O s l f k)) = true := by
 cases c <;> first | exact .inl h | exact .inr ⟨_, _, rfl, h⟩
theorem pU (a b : List Value) : yI a b = a ++ b := by
 induction a with
 | nil => rfl
 | cons v l ih => show v :: yI l b = _; rw [ih]; rfl
section
variable {P : Program} {K : Kp} {B : Nat} {m : Mp} {s : St} {w : World} {T : BT Value} {dst : Option Tmp} {ty : TypeId} {pos : String} {af : Array Edge} {gd : Option (Nat × Bool)} {c : COp}
theorem Jm {op : Op} {X : Ev.X} {l : List Ev.X} (hn : Cy op = true) (hc : compOp P ⟨dst, op, ty, pos, af, gd⟩ = some (.call X l)) : False := by
 have hm : ∀ {α : Type} {x : Option α} {f : α -> COp}, (∀ a, f a ≠ .call X l) -> x.map f = some (.call X l) -> False := by
  intro α x f hf h;obtain ⟨a, _, e⟩ := Option.map_eq_some_iff.1 h;exact hf a e
 have hs : ∀ {b : Bool} {c : COp}, c ≠ .call X l -> sel b (some c) none = some (.call X l) -> False := by
  intro b c hc h;obtain ⟨_, h⟩ := bU h;exact hc (Option.some.inj h)
 have hs2 : ∀ {b : Bool} {c : COp}, c ≠ .call X l -> sel b none (some c) = some (.call X l) -> False := by
  intro b c hc h;cases b with
  | true => cases h
  | false => exact hc (Option.some.inj h)
 cases op with
 | call cl =>
  obtain ⟨ce, args, ts⟩ := cl;cases ce with
  | value f => cases hn
  | invoke => cases hc
  | builtin b =>
   simp only [compOp] at hc
   repeat' split at hc
   all_goals first | exact hm sM hc | exact hs sM hc | (cases hc; done) | (obtain ⟨_, hc⟩ := bU hc; cases hc; done)
 | makeFunc fn => cases fn with
  | func f =>
   simp only [compOp] at hc
   repeat' split at hc
   all_goals cases hc
  | _ => cases hc
 | makeMap t r => cases r <;> cases hc
 | _ =>
  simp only [compOp] at hc
  repeat' split at hc
  all_goals first | exact hm sM hc | exact hs sM hc | exact hs2 sM hc | (cases hc; done)
def Bm (P : Program) (K : Kp) (B : Nat) (m : Mp) (a : Act) (w : World) (k : BT Value -> St -> Bool) (a' : Act) (w' : World) : Prop :=
 ∃ T' s' m', k T' s' = true /\ m.le m' /\ cN P K B m' s' w' /\ TR m' T' a'.tmps /\ a'.defers = a.defers /\ Below B w w'
def Gj (P : Program) (K : Kp) (B : Nat) (m : Mp) (a : Act) (w : World) (d : Option Tmp) (k : Value -> St -> Bool) (a' : Act) (w' : World) : Prop :=
 ∃ v u s' m', k v s' = true /\ m.le m' /\ cN P K B m' s' w' /\ Below B w w' /\ VR m' v u /\ a' = a.put d u
theorem wW {O : OK} (hO : iQ P K B O) {r : Option Nat} {n : Nat} {o : Oper} {a : Act} {k : Value -> St -> Bool} {Q : Exit -> Act -> World -> Prop} (hc : compOp P o = some c) (E : cN P K B m s w) (hρ : Hρ m T a.eval o.op)
 (hk : fU P O T s c k = true) : o.wpIn (Fr r) n P a w (Gj P K B m a w o.dst k) Q := by
 obtain ⟨dst, op, ty, pos, af, gd⟩ := o;have hdef : ∀ cl, op ≠ .defer cl := by
  rintro cl rfl;cases hc
 refine ⟨fun _ _ => trivial, ?_⟩;have hsem : Oper.semAt (Fr r).round a.eval ⟨dst, op, ty, pos, af, gd⟩ = execOp a.eval ⟨dst, op, ty, pos, af, gd⟩ := Oper.semAt_eq _ _ _ hdef;rw [hsem];have fin : ∀ {v u : Value} {s' : St} {m' : Mp} {w' : World}, k v s' = true -> m.le m' -> cN P K B m' s' w' -> Below B w w' -> VR m' v u -> Gj P K B m a w dst k (a.put dst u) w' := by
  intro v u s' m' w' hk hle hE hB hv;exact ⟨v, u, s', m', hk, hle, hE, hB, hv, rfl⟩
 by_cases hn : Cy op = true
 ·rcases Cz hk with hk | ⟨X, l, rfl, _⟩
  ·obtain ⟨v, s', hk, m', w', nx, hr, hfi, hle, hE, hB, hv⟩ := Nq hn hc hρ E hk
   rw [hr];cases nx with
   | value u => exact fin hk hle hE hB hv
   | skip => exact fin hk hle hE hB hv
   | _ => exact hfi.elim
  ·exact (Jm hn hc).elim
 ·have : ∃ f args ts, op = .call ⟨.value f, args, ts⟩ := by
   cases op with
   | call cl =>
    obtain ⟨ce, args, ts⟩ := cl;cases ce with
    | value f => exact ⟨f, args, ts, rfl⟩
    | _ => exact absurd rfl hn
   | _ => exact absurd rfl hn
  obtain ⟨f, args, ts, rfl⟩ := this;simp only [compOp] at hc;split at hc
  ·rename_i X l h1 h2
   cases hc;have hk0 : bF T X (fun f => gF T l (fun l => oV O s l f k)) = true := hk;obtain ⟨fv, hf, hk1⟩ := Q4 hk0;obtain ⟨vs, hv, hk2⟩ := kU hk1;have ef := hρ f (by simp [Op.operands, Call.operands]) X fv h1 hf;have ea := wT h2 hv (ρ := a.eval) (fun x hx X v => hρ x (by simp only [Op.operands, Call.operands]; exact Array.mem_append.2 (.inr (by simpa using hx))) X v);have ex : execOp a.eval ⟨dst, .call ⟨.value f, args, ts⟩, ty, pos, af, gd⟩ = (do let d <- Deferred.ofValue (a.eval f) ⟨args.toList.map a.eval⟩; invoke d.target d.args) := by
    rw [<- rP];rfl
   have ends : ∀ {e : Ending} {w' : World}, Bl P K B m w k e w' -> (match (generalizing := false) e, w' with
    | .returned v, w'' => Gj P K B m a w dst k (a.put dst v) w''
    | .panicked chain, w'' => Q (.panic chain) a w''
    | .outgrown, _ => LetsOut Q) := by
    intro e w' h;cases e with
    | returned u =>
     obtain ⟨v, s', m', hk, hle, hE, hB, hv⟩ := h;exact fin hk hle hE hB hv
    | panicked => exact h.elim
    | outgrown => exact h.elim
   rcases wL hk2 with ⟨g, p, cc, rfl, hk3⟩ | ⟨q, p, cc, rfl, hk3⟩
   ·simp only [VR, AR] at ef
    obtain ⟨p', c', hfe, ⟨pl, rfl, hp⟩, ⟨cl, rfl, hcl⟩⟩ := ef;rw [pU, pU] at hk3;obtain ⟨hcf, hcall⟩ := hO.call hk3 E (hp.append (ea.append hcl));rw [ex, hfe];have : (do let d <- Deferred.ofValue (.func (.func g) ⟨pl⟩ ⟨cl⟩) ⟨args.toList.map a.eval⟩; invoke d.target d.args : Sem Next).run P w = .ok (.enter g ⟨pl ++ (args.toList.map a.eval ++ cl)⟩) w := by
     have := hcf w;show (callFunc g ((⟨pl⟩ ++ ⟨args.toList.map a.eval⟩ : Array Value) ++ ⟨cl⟩)).run P w = _;have e : ((⟨pl⟩ ++ ⟨args.toList.map a.eval⟩ : Array Value) ++ ⟨cl⟩) = ⟨pl ++ (args.toList.map a.eval ++ cl)⟩ := by
      apply Array.ext'
      simp
     rw [e];exact this
    rw [this, Oper.uponIn_enter];refine ⟨fun h => (by cases h), CallsIn.mono (wV hcall) (fun e w' h => ?_)⟩;have := ends h;cases e <;> exact this
   ·simp only [VR, AR] at ef
    obtain ⟨x, y, p', c', hm, hfe, ⟨pl, rfl, hp⟩, ⟨cl, rfl, hcl⟩⟩ := ef;rw [pU] at hk3;obtain ⟨fn, tmps, assign, body, hy, hround⟩ := hO.round hk3 hm E (hp.append ea);rw [ex, hfe];have : (do let d <- Deferred.ofValue (.func (.yield x) ⟨pl⟩ ⟨cl⟩) ⟨args.toList.map a.eval⟩; invoke d.target d.args : Sem Next).run P w = .ok (.round x fn tmps assign body) w := by
     show (Instr.yield x (⟨pl⟩ ++ ⟨args.toList.map a.eval⟩ : Array Value)).run P w = _;have e : (⟨pl⟩ ++ ⟨args.toList.map a.eval⟩ : Array Value) = ⟨pl ++ args.toList.map a.eval⟩ := by
      apply Array.ext'
      simp
     rw [e];exact hy
    rw [this, Oper.uponIn_round];refine ⟨fun h => (by cases h), RoundIn.mono (hround r (n - 1)) (fun e w' h => ?_)⟩;have := ends h;cases e <;> exact this
  ·cases hc
theorem Jn {O : OK} (hO : iQ P K B O) {r : Option Nat} {n : Nat} {o : Oper} {a : Act} {k : BT Value -> St -> Bool} {Q : Exit -> Act -> World -> Prop} (hc : compOp P o = some c) (E : cN P K B m s w) (hT : TR m T a.tmps)
 (hk : fU P O T s c (fun v s' => gW T o.dst v (fun T' => k T' s')) = true) : o.wpIn (Fr r) n P a w (Bm P K B m a w k) Q := by
 refine Oper.wpIn_mono ?_ (wW hO hc E (Jl hT o.op) hk);rintro a' w' ⟨v, u, s', m', hk, hle, hE, hB, hv, rfl⟩;obtain ⟨T', h1, h2, h3⟩ := Gi (hT.mono hle) hv hk;exact ⟨T', s', m', h1, hle, hE, h2, h3, hB⟩
end
end Go.Proofs.YtjkdkpckjgaplaaGreat.Ev
namespace Go.Proofs.YtjkdkpckjgaplaaGreat.Ev
open Go Go.RowKit
theorem Mp.le.trans {a b c : Mp} (h : a.le b) (k : b.le c) : a.le c := Mp.le_trans h k
theorem VR.bool_back {m : Mp} {v : Value} {b : Bool} (h : VR m v (.bool b)) : v = .bool b := by
 cases v with
 | func f p c => cases f <;> simp [VR] at h
 | pointer a => rcases a with _ | ⟨_, _, _ | _⟩ <;> simp [VR] at h
 | slice a n c => rcases a with _ | ⟨_, _, _ | _⟩ <;> simp [VR] at h
 | map a => cases a <;> simp [VR] at h
 | chan a => cases a <;> simp [VR] at h
 | _ => simp_all [VR]
section
variable {P : Program} {K : Kp} {B : Nat} {m : Mp} {s : St} {w : World} {T : BT Value}
theorem CA {g : Option (Nat × Bool)} {y n : Bool} {ops : Array Oper} {o : Oper} {i : Nat} {a : Act} (hT : TR m T a.tmps) (hg : (o.guard = none /\ g = none) ∨ ∃ j w t, o.guard = some (j, w) /\ (ops[j]?).bind (·.dst) = some t /\ g = some (t, w)) (hk : iJ T g y n = true) :
 (Region.wanted o (yielded ops a.tmps) = true /\ y = true) ∨ (Region.wanted o (yielded ops a.tmps) = false /\ n = true) := by
 rcases hg with ⟨h1, rfl⟩ | ⟨j, w, t, h1, h2, rfl⟩
 ·exact .inl ⟨by simp [Region.wanted, h1], hk⟩
 ·have hk0 : jR T t (fun v => nB v (fun b => @Bool.rec (fun _ => Bool) (@Bool.rec (fun _ => Bool) y n w) (@Bool.rec (fun _ => Bool) n y w) b) n) = true := hk
  obtain ⟨v, hv, hk1⟩ := iK hk0;obtain ⟨u, hu, hvu⟩ := hT t v hv;have hy : yielded ops a.tmps j = match u with | .bool b => some b | _ => none := by
   unfold yielded;rw [h2];simp only [Option.bind_some, hu];cases u <;> rfl
  rcases uK hk1 with ⟨b, rfl, hk2⟩ | ⟨hb, hk2⟩
  ·have : u = .bool b := by simpa only [VR] using hvu
   subst this;simp only at hy;cases b <;> cases w <;> first | exact .inl ⟨by simp [Region.wanted, h1, hy], hk2⟩ | exact .inr ⟨by simp [Region.wanted, h1, hy], hk2⟩
  ·refine .inr ⟨?_, hk2⟩
   have : yielded ops a.tmps j = none := by
    rw [hy];cases u with
    | bool b => exact absurd hvu.bool_back (hb b)
    | _ => rfl
   simp [Region.wanted, h1, this]
theorem nJ {ops : Array Oper} {i : Nat} {x : Item} (h : compItem P ops i = some x) :
 ∃ o, ops[i]? = some o /\ x.d = o.dst /\ x.op = orBad (compOp P o) /\ ((o.guard = none /\ x.g = none) ∨ ∃ j w t, o.guard = some (j, w) /\ (ops[j]?).bind (·.dst) = some t /\ x.g = some (t, w)) := by
 unfold compItem at h;split at h
 ·rename_i o ho
  split at h
  ·rename_i hg
   cases h;exact ⟨o, ho, rfl, rfl, .inl ⟨hg, rfl⟩⟩
  ·rename_i j w hg
   split at h
   ·rename_i t ht
    cases h;exact ⟨o, ho, rfl, rfl, .inr ⟨j, w, t, hg, ht, rfl⟩⟩
   ·cases h
 ·cases h
theorem Am {ops : Array Oper} {i : Nat} {l : List Nat} {items : List Item} (h : itemsOf P ops ((i :: l).map (·, [])) = some items) : ∃ x xs, items = x :: xs /\ compItem P ops i = some x /\ itemsOf P ops (l.map (·, [])) = some xs := by
 simp only [List.map_cons, itemsOf, agains] at h;split at h
 ·rename_i x y xs h1 h2 h3
  cases h;cases h2;exact ⟨x, xs, rfl, h1, h3⟩
 ·cases h
theorem Bn {O : OK} (hO : iQ P K B O) {r : Option Nat} {n : Nat} {ops : Array Oper} {Q : Exit -> Act -> World -> Prop} {k : BT Value -> St -> Bool} : ∀ (l : List Nat) {items : List Item} {T : BT Value} {s : St} {m : Mp} {w : World} {a : Act}, itemsOf P ops (l.map (·, [])) = some items -> cN P K B m s w -> TR m T a.tmps ->
 dW P O items T s k = true -> (∀ a' w', Bm P K B m a w k a' w' -> Q .normal a' w') -> wpOpsIn (Fr r) n P ops Q l a w
 | [], items, T, s, m, w, a, hi, E, hT, hk, hQ => by
  cases hi;exact hQ a w ⟨T, s, m, hk, Mp.le_refl m, E, hT, rfl, Below.refl B w⟩
 | i :: l, items, T, s, m, w, a, hi, E, hT, hk, hQ => by
  obtain ⟨⟨g, d, op⟩, xs, rfl, hx, hxs⟩ := Am hi;obtain ⟨o, ho, hd, hop, hg⟩ := nJ hx;simp only at hd hop hg;subst hd hop;have rec_ : ∀ a' w', Bm P K B m a w (fun T s => dW P O xs T s k) a' w' -> wpOpsIn (Fr r) n P ops Q l a' w' := by
   rintro a' w' ⟨T', s', m', h1, h2, h3, h4, h5, h6⟩;refine Bn hO l hxs h3 h4 h1 (fun a'' w'' h => hQ a'' w'' ?_);obtain ⟨T'', s'', m'', g1, g2, g3, g4, g5, g6⟩ := h;exact ⟨T'', s'', m'', g1, h2.trans g2, g3, g4, by rw [g5, h5], h6.trans g6⟩
  have hk0 : iJ T g (fU P O T s (orBad (compOp P o)) (fun v s => gW T o.dst v (fun T => dW P O xs T s k))) (gW T o.dst undef (fun T => dW P O xs T s k)) = true := hk;simp only [wpOpsIn, ho];rcases CA (i := i) hT hg hk0 with ⟨h1, h2⟩ | ⟨h1, h2⟩
  ·rw [if_pos h1]
   cases hc : compOp P o with
   | none => rw [hc] at h2; cases h2
   | some c =>
    rw [hc] at h2;exact Oper.wpIn_mono rec_ (Jn hO (k := fun T s => dW P O xs T s k) hc E hT h2)
  ·rw [if_neg (by rw [h1]; simp)]
   refine ⟨fun _ _ => trivial, rec_ _ _ ?_⟩;obtain ⟨T', h3, h4, h5⟩ := Gi hT (VR.flat undef rfl) h2;exact ⟨T', s, m, h3, Mp.le_refl m, E, h4, h5, Below.refl B w⟩
/-! ## Code -/
def PW : fT -> Exit
 | .normal => .normal
 | .ret => .ret
 | .exit id => .exit id
 | .goto l => .goto l
def DR (m : Mp) : List Nat -> List Deferred -> Prop
 | [], l => l = []
 | q :: D, l => ∃ z y t, m q = some (z, y) /\ l = { target := .collected z, args := #[] } :: t /\ DR m D t
theorem DR.mono {m m' : Mp} (h : m.le m') : ∀ {D : List Nat} {l : List Deferred}, DR m D l -> DR m' D l
 | [], _, hl => hl
 | q :: D, l, ⟨z, y, t, h1, h2, h3⟩ => ⟨z, y, t, h _ _ h1, h2, DR.mono h h3⟩
def RR (m : Mp) : Option Nat -> Option Nat -> Prop
 | none, r => r = none
 | some l, r => ∃ x y, m l = some (x, y) /\ r = some x
theorem RR.mono {m m' : Mp} (h : m.le m') {r r' : Option Nat} (hr : RR m r r') : RR m' r r' := by
 cases r with
 | none => exact hr
 | some l => obtain ⟨x, y, h1, h2⟩ := hr; exact ⟨x, y, h _ _ h1, h2⟩
def jZ (P : Program) (K : Kp) (B : Nat) (m : Mp) (w : World) (k : fT -> BT Value -> List Nat -> St -> Bool) (e : Exit) (a' : Act) (w' : World) : Prop :=
 ∃ x T' D' s' m', k x T' D' s' = true /\ e = PW x /\ m.le m' /\ cN P K B m' s' w' /\ TR m' T' a'.tmps /\ DR m' D' a'.defers /\ Below B w w'
theorem jZ.more {m m' : Mp} {w w' : World} {k : fT -> BT Value -> List Nat -> St -> Bool} {e : Exit} {a' : Act} {w'' : World} (hm : m.le m') (hB : Below B w w') (h : jZ P K B m' w' k e a' w'') : jZ P K B m w k e a' w'' := by
 obtain ⟨x, T', D', s', m'', h1, h2, h3, h4, h5, h6, h7⟩ := h;exact ⟨x, T', D', s', m'', h1, h2, hm.trans h3, h4, h5, h6, hB.trans h7⟩
def qS (F : Fence) (n : Nat) (P : Program) (c : Code) (Q : Exit -> Act -> World -> Prop) (a : Act) (w : World) : Prop :=
 ∀ (b : Frame) (k : List Go.Item) (cs : List Frame), b.roundOf = F.round -> F.fn b.fn -> F.room (cs.length + 1 + n) ->
  ∃ e a' w', Q e a' w' /\ ArrivesIn (Machine.fenced P F) P (lone (b.atR a (.code c :: .inLoop c :: k)) cs w) b k cs e a' w'
theorem An {F : Fence} {n : Nat} {c : Code} {Q : Exit -> Act -> World -> Prop} {a : Act} (h : c.wpIn F n P (Exit.then (qS F n P c Q) Q) a w) : qS F n P c Q a w := by
 intro b k cs hro hb hr;obtain ⟨e, a₁, w₁, hq, harr⟩ := h b (.inLoop c :: k) cs hro hb hr;cases e with
 | normal =>
  obtain ⟨e₂, a₂, w₂, hq₂, harr₂⟩ := hq b k cs hro hb hr;exact ⟨e₂, a₂, w₂, hq₂, .of_steps (StepsIn.trans harr (.one (fenced_calm hb hr rfl) stepR_inLoop)) harr₂⟩
 | exit id => exact ⟨_, a₁, w₁, hq, .pass (x := .inLoop c) J (fun _ _ => .inl sM) harr⟩
 | goto l => exact ⟨_, a₁, w₁, hq, .pass (x := .inLoop c) J (fun _ _ => .inl sM) harr⟩
 | ret => exact ⟨_, a₁, w₁, hq, .pass (x := .inLoop c) J (fun _ _ => .inl sM) harr⟩
 | panic ch => exact ⟨_, a₁, w₁, hq, .pass (x := .inLoop c) J (fun _ _ => .inl sM) harr⟩
 | outgrown => exact ⟨_, a₁, w₁, hq, .pass (x := .inLoop c) J (fun _ _ => .inl sM) harr⟩
theorem wX {F : Fence} {n : Nat} {c : Code} {Q : Exit -> Act -> World -> Prop} {a : Act} (h : qS F n P c Q a w) : (Code.loop c).wpIn F n P Q a w := by
 intro b k cs hro hb hr;obtain ⟨e, a', w', hq, harr⟩ := h b k cs hro hb hr;exact ⟨e, a', w', hq, .of_steps (.one (fenced_calm hb hr rfl) stepR_loop) harr⟩
theorem Bo {F : Fence} {n : Nat} {c : Code} {Q Q' : Exit -> Act -> World -> Prop} {a : Act} (h : qS F n P c Q a w) (hq : ∀ e a w, Q e a w -> Q' e a w) : qS F n P c Q' a w :=
 fun b k cs hro hb hr => let ⟨e, a', w', q, r⟩ := h b k cs hro hb hr; ⟨e, a', w', hq _ _ _ q, r⟩
end
end Go.Proofs.YtjkdkpckjgaplaaGreat.Ev
namespace Go.Proofs.YtjkdkpckjgaplaaGreat.Ev
open Go Go.RowKit
section
variable {P : Program} {K : Kp} {B : Nat} {O : OK}
structure lE (P : Program) (K : Kp) (B : Nat) (f : Option Nat -> CC -> BT Value -> List Nat -> St -> (fT -> BT Value -> List Nat -> St -> Bool) -> Bool) : Prop where
 code : ∀ {r : Option Nat} {c : Code} {T : BT Value} {D : List Nat} {s : St} {k : fT -> BT Value -> List Nat -> St -> Bool}, f r (comp P c) T D s k = true -> ∀ {m : Mp} {w : World} {a : Act} {r' : Option Nat}, RR m r r' -> cN P K B m s w -> TR m T a.tmps -> DR m D a.defers ->
  c.wpIn (Fr r') 0 P (jZ P K B m w k) a w
 loop : ∀ {r : Option Nat} {c : Code} {T : BT Value} {D : List Nat} {s : St} {k : fT -> BT Value -> List Nat -> St -> Bool}, f r (.loop (comp P c)) T D s k = true -> ∀ {m : Mp} {w : World} {a : Act} {r' : Option Nat}, RR m r r' -> cN P K B m s w -> TR m T a.tmps -> DR m D a.defers ->
  qS (Fr r') 0 P c (jZ P K B m w k) a w
def CB (P : Program) (K : Kp) (B : Nat) (O : OK) : Prop := ∀ {r : Option Nat} {id : Nat} {ops : Array Oper} {items : List Item} {T : BT Value} {s : St} {k : BT Value -> St -> Bool}, compRegion P ops true = some items -> dW P O items T s k = true ->
 ∀ {m : Mp} {w : World} {a : Act}, cN P K B m s w -> TR m T a.tmps -> (Code.region id ops true).wpIn (Fr r) 0 P (fun e a' w' => e = .normal /\ Bm P K B m a w k a' w') a w
def Dp (P : Program) (K : Kp) (B : Nat) (O : OK) : Prop := ∀ {r : Option Nat} {f : Operand} {F : X} {v : Value} {ps : Array Tmp} {x y : Code} {T : BT Value} {D : List Nat} {s : St} {k : fT -> BT Value -> List Nat -> St -> Bool}, cx f = some F -> XV T F v -> Ac O r v ps.toList (comp P x) (comp P y) T D s k = true ->
 ∀ {m : Mp} {w : World} {a : Act} {r' : Option Nat}, RR m r r' -> cN P K B m s w -> TR m T a.tmps -> DR m D a.defers -> (Code.rangeFunc f ps x y).wpIn (Fr r') 0 P (jZ P K B m w k) a w
theorem jZ.now {m : Mp} {w : World} {k : fT -> BT Value -> List Nat -> St -> Bool} {x : fT} {T : BT Value} {D : List Nat} {s : St} {a : Act} (hk : k x T D s = true) (E : cN P K B m s w) (hT : TR m T a.tmps) (hD : DR m D a.defers) : jZ P K B m w k (PW x) a w :=
 ⟨x, T, D, s, m, hk, rfl, Mp.le_refl m, E, hT, hD, Below.refl B w⟩
theorem jO {x : fT} {n r : Bool} {e g : Nat -> Bool} (h : gV x n r e g = true) : (x = .normal /\ n = true) ∨ (x = .ret /\ r = true) ∨ (∃ i, x = .exit i /\ e i = true) ∨ ∃ l, x = .goto l /\ g l = true := by
 cases x with
 | normal => exact .inl ⟨rfl, h⟩
 | ret => exact .inr (.inl ⟨rfl, h⟩)
 | exit i => exact .inr (.inr (.inl ⟨i, rfl, h⟩))
 | goto l => exact .inr (.inr (.inr ⟨l, rfl, h⟩))
theorem CD {F : Fence} {n : Nat} {Q : Exit -> Act -> World -> Prop} {a : Act} {w : World} {c : Code} (h : c.wpIn F n P (Exit.noGoto Q) a w) : (Code.scope c).wpIn F n P Q a w := by
 intro b k cs hro hb hr;have h0 : (lone (b.atR a (.code (.scope c) :: k)) cs w).fenced P F := fenced_calm hb hr rfl;have s0 : step P (lone (b.atR a (.code (.scope c) :: k)) cs w) = .next (lone (b.atR a (.code c :: .inScope c :: k)) cs w) := step_lone_go (by simp [stepG, stepG.exec, Frame.atR]);have s1 : ∀ a w, step P (lone (b.atR a (.inScope c :: k)) cs w) = .next (lone (b.atR a k) cs w) := fun a w => step_lone_go (by simp [stepG, stepG.exec, Frame.atR])
 obtain ⟨e, a₁, w₁, hq, harr⟩ := h b (.inScope c :: k) cs hro hb hr;cases e with
 | normal => exact ⟨.normal, a₁, w₁, hq, .head h0 s0 (StepsIn.trans harr (.one (fenced_calm hb hr rfl) (s1 a₁ w₁)))⟩
 | exit id =>
  have hx : exitTo id (.inScope c :: k) = exitTo id k := by simp [exitTo]
  exact ⟨.exit id, a₁, w₁, hq, fun k' hk => .head h0 s0 (harr.1 k' (by rw [hx]; exact hk)),
   fun hr' hk => let ⟨k₁, h1, h2⟩ := harr.2 hr' (by rw [hx]; exact hk); ⟨k₁, h1, .head h0 s0 h2⟩⟩
 | goto l => exact hq.elim
 | ret => exact ⟨_, a₁, w₁, hq, .of_steps (.one h0 s0) harr⟩
 | panic ch => exact ⟨_, a₁, w₁, hq, .of_steps (.one h0 s0) harr⟩
 | outgrown => exact ⟨_, a₁, w₁, hq, .of_steps (.one h0 s0) harr⟩
theorem wY (hO : lE P K B O.code) {r : Option Nat} {c : Code} {T : BT Value} {D : List Nat} {s : St} {k : fT -> BT Value -> List Nat -> St -> Bool}
 (hk : uI P O r (.loop (comp P c)) T D s k = true) {m : Mp} {w : World} {a : Act} {r' : Option Nat} (hr : RR m r r') (E : cN P K B m s w) (hT : TR m T a.tmps) (hD : DR m D a.defers) : qS (Fr r') 0 P c (jZ P K B m w k) a w := by
 have hk0 : O.code r (comp P c) T D s (fun x T D s => gV x (O.code r (.loop (comp P c)) T D s k) (k x T D s) (fun _ => k x T D s) (fun _ => k x T D s)) = true := hk;refine An (wpIn_mono (hO.code hk0 hr E hT hD) ?_);rintro e a' w' ⟨x, T', D', s', m', h1, rfl, h2, h3, h4, h5, h6⟩;rcases jO h1 with ⟨rfl, h1⟩ | ⟨rfl, h1⟩ | ⟨i, rfl, h1⟩ | ⟨l, rfl, h1⟩
 ·exact Bo (hO.loop h1 (hr.mono h2) h3 h4 h5) (fun e a w h => h.more h2 h6)
 all_goals exact ⟨_, T', D', s', m', h1, rfl, h2, h3, h4, h5, h6⟩
theorem Dq (hC : iQ P K B O) (hO : lE P K B O.code) (hDr : CB P K B O) (hRa : Dp P K B O) : lE P K B (uI P O) where
 loop := by
  intro r c T D s k hk m w a r' hr E hT hD;exact wY hO hk hr E hT hD
 code := by
  intro r c T D s k hk m w a r' hr E hT hD;cases c with
  | skip => exact wpIn_skip (jZ.now (x := .normal) hk E hT hD)
  | label l => exact wpIn_label (jZ.now (x := .normal) hk E hT hD)
  | ret => exact wpIn_ret (jZ.now (x := .ret) hk E hT hD)
  | exit id => exact wpIn_exit (jZ.now (x := .exit id) hk E hT hD)
  | goto l => exact wpIn_goto (jZ.now (x := .goto l) hk E hT hD)
  | seq x y =>
   have hk0 : O.code r (comp P x) T D s (fun z T D s => gV z (O.code r (comp P y) T D s k) (k z T D s) (fun _ => k z T D s) (fun _ => k z T D s)) = true := hk;refine wpIn_seq (wpIn_mono (hO.code hk0 hr E hT hD) ?_);rintro e a' w' ⟨z, T', D', s', m', h1, rfl, h2, h3, h4, h5, h6⟩;rcases jO h1 with ⟨rfl, h1⟩ | ⟨rfl, h1⟩ | ⟨i, rfl, h1⟩ | ⟨l, rfl, h1⟩
   ·exact wpIn_mono (hO.code h1 (hr.mono h2) h3 h4 h5) (fun e a w h => h.more h2 h6)
   all_goals exact ⟨_, T', D', s', m', h1, rfl, h2, h3, h4, h5, h6⟩
  | cond x y z =>
   cases hx : cx x with
   | none =>
    have : uI P O r (condOr (comp P y) (comp P z) (cx x)) T D s k = true := hk;rw [hx] at this;cases this
   | some X =>
    have hk0 : uI P O r (condOr (comp P y) (comp P z) (cx x)) T D s k = true := hk;rw [hx] at hk0;have hk1 : bF T X (fun v => nA v (fun t => @Bool.rec (fun _ => Bool) (O.code r (comp P z) T D s k) (O.code r (comp P y) T D s k) t)) = true := hk0;obtain ⟨v, hv, hk2⟩ := Q4 hk1;obtain ⟨t, rfl, hk3⟩ := nG hk2;have he : a.eval x = .bool t := by simpa only [VR] using Ak hT hx hv
    refine wpIn_cond he ?_;cases t with
    | true => exact hO.code hk3 hr E hT hD
    | false => exact hO.code hk3 hr E hT hD
  | block id x =>
   have hk0 : O.code r (comp P x) T D s (fun z T D s => gV z (k z T D s) (k z T D s) (fun j => ifB (Nat.beq j id) (k .normal T D s) (k z T D s)) (fun _ => k z T D s)) = true := hk;refine wpIn_block (wpIn_mono (hO.code hk0 hr E hT hD) ?_);rintro e a' w' ⟨z, T', D', s', m', h1, rfl, h2, h3, h4, h5, h6⟩;rcases jO h1 with ⟨rfl, h1⟩ | ⟨rfl, h1⟩ | ⟨i, rfl, h1⟩ | ⟨l, rfl, h1⟩
   ·exact ⟨.normal, T', D', s', m', h1, rfl, h2, h3, h4, h5, h6⟩
   ·exact ⟨.ret, T', D', s', m', h1, rfl, h2, h3, h4, h5, h6⟩
   ·show Exit.inBlock id _ (.exit i) a' w'
    simp only [Exit.inBlock];rcases lB h1 with ⟨h0, h1⟩ | ⟨h0, h1⟩
    ·have : i = id := by simpa using h0
     rw [if_pos this];exact ⟨.normal, T', D', s', m', h1, rfl, h2, h3, h4, h5, h6⟩
    ·have : ¬ i = id := by
      intro e;subst e;simp at h0
     rw [if_neg this];exact ⟨.exit i, T', D', s', m', h1, rfl, h2, h3, h4, h5, h6⟩
   ·exact ⟨.goto l, T', D', s', m', h1, rfl, h2, h3, h4, h5, h6⟩
  | loop x => exact wX (wY hO hk hr E hT hD)
  | scope x =>
   have hk0 : O.code r (comp P x) T D s (fun z T D s => gV z (k z T D s) (k z T D s) (fun _ => k z T D s) (fun _ => false)) = true := hk;refine CD (wpIn_mono (hO.code hk0 hr E hT hD) ?_);rintro e a' w' ⟨z, T', D', s', m', h1, rfl, h2, h3, h4, h5, h6⟩;rcases jO h1 with ⟨rfl, h1⟩ | ⟨rfl, h1⟩ | ⟨i, rfl, h1⟩ | ⟨l, rfl, h1⟩
   ·exact ⟨.normal, T', D', s', m', h1, rfl, h2, h3, h4, h5, h6⟩
   ·exact ⟨.ret, T', D', s', m', h1, rfl, h2, h3, h4, h5, h6⟩
   ·exact ⟨.exit i, T', D', s', m', h1, rfl, h2, h3, h4, h5, h6⟩
   ·cases h1
  | region id ops draw =>
   have hk0 : uI P O r (itemsOr (compRegion P ops draw)) T D s k = true := hk;cases hi : compRegion P ops draw with
   | none => rw [hi] at hk0; cases hk0
   | some items =>
    rw [hi] at hk0;have hk1 : dW P O items T s (fun T s => k .normal T D s) = true := hk0;have out : ∀ {a' : Act} {w' : World}, Bm P K B m a w (fun T s => k .normal T D s) a' w' -> jZ P K B m w k .normal a' w' := by
     rintro a' w' ⟨T', s', m', h1, h2, h3, h4, h5, h6⟩;exact ⟨.normal, T', D, s', m', h1, rfl, h2, h3, h4, by rw [h5]; exact hD.mono h2, h6⟩
    cases draw with
    | true => exact wpIn_mono (hDr hi hk1 E hT) (by rintro e a' w' ⟨rfl, h⟩; exact out h)
    | false => exact wpIn_region (Bn hC _ hi E hT hk1 (fun a' w' h => out h))
  | rangeFunc f ps x y =>
   have hk0 : uI P O r (rangeOr ps.toList (comp P x) (comp P y) (cx f)) T D s k = true := hk;cases hf : cx f with
   | none => rw [hf] at hk0; cases hk0
   | some F =>
    rw [hf] at hk0;have hk1 : bF T F (fun f => Ac O r f ps.toList (comp P x) (comp P y) T D s k) = true := hk0;obtain ⟨v, hv, hk2⟩ := Q4 hk1;exact hRa hf hv hk2 hr E hT hD
  | refuse => cases hk
end
end Go.Proofs.YtjkdkpckjgaplaaGreat.Ev
namespace Go.Proofs.YtjkdkpckjgaplaaGreat.Ev
open Go Go.RowKit
theorem Gk {r : Option Nat} {n : Nat} {P : Program} {c : Code} {Q : Exit -> Act -> World -> Prop} {a : Act} {w : World} (h : c.wpIn (Fr r) 0 P Q a w) : c.wpIn (Fr r) n P Q a w :=
 fun b k cs hro hb _ => h b k cs hro hb (fun _ h => by simp [Fr, Fence.wide] at h)
theorem Nr {m : Mp} {T T' : BT Value} {a : Array Value} {d : Nat} {v u : Value} (hT : TR m T a) (hd : (T.get d).isSome = true) (hv : VR m v u) (hg : ∀ j, T'.get j = if j = d then some v else T.get j) : TR m T' (a.setIfInBounds d u) := by
 intro t x ht;obtain ⟨x0, hx0⟩ := Option.isSome_iff_exists.1 hd;obtain ⟨x1, h1, _⟩ := hT d x0 hx0;have hlt : d < a.size := (Array.getElem?_eq_some_iff.1 h1).1;rw [hg] at ht;by_cases h : t = d
 ·subst h
  rw [if_pos rfl] at ht;cases ht;exact ⟨u, by simp [hlt], hv⟩
 ·rw [if_neg h] at ht
  obtain ⟨x', h2, h3⟩ := hT t x ht;exact ⟨x', by rw [Array.getElem?_setIfInBounds_ne oM]; exact h2, h3⟩
theorem Bp {m : Mp} : ∀ {ps : List Nat} {vs us : List Value} {T : BT Value} {tmps : Array Value} {k : BT Value -> Bool}, TR m T tmps -> LR m vs us -> qP T ps vs k = true ->
 us.length = ps.length /\ ∃ T', k T' = true /\ TR m T' ((ps.zip us).foldl (fun tmps (p : Nat × Value) => tmps.setIfInBounds p.1 p.2) tmps)
 | [], vs, us, T, tmps, k, hT, hv, hk => by
  cases vs with
  | nil =>
   simp only [LR] at hv;subst hv;exact ⟨rfl, T, hk, hT⟩
  | cons => cases hk
 | p :: ps, vs, us, T, tmps, k, hT, hv, hk => by
  cases vs with
  | nil => cases hk
  | cons v vs =>
   simp only [LR] at hv;obtain ⟨u, us', rfl, h1, h2⟩ := hv;have hk0 : lM T p v (fun T => qP T ps vs k) = true := hk;obtain ⟨T1, hk1, hd, hg⟩ := mC hk0;obtain ⟨h3, T', h4, h5⟩ := Bp (Nr hT hd h1 hg) h2 hk1;exact ⟨by simp [h3], T', h4, h5⟩
section
variable {P : Program} {K : Kp} {B : Nat} {O : OK}
theorem rT {m : Mp} {s : St} {w : World} (E : cN P K B m s w) {l x y : Nat} (hm : m l = some (x, y)) {st : LoopState} {p : fT} {T : BT Value} {ps : List Nat} {a b : CC} {q : Nat} (hc : s.h.get l = some (.loop st p T ps a b q)) :
 ∃ r : Loop, w.heap[x]? = some (.loop r) /\ r.state = st /\ r.pending = p.code /\ TR m T r.tmps /\ r.params.toList = ps /\ comp P r.assign = a /\ comp P r.body = b /\ (∃ z u, m q = some (z, u) /\ r.defers = z) /\
  ∀ (st' : LoopState) (p' : fT) (h' : BT dK), (∀ j, h'.get j = if j = l then some (.loop st' p' T ps a b q) else s.h.get j) -> cN P K B m ⟨h', s.n⟩ (w.putObj x (.loop { r with state := st', pending := p'.code })) /\ Below B w (w.putObj x (.loop { r with state := st', pending := p'.code })) := by
 obtain ⟨o', hx, r, rfl, h1, h2, h3, h4, h5, h6, z, u, h7, h8⟩ := E.obj l x y _ hm hc;have hlow : B <= x /\ x < w.heap.size := ⟨E.own hm hc sM, (E.low l x y hm).2⟩;refine ⟨r, hx, h1, h2, h3, h4, h5, h6, ⟨z, u, h7, h8⟩, fun st' p' h' hg => ⟨?_, ?_⟩⟩
 ·exact E.put hm hc sM hg sM (World.putObj_heap_same hlow.2) (fun k hk => World.putObj_heap_other hk) ⟨_, rfl, rfl, rfl, h3, h4, h5, h6, z, u, h7, h8⟩
 ·exact oW rfl rfl rfl sM (fun k hk => World.putObj_heap_other oM)
theorem Ns {m : Mp} {s : St} {w : World} (E : cN P K B m s w) {l x y : Nat} (hm : m l = some (x, y)) {z : fT} {k : Value -> St -> Bool} (hk : I8 l z s k = true) :
 ∃ v w', (Instr.endRound x z.code).run P w = .ok v w' /\ ∃ s', k v s' = true /\ cN P K B m s' w' /\ Below B w w' /\ VR m v v := by
 obtain ⟨st, p, T, ps, a, b, q, hc, hk⟩ := mE hk;obtain ⟨r, hx, h1, h2, h3, h4, h5, h6, h7, hput⟩ := rT E hm hc;have run := run_endRound (P := P) z.code hx;cases st with
 | busy =>
  have hk0 : gV z (cK s l (.loop .ready .normal T ps a b q) (k (.bool true))) (cK s l (.loop .done z T ps a b q) (k (.bool false))) (fun _ => cK s l (.loop .done z T ps a b q) (k (.bool false))) (fun _ => cK s l (.loop .done z T ps a b q) (k (.bool false))) = true := hk;rcases jO hk0 with ⟨rfl, hk1⟩ | ⟨rfl, hk1⟩ | ⟨i, rfl, hk1⟩ | ⟨i, rfl, hk1⟩
  all_goals
   obtain ⟨h', hk2, _, hg⟩ := dD hk1;obtain ⟨hE, hB⟩ := hput _ _ h' hg;exact ⟨_, _, run, _, hk2, hE, hB, VR.flat _ rfl⟩
 | _ => cases hk
theorem rU (hO : lE P K B O.code) {l : Nat} {vs : List Value} {s : St} {k : Value -> St -> Bool} (hk : Cs O l vs s k = true) {m : Mp} {w : World} {us : List Value} {x y : Nat} (hm : m l = some (x, y)) (E : cN P K B m s w) (hv : LR m vs us) :
 ∃ f tmps assign body, (Instr.yield x ⟨us⟩).run P w = .ok (.round x f tmps assign body) w /\ ∀ r n, RoundIn (Fr r) n P x f tmps assign body w (Bl P K B m w k) := by
 obtain ⟨st, p, T, ps, a, b, q, hc, hk⟩ := mE hk;obtain ⟨r, hx, h1, h2, h3, rfl, rfl, rfl, h7, hput⟩ := rT E hm hc;have hk0 : qP T r.params.toList vs (fun T => O.code (some l) (comp P r.assign) T [] s (fun x T D s => gV x (Dl O l (comp P r.body) T D s k) false (fun _ => false) (fun _ => false))) = true := hk;obtain ⟨hlen, T', hk1, hT⟩ := Bp h3 hv hk0;refine ⟨_, _, _, _, run_yield hx (by simpa using hlen), fun rr n => roundIn_of_wpIn (F := Fr rr) trivial ?_⟩;have hfold : ((r.params.zip ⟨us⟩).foldl (fun tmps (p : Nat × Value) => tmps.setIfInBounds p.1 p.2) r.tmps) = ((r.params.toList.zip us).foldl (fun tmps (p : Nat × Value) => tmps.setIfInBounds p.1 p.2) r.tmps) := by
  rw [<- Array.foldl_toList];simp [Array.toList_zip]
 have hass := hO.code (a := ⟨(r.params.zip ⟨us⟩).foldl (fun tmps (p : Nat × Value) => tmps.setIfInBounds p.1 p.2) r.tmps, []⟩) (r' := some x) hk1 ⟨x, y, hm, rfl⟩ E (by show TR m T' ((r.params.zip ⟨us⟩).foldl (fun tmps (p : Nat × Value) => tmps.setIfInBounds p.1 p.2) r.tmps); rw [hfold]; exact hT) rfl;refine Gk (r := some x) (wpIn_mono hass ?_);rintro e a₁ w₁ ⟨z, T1, D1, s1, m1, g1, rfl, g2, g3, g4, g5, g6⟩;rcases jO g1 with ⟨rfl, g1⟩ | ⟨rfl, g1⟩ | ⟨i, rfl, g1⟩ | ⟨i, rfl, g1⟩
 ·have g1' : Dl O l (comp P r.body) T1 D1 s1 k = true := g1
  obtain ⟨st1, p1, T2, ps1, c1, d1, q1, hc1, hk2⟩ := mE g1';have hm1 := g2 _ _ hm;obtain ⟨r1, hx1, i1, i2, i3, i4, i5, i6, i7, hput1⟩ := rT g3 hm1 hc1;cases st1 with
  | ready =>
   have hk3 : cK s1 l (.loop .busy p1 T2 ps1 c1 d1 q1) (fun s => O.code (some l) (comp P r.body) T1 D1 s (fun x _ _ s => I8 l x s k)) = true := hk2;obtain ⟨h', hk4, _, hg⟩ := dD hk3;obtain ⟨hE, hB⟩ := hput1 .busy p1 h' hg;have hbegin := run_beginRound (P := P) hx1 i1;have hre : ({ r1 with state := .busy, pending := p1.code } : Loop) = { r1 with state := .busy } := by rw [<- i2]
   rw [hre] at hE hB;refine ⟨_, hbegin, Gk (r := some x) (wpIn_mono (hO.code (r' := some x) hk4 ⟨x, y, hm1, rfl⟩ hE g4 g5) ?_)⟩;rintro e a₂ w₂ ⟨z, T3, D3, s3, m3, j1, rfl, j2, j3, j4, j5, j6⟩;obtain ⟨v, w3, hrun, s4, hk5, hE4, hB4, hvv⟩ := Ns j3 (j2 _ _ hm1) j1;have hR : Bl P K B m w k (.returned v) w3 := ⟨v, s4, m3, hk5, g2.trans j2, hE4, g6.trans (hB.trans (j6.trans hB4)), hvv⟩;cases z with
   | normal => exact ⟨v, w3, hrun, hR⟩
   | ret => exact ⟨v, w3, hrun, hR⟩
   | exit i => exact ⟨v, w3, hrun, hR⟩
   | goto i => exact ⟨v, w3, hrun, hR⟩
  | _ => cases hk2
 all_goals cases g1
end
end Go.Proofs.YtjkdkpckjgaplaaGreat.Ev
namespace Go.Proofs.YtjkdkpckjgaplaaGreat.Ev
open Go Go.RowKit
def Bq (tmps : Array Value) : ResultVar -> Sem Value
 | .tmp t => pure (tmps.getD t undef)
 | .cell a t => do loadVar t (<- asAddr (tmps.getD a undef))
section
variable {P : Program} {K : Kp} {B : Nat} {O : OK}
theorem Fj {t : TypeId} {u r : Value} {w : World} (h : (Instr.loadAt t u).run P w = .ok r w) (hu : ∃ a, u = .pointer (some a)) : (do loadVar t (<- asAddr u) : Sem Value).run P w = .ok r w := by
 obtain ⟨a, rfl⟩ := hu;exact h
theorem CE {m : Mp} {s : St} {w : World} (E : cN P K B m s w) {T : BT Value} {tmps : Array Value} (hT : TR m T tmps) : ∀ {l : List ResultVar} {cs : List CRes} {k : List Value -> Bool}, compRes P l = some cs -> uY s T cs k = true ->
 ∃ vs us, k vs = true /\ (l.mapM (Bq tmps)).run P w = .ok us w /\ LR m vs us
 | [], cs, k, hc, hk => by
  cases hc;exact ⟨[], [], hk, rfl, by simp only [LR]⟩
 | .tmp t :: l, cs, k, hc, hk => by
  simp only [compRes, Option.map_eq_some_iff] at hc;obtain ⟨cs', h1, rfl⟩ := hc;have hk0 : jR T t (fun v => uY s T cs' (fun l => k (v :: l))) = true := hk;obtain ⟨v, hv, hk1⟩ := iK hk0;obtain ⟨u, hu, hvu⟩ := hT t v hv;obtain ⟨vs, us, h2, h3, h4⟩ := CE E hT h1 hk1;refine ⟨v :: vs, u :: us, h2, ?_, by simp only [LR]; exact ⟨u, us, rfl, hvu, h4⟩⟩;have : (Bq tmps (.tmp t)).run P w = .ok u w := by simp [Bq, Array.getD_eq_getD_getElem?, hu]
  rw [List.mapM_cons];simp only [Sem.run_bind, this, Result.andThen_ok, h3, Sem.run_pure]
 | .cell a t :: l, cs, k, hc, hk => by
  simp only [compRes] at hc;split at hc
  ·rename_i n cs' h0 h1
   cases hc;have hk0 : jR T a (fun a => Cq s n a (fun v => uY s T cs' (fun l => k (v :: l)))) = true := hk;obtain ⟨v, hv, hk1⟩ := iK hk0;obtain ⟨u, hu, hvu⟩ := hT a v hv;obtain ⟨r, hk2, r', hr, hrr⟩ := MH h0 E hvu hk1;obtain ⟨vs, us, h2, h3, h4⟩ := CE E hT h1 hk2;refine ⟨r :: vs, r' :: us, h2, ?_, by simp only [LR]; exact ⟨r', us, rfl, hrr, h4⟩⟩;have hp : ∃ a, u = .pointer (some a) := by
    obtain ⟨b, o, rfl, _⟩ := kV hk1;obtain ⟨x, y, _, rfl⟩ := hvu.ptr_inv;exact ⟨_, rfl⟩
   have : (Bq tmps (.cell a t)).run P w = .ok r' w := by
    have := Fj hr hp;simpa [Bq, Array.getD_eq_getD_getElem?, hu] using this
   rw [List.mapM_cons];simp only [Sem.run_bind, this, Result.andThen_ok, h3, Sem.run_pure]
  ·cases hc
theorem Nt {m : Mp} {vs us : List Value} {k : Value -> Bool} (hk : Ad vs k = true) (hv : LR m vs us) : ∃ r, k r = true /\ VR m r (if h : (⟨us⟩ : Array Value).size = 1 then (⟨us⟩ : Array Value)[0] else .tuple ⟨us⟩) := by
 have tup : ∀ {vs us : List Value}, LR m vs us -> VR m (.tuple ⟨vs⟩) (.tuple ⟨us⟩) := by
  intro vs us h;simp only [VR, AR];exact ⟨_, rfl, us, rfl, h⟩
 cases vs with
 | nil =>
  have := hv;simp only [LR] at this;subst this;exact ⟨_, hk, by simpa using tup hv⟩
 | cons v l =>
  cases l with
  | nil =>
   simp only [LR] at hv;obtain ⟨u, us', rfl, h1, rfl⟩ := hv;exact ⟨v, hk, by simpa using h1⟩
  | cons v' l =>
   have := LR.length hv;refine ⟨_, hk, ?_⟩;rw [dif_neg (by show ¬ us.length = 1; rw [this]; simp)];exact tup hv
theorem CG (fn : Func) (tmps : Array Value) {us : List Value} {w : World} (h : (fn.results.toList.mapM (Bq tmps)).run P w = .ok us w) : (results fn tmps).run P w = .ok (if h : (⟨us⟩ : Array Value).size = 1 then (⟨us⟩ : Array Value)[0] else .tuple ⟨us⟩) w := by
 have e : results fn tmps = (do let vs <- fn.results.mapM (Bq tmps); pure (if h : vs.size = 1 then vs[0] else .tuple vs)) := by
  unfold results
  congr 1
 have hm : (fn.results.mapM (Bq tmps)).run P w = .ok (⟨us⟩ : Array Value) w := by
  rw [Array.mapM_eq_mapM_toList, Sem.run_map, h];rfl
 rw [e, Sem.run_bind, hm];rfl
theorem tI {fn : Func} {r : List CRes} (hr : compRes P fn.results.toList = some r) {tmps : Array Value} {T : BT Value} {m0 : Mp} {w0 : World} {k : Value -> St -> Bool} : ∀ {D : List Nat} {l : List Deferred} {m : Mp} {s : St} {w : World}, DR m D l -> cN P K B m s w -> TR m T tmps -> m0.le m -> Below B w0 w ->
 rN D s (fun s => uY s T r (fun l => Ad l (fun v => k v s))) = true -> LeavesInM Fence.wide 0 P fn tmps (Bl P K B m0 w0 k) l .returning w
 | [], l, m, s, w, hD, E, hT, hle, hB, hk => by
  have : l = [] := hD;subst this;have hk0 : uY s T r (fun l => Ad l (fun v => k v s)) = true := hk;obtain ⟨vs, us, h1, h2, h3⟩ := CE E hT hr hk0;obtain ⟨v, h4, h5⟩ := Nt h1 h3;exact ⟨_, CG fn tmps h2, v, s, m, h4, hle, E, hB, h5⟩
 | q :: D, l, m, s, w, hD, E, hT, hle, hB, hk => by
  obtain ⟨z, y, t, h1, rfl, h3⟩ := hD;have hk0 : qD s q (fun o => @dK.casesOn (fun _ => Bool) o false (fun _ _ _ _ => false) (fun _ _ _ _ _ _ _ => false) (fun d => @Bool.rec (fun _ => Bool) false (cK s q (.deferred false) (fun s => rN D s (fun s => uY s T r (fun l => Ad l (fun v => k v s))))) d) (fun _ => false) (fun _ => false)) = true := hk;obtain ⟨o, ho, hk1⟩ := mD hk0;cases o with
  | deferred d =>
   cases d with
   | true =>
    obtain ⟨h', hk2, _, hg⟩ := dD (k := fun s => rN D s (fun s => uY s T r (fun l => Ad l (fun v => k v s)))) hk1;obtain ⟨o', hx, hor⟩ := E.obj q z y _ h1 ho;have hx' : w.heap[z]? = some (.deferred (some [])) := by
     have : o' = .deferred (some []) := hor;rw [hx, this]
    have hlow : B <= z /\ z < w.heap.size := ⟨E.own h1 ho sM, (E.low q z y h1).2⟩;have hE : cN P K B m ⟨h', s.n⟩ (w.putObj z (.deferred none)) := E.put h1 ho sM hg sM (World.putObj_heap_same hlow.2) (fun k hk => World.putObj_heap_other hk) rfl;have hB' : Below B w (w.putObj z (.deferred none)) := oW rfl rfl rfl sM (fun k hk => World.putObj_heap_other oM);exact ⟨sM, .inl ⟨z, _, rfl, run_takeDeferred hx', tI hr h3 hE hT hle (hB.trans hB') hk2⟩⟩
   | false => cases hk1
  | _ => cases hk1
theorem wZ : ∀ (n j : Nat) (v : Value), (undefs n)[j]? = some v -> j < n /\ v = undef
 | 0, j, v, h => by simp [undefs] at h
 | n + 1, j, v, h => by
  cases j with
  | zero => simp [undefs] at h; exact ⟨oM, h.symm⟩
  | succ j =>
   simp only [undefs, List.getElem?_cons_succ] at h;obtain ⟨h1, h2⟩ := wZ n j v h;exact ⟨oM, h2⟩
theorem tJ {f : FuncId} {c : CF} (h : compF P f = some c) : ∃ fn cd r, P.funcs[f]? = some fn /\ fn.body = some cd /\ compRes P fn.results.toList = some r /\ (fn.name == "runtime.NumGoroutine") = false /\ c = ⟨comp P cd, fn.ntmps, r⟩ := by
 unfold compF at h;split at h
 ·rename_i fn h1
  split at h
  ·rename_i cd h2
   split at h
   ·rename_i r h3
    cases hn : fn.name == "runtime.NumGoroutine" with
    | true => rw [hn] at h; cases h
    | false => rw [hn] at h; cases h; exact ⟨fn, cd, r, h1, h2, h3, hn, rfl⟩
   ·cases h
  ·cases h
 ·cases h
theorem Dr {C : Nat -> (CF -> Bool) -> Bool} (hC : ∀ f k, C f k = true -> ∃ c, compF P f = some c /\ k c = true) (hO : lE P K B O.code) {f : FuncId} {vs : List Value} {s : St} {k : Value -> St -> Bool} (hk : uJ C O f vs s k = true) {m : Mp} {w : World} {us : List Value} (E : cN P K B m s w) (hv : LR m vs us) :
 (∀ w, (callFunc f ⟨us⟩).run P w = .ok (.enter f ⟨us⟩) w) /\ CallsIn Fence.wide 0 P f ⟨us⟩ w (Bl P K B m w k) := by
 obtain ⟨c, hc, hk1⟩ := hC _ _ hk;obtain ⟨fn, cd, r, h1, h2, h3, h4, rfl⟩ := tJ hc;have hk2 : ifB (Nat.ble (kN vs) fn.ntmps) (dT (full fn.ntmps) 0 vs (fun T => O.code none (comp P cd) T [] s (fun x T D s => gV x (fA r T D s k) (fA r T D s k) (fun _ => false) (fun _ => false)))) false = true := hk1;obtain ⟨hle, hk3⟩ := Z5 hk2;obtain ⟨T, hk4, _, hg⟩ := gX hk3;have hlen := LR.length hv;rw [iL, Nat.ble_eq] at hle;refine ⟨fun w => ?_, callsIn_of_wp_marks h1 h2 trivial ?_⟩
 ·have h4' : ¬ fn.name = "runtime.NumGoroutine" := by simpa using h4
  simp [callFunc, h1, h2, h4']
 ·have hT : TR m T ((⟨us⟩ : Array Value) ++ Array.replicate (fn.ntmps - (⟨us⟩ : Array Value).size) undef) := by
   intro j v hj;rw [hg] at hj;by_cases hlt : 0 <= j /\ j < 0 + vs.length
   ·rw [if_pos hlt] at hj
    obtain ⟨u, h5, h6⟩ := LR.get hv hj;refine ⟨u, ?_, h6⟩;rw [Array.getElem?_append_left (by show j - 0 < us.length; omega)];simpa using h5
   ·rw [if_neg hlt] at hj
    obtain ⟨h5, rfl⟩ := wZ _ _ _ (nH hj);refine ⟨undef, ?_, VR.flat undef rfl⟩;have hj' : us.length <= j := oM
    rw [Array.getElem?_append_right (by show us.length <= j; omega)];rw [Array.getElem?_replicate];rw [if_pos (by show j - us.length < fn.ntmps - us.length; omega)]
  have hcode := hO.code (a := ⟨(⟨us⟩ : Array Value) ++ Array.replicate (fn.ntmps - (⟨us⟩ : Array Value).size) undef, []⟩) (r' := none) hk4 rfl E hT rfl;refine wpIn_mono hcode ?_;rintro e a' w' ⟨z, T', D', s', m', g1, rfl, g2, g3, g4, g5, g6⟩;rcases jO g1 with ⟨rfl, g1⟩ | ⟨rfl, g1⟩ | ⟨i, rfl, g1⟩ | ⟨i, rfl, g1⟩
  ·exact tI h3 g5 g3 g4 g2 g6 g1
  ·exact tI h3 g5 g3 g4 g2 g6 g1
  all_goals cases g1
end
end Go.Proofs.YtjkdkpckjgaplaaGreat.Ev
namespace Go.Proofs.YtjkdkpckjgaplaaGreat.Ev
open Go Go.RowKit
section
variable {P : Program} {K : Kp} {B : Nat} {O : OK}
theorem Br {r : Option Nat} {n : Nat} {f : FuncId} {args : Array Value} {w : World} {R R' : Ending -> World -> Prop} (h : CallsIn Fence.wide 0 P f args w R) (hr : ∀ e w, R e w -> R' e w) : CallsIn (Fr r) n P f args w R' := CallsIn.mono (wV h) hr
def rec_ (fn : FuncId) (tmps : Array Value) (ps : Array Tmp) (x y : Code) (z : Nat) : Obj := .loop { state := .ready, pending := none, fn, tmps, params := ps, assign := x, body := y, defers := z }
theorem qE {w : World} {l : Nat} {r : Loop} (h : w.heap[l]? = some (.loop r)) (fn : FuncId) (tmps : Array Value) (ps : Array Tmp) (x y : Code) : (Instr.enterLoop fn tmps ps x y (some l)).run P w = .ok (w.heap.size, []) (w.alloc (rec_ fn tmps ps x y r.defers)) := by
 unfold Instr.enterLoop rec_;simp only [Sem.run_bind, run_getLoop h, run_newObj_alloc, Result.andThen, Sem.run_pure]
theorem Bs {m : Mp} {s : St} {w : World} (E : cN P K B m s w) {l x y : Nat} (hm : m l = some (x, y)) {T : BT Value} {D : List Nat} {k : fT -> BT Value -> List Nat -> St -> Bool} (hk : pQ l T D s k = true) {a : Act} (hT : TR m T a.tmps) (hD : DR m D a.defers) {r : Option Nat} (v : Value) :
 rangePost (Fr r) 0 P x (jZ P K B m w k) a (.returned v) w := by
 obtain ⟨st, p, T', ps, c, d, q, hc, hk⟩ := mE hk;obtain ⟨rr, hx, h1, h2, h3, h4, h5, h6, h7, hput⟩ := rT E hm hc;have key : cK s l (.loop .exhausted p T' ps c d q) (k p T D) = true -> st ≠ .busy -> rangePost (Fr r) 0 P x (jZ P K B m w k) a (.returned v) w := by
  intro hk hb;obtain ⟨h', hk2, _, hg⟩ := dD hk;obtain ⟨hE, hB⟩ := hput .exhausted p h' hg;have hre : ({ rr with state := .exhausted, pending := p.code } : Loop) = { rr with state := .exhausted } := by rw [<- h2]
  rw [hre] at hE hB;have hl : jZ P K B m w k (PW p) a (w.putObj x (.loop { rr with state := .exhausted })) := ⟨p, T, D, _, m, hk2, rfl, Mp.le_refl m, hE, hT, hD, hB⟩;refine ⟨rr.pending, _, run_endLoop hx (by rw [h1]; exact hb), ?_⟩;have key2 : ∀ (j : Option Code) (W : World), j = p.code -> jZ P K B m w k (PW p) a W -> (match j with
   | none => jZ P K B m w k .normal a W
   | some c => c.wpIn (Fr r) 0 P (jZ P K B m w k) a W) := by
   rintro j W rfl hl;cases p with
   | normal => exact hl
   | ret => exact wpIn_ret hl
   | exit i => exact wpIn_exit hl
   | goto i => exact wpIn_goto hl
  exact key2 _ _ h2 hl
 cases st with
 | busy => cases hk
 | ready => exact key hk sM
 | done => exact key hk sM
 | exhausted => exact key hk sM
theorem xA (hCa : iQ P K B O) {m : Mp} {s : St} {w : World} {g : Operand} {v : Value} {a : Act} {ps : Array Tmp} {x y : Code} {T : BT Value} {D : List Nat} {q z u : Nat} {k : fT -> BT Value -> List Nat -> St -> Bool} (hf : VR m v (a.eval g)) (hk : jU O v ps.toList (comp P x) (comp P y) T D q s k = true)
 (E : cN P K B m s w) (hT : TR m T a.tmps) (hq : m q = some (z, u)) (fn : FuncId) {a' : Act} (ha : a'.tmps = a.tmps) (hD : DR m D a'.defers) {r : Option Nat} :
 ∃ d gf args, (resolve a.eval (rangeCall g w.heap.size) 0).run P (w.alloc (rec_ fn a.tmps ps x y z)) = .ok d (w.alloc (rec_ fn a.tmps ps x y z)) /\ (invoke d.target d.args).run P (w.alloc (rec_ fn a.tmps ps x y z)) = .ok (.enter gf args) (w.alloc (rec_ fn a.tmps ps x y z)) /\
  CallsIn (Fr r) 0 P gf args (w.alloc (rec_ fn a.tmps ps x y z)) (rangePost (Fr r) 0 P w.heap.size (jZ P K B m w k) a') := by
 have hk := eU hk;rcases wL hk with ⟨gf, p, c, rfl, hk5⟩ | ⟨_, _, _, _, hk5⟩
 ·simp only [VR, AR] at hf
  obtain ⟨p', c', hfe, ⟨pl, rfl, hp⟩, ⟨cl, rfl, hcl⟩⟩ := hf;have hr : OR P (m.put s.n w.heap.size 0) s.n (.loop .ready .normal T ps.toList (comp P x) (comp P y) q) (rec_ fn a.tmps ps x y z) :=
   ⟨_, rfl, rfl, rfl, hT.mono (Mp.put_le E.none), rfl, rfl, rfl, z, u, Mp.put_le E.none _ _ hq, rfl⟩
  obtain ⟨s', hk1, hE, hB, hle, _⟩ := oX E 0 hr hk5;rw [pU] at hk1;have hl : (m.put s.n w.heap.size 0) s.n = some (w.heap.size, 0) := sM
  have hargs : LR (m.put s.n w.heap.size 0) (p ++ (Value.func (.yield s.n) #[] #[] :: c)) (pl ++ (Value.func (.yield w.heap.size) #[] #[] :: cl)) := by
   refine (LR.mono hle _ hp).append ?_;simp only [LR];refine ⟨_, _, rfl, ?_, LR.mono hle _ hcl⟩;simp only [VR, AR, LR];exact ⟨w.heap.size, 0, #[], #[], hl, rfl, ⟨[], rfl, rfl⟩, ⟨[], rfl, rfl⟩⟩
  obtain ⟨hcf, hcall⟩ := hCa.call hk1 hE hargs;refine ⟨{ target := .fn (.func gf) ⟨cl⟩, args := (⟨pl⟩ : Array Value) ++ #[.func (.yield w.heap.size) #[] #[]] }, gf, _, ?_, ?_, Br hcall ?_⟩
  ·show (Deferred.ofValue (a.eval g) _).run P _ = _
   rw [hfe];simp [Deferred.ofValue, Act.eval]
  ·show (callFunc gf (((⟨pl⟩ : Array Value) ++ #[.func (.yield w.heap.size) #[] #[]]) ++ (⟨cl⟩ : Array Value))).run P _ = _
   have e : (((⟨pl⟩ : Array Value) ++ #[.func (.yield w.heap.size) #[] #[]]) ++ (⟨cl⟩ : Array Value)) = ⟨pl ++ (Value.func (.yield w.heap.size) #[] #[] :: cl)⟩ := by
    apply Array.ext'
    simp
   rw [e];exact hcf _
  ·intro e w3 he
   cases e with
   | returned v =>
    obtain ⟨v', s3, m3, hk3, hle3, hE3, hB3, hv3⟩ := he;have hle' := hle.trans hle3;have := Bs (r := r) hE3 (hle3 _ _ hl) hk3 (a := a') (by rw [ha]; exact hT.mono hle') (hD.mono hle') v;obtain ⟨jump, w4, h1, h2⟩ := this;refine ⟨jump, w4, h1, ?_⟩;have hBB := hB.trans hB3;cases jump with
    | none => exact jZ.more hle' hBB h2
    | some c => exact wpIn_mono h2 (fun e a w h => jZ.more hle' hBB h)
   | panicked => exact he.elim
   | outgrown => exact he.elim
 ·cases hk5
theorem Bt (hCa : iQ P K B O) : Dp P K B O := by
 intro r f F v ps x y T D s k hf hv hk m w a r' hr E hT hD;have hfv := Ak hT hf hv;refine wpIn_rangeFunc fun fn _ => ?_
 cases r with
 | none =>
  have hr' : r' = none := hr;subst hr';have hk0 : A9 s (fun q => iH s (.deferred true) (fun s => jU O v ps.toList (comp P x) (comp P y) T (q :: D) q s k)) = true := hk;have hk1 := eU hk0;have ho : OR P (m.put s.n w.heap.size 0) s.n (.deferred true) (.deferred (some [])) := rfl;obtain ⟨s', hk2, hE, hB, hle, _⟩ := oX E 0 ho hk1;have hq : (m.put s.n w.heap.size 0) s.n = some (w.heap.size, 0) := sM
  obtain ⟨d, gf, args, h1, h2, h3⟩ := xA hCa (VR.mono hle _ hfv) hk2 hE (hT.mono hle) hq fn (a' := { a with defers := [{ target := .collected w.heap.size, args := #[] }] ++ a.defers }) rfl
   ⟨w.heap.size, 0, a.defers, hq, rfl, hD.mono hle⟩ (r := none)
  have hsz : (w.alloc (.deferred (some []))).heap.size = w.heap.size + 1 := sM
  rw [hsz] at h1 h3;refine ⟨_, _, _, d, _, gf, args, _, run_enterLoop_outer fn a.tmps ps x y, h1, fun _ _ => trivial, h2, (fun h => by cases h), ?_⟩;refine CallsIn.mono h3 (fun e w3 he => ?_);cases e with
  | returned v =>
   obtain ⟨jump, w4, g1, g2⟩ := he;refine ⟨jump, w4, g1, ?_⟩;cases jump with
   | none => exact jZ.more hle hB g2
   | some c => exact wpIn_mono g2 (fun e a w h => jZ.more hle hB h)
  | panicked => obtain ⟨z, _, _, _, _, _, hh, _⟩ := he; cases z <;> cases hh
  | outgrown => obtain ⟨_, _, z, _, _, _, _, _, hh, _⟩ := he; cases z <;> cases hh
 | some l =>
  obtain ⟨X, Y, hm, rfl⟩ := hr;obtain ⟨st, p, T', ps', c, d, q, hc, hk0⟩ := mE (k := fun _ _ _ _ _ _ q => jU O v ps.toList (comp P x) (comp P y) T D q s k) hk;obtain ⟨rr, hx, _, _, _, _, _, _, ⟨z, u, hq, hz⟩, _⟩ := rT E hm hc;obtain ⟨d, gf, args, h1, h2, h3⟩ := xA hCa hfv hk0 E hT hq fn (a' := { a with defers := [] ++ a.defers }) J hD (r := some X);subst hz;exact ⟨_, _, _, d, _, gf, args, _, qE hx fn a.tmps ps x y, h1, fun _ _ => trivial, h2, (fun h => by cases h), h3⟩
/-! ## All levels -/
theorem OV {C : Nat -> (CF -> Bool) -> Bool} (hC : ∀ f k, C f k = true -> ∃ c, compF P f = some c /\ k c = true) (hDr : ∀ O, (∀ K, iQ P K B O) -> ∀ K, CB P K B O) (n : Nat) : ∀ K, lE P K B (yS P C n).code /\ iQ P K B (yS P C n) := by
 induction n with
 | zero =>
  intro K;have hcode : lE P K B (yS P C 0).code := { code := (by intro r c T D s k h; cases h), loop := (by intro r c T D s k h; cases h) };exact ⟨hcode, { call := (by intro f vs s k h; cases h), round := (by intro l vs s k hk m w us x y hm E hv; exact rU hcode hk hm E hv) }⟩
 | succ n ih =>
  intro K;have hcode : lE P K B (yS P C (n + 1)).code := Dq (ih K).2 (ih K).1 (hDr _ (fun K => (ih K).2) K) (Bt (ih K).2);exact ⟨hcode, { call := (by intro f vs s k hk m w us E hv; exact Dr hC (ih K).1 hk E hv), round := (by intro l vs s k hk m w us x y hm E hv; exact rU hcode hk hm E hv) }⟩
end
end Go.Proofs.YtjkdkpckjgaplaaGreat.Ev
namespace Go.Proofs.YtjkdkpckjgaplaaGreat.Ev
open Go Go.RowKit
def CH (K : Kp) (g : Nat) (o : dK) : Kp := fun j => if j = g then some o else K j
def Fk (K : Kp) (g : Nat) : Kp := fun j => if j = g then none else K j
section
variable {P : Program} {K : Kp} {B : Nat} {m : Mp} {s : St} {w : World}
theorem cN.less {K' : Kp} (E : cN P K B m s w) (h : ∀ i o, K' i = some o -> K i = some o) : cN P K' B m s w :=
 ⟨E.low, E.old, E.obj, E.inj, E.base, fun i o hi => E.kept i o (h i o hi)⟩
theorem cN.ahead (E : cN P K B m s w) {h' : BT dK} {o : dK} (hg : ∀ j, h'.get j = if j = s.n then some o else s.h.get j) : cN P (CH K s.n o) B m ⟨h', s.n + 1⟩ w := by
 have at_ : ∀ i, i < s.n -> h'.get i = s.h.get i := fun i h => by rw [hg, if_neg oM]
 refine ⟨fun i x y hi => ⟨(E.low i x y hi).1.imp id (fun ⟨g, h⟩ => ⟨g, (at_ i (E.old i _ hi)).trans h⟩), (E.low i x y hi).2⟩, fun i p hi => Nat.lt_succ_of_lt (E.old i p hi), fun i x y c hi hc => ?_, fun i j x y y' hi hj hij hBx => ?_, E.base, fun i c hi => ?_⟩
 ·have hc' : h'.get i = some c := hc
  rw [at_ i (E.old i _ hi)] at hc';exact E.obj i x y c hi hc'
 ·show h'.get i = some .dead ∨ h'.get j = some .dead
  rw [at_ i (E.old i _ hi), at_ j (E.old j _ hj)];exact E.inj i j x y y' hi hj hij hBx
 ·by_cases he : i = s.n
  ·subst he
   simp only [CH, if_pos] at hi;cases hi;exact ⟨E.none, by show h'.get s.n = _; rw [hg, if_pos rfl], Nat.lt_succ_self _⟩
  ·simp only [CH, if_neg he] at hi
   obtain ⟨h1, h2, h3⟩ := E.kept i c hi;exact ⟨h1, by show h'.get i = _; rw [at_ i h3]; exact h2, Nat.lt_succ_of_lt h3⟩
theorem cN.late (E : cN P K B m s w) {g y : Nat} {o : dK} {o' : Obj} (hK : K g = some o) (hr : OR P (m.put g w.heap.size y) g o o') : cN P (Fk K g) B (m.put g w.heap.size y) s (w.alloc o') := by
 obtain ⟨hn, hgo, hlt⟩ := E.kept g o hK;refine ⟨fun i x z hi => ?_, fun i p hi => ?_, fun i x z c hi hc => ?_, fun i j x z z' hi hj hij hBx => ?_, by have := E.base; simp; omega, fun i o2 hi => ?_⟩
 ·by_cases he : i = g
  ·subst he; simp at hi; have := E.base; exact ⟨.inl oM, by simp; omega⟩
  ·rw [Mp.put_ne he] at hi
   obtain ⟨h1, h2⟩ := E.low i x z hi;exact ⟨h1, by simp; omega⟩
 ·by_cases he : i = g
  ·subst he; exact hlt
  ·rw [Mp.put_ne he] at hi; exact E.old i p hi
 ·by_cases he : i = g
  ·subst he
   rw [hgo] at hc;cases hc;simp only [Mp.put_same, Option.some.injEq, Prod.mk.injEq] at hi;refine ⟨o', ?_, hr⟩;rw [<- hi.1];show (w.heap.push o')[w.heap.size]? = some o';simp
  ·rw [Mp.put_ne he] at hi
   obtain ⟨o2, h1, h2⟩ := E.obj i x z c hi hc;refine ⟨o2, ?_, h2.mono (Mp.put_le hn)⟩;have := (E.low i x z hi).2;show (w.heap.push o')[x]? = some o2;rw [Array.getElem?_push_lt this];rw [Array.getElem?_eq_getElem this] at h1;exact h1
 ·by_cases hi' : i = g
  ·subst hi'
   rw [Mp.put_ne (Ne.symm hij)] at hj;simp only [Mp.put_same, Option.some.injEq, Prod.mk.injEq] at hi;have := (E.low j x z' hj).2;omega
  ·by_cases hj' : j = g
   ·subst hj'
    rw [Mp.put_ne hij] at hi;simp only [Mp.put_same, Option.some.injEq, Prod.mk.injEq] at hj;have := (E.low i x z hi).2;omega
   ·rw [Mp.put_ne hi'] at hi
    rw [Mp.put_ne hj'] at hj;exact E.inj i j x z z' hi hj hij hBx
 ·by_cases he : i = g
  ·subst he; simp [Fk] at hi
  ·simp only [Fk, if_neg he] at hi
   obtain ⟨h1, h2, h3⟩ := E.kept i o2 hi;exact ⟨by rw [Mp.put_ne he]; exact h1, h2, h3⟩
end
def bD {α : Type} (F : (α -> Bool) -> Bool) : Prop := ∀ k, F k = true -> ∃ a, k a = true /\ ∀ k', k' a = true -> F k' = true
theorem bD.ret {α : Type} (a : α) : bD (fun k => k a) := fun _ h => ⟨a, h, fun _ h => h⟩
theorem bD.no {α : Type} : bD (fun _ : α -> Bool => false) := fun _ h => by cases h
theorem bD.bind {α β : Type} {F : (α -> Bool) -> Bool} {G : α -> (β -> Bool) -> Bool} (hF : bD F) (hG : ∀ a, bD (G a)) : bD (fun k => F (fun a => G a k)) := fun k h => by
 obtain ⟨a, h1, h2⟩ := hF _ h;obtain ⟨b, h3, h4⟩ := hG a k h1;exact ⟨b, h3, fun k' hk => h2 _ (h4 k' hk)⟩
theorem bD.ifB {α : Type} {b : Bool} {F G : (α -> Bool) -> Bool} (hF : bD F) (hG : bD G) : bD (fun k => ifB b (F k) (G k)) := by
 cases b with
 | true => exact hF
 | false => exact hG
theorem bD.opt {α : Type} (x : Option α) : bD (fun k => nE x k) := fun k h => by
 obtain ⟨a, rfl, h1⟩ := lC h;exact ⟨a, h1, fun k' hk => hk⟩
theorem bD.get {α : Type} : ∀ {t : BT α} {n : Nat}, bD (fun k => jR t n k)
 | .leaf, n => fun k h => by cases h
 | .node a l r, n => by
  have h0 : (fun k => jR (.node a l r) n k) = (fun k => Ev.ifB (Nat.beq n 0) (k a) (Ev.ifB (Nat.beq (Nat.mod n 2) 1) (jR l (Nat.div n 2) k) (jR r (Nat.pred (Nat.div n 2)) k))) := rfl;rw [h0];exact bD.ifB (bD.ret a) (bD.ifB bD.get bD.get)
end Go.Proofs.YtjkdkpckjgaplaaGreat.Ev
namespace Go.Proofs.YtjkdkpckjgaplaaGreat.Ev
open Go Go.RowKit
theorem bD.map {α β : Type} {F : (α -> Bool) -> Bool} (hF : bD F) (f : α -> β) : bD (fun k => F (fun a => k (f a))) := bD.bind hF (fun a => bD.ret (f a))
theorem bD.upd {α : Type} {v : α} : ∀ {t : BT α} {n : Nat}, bD (fun k => lM t n v k)
 | .leaf, n => bD.no
 | .node a l r, n => by
  have h0 : (fun k => lM (.node a l r) n v k) = (fun k => Ev.ifB (Nat.beq n 0) (k (.node v l r)) (Ev.ifB (Nat.beq (Nat.mod n 2) 1) (lM l (Nat.div n 2) v (fun l => k (.node a l r))) (lM r (Nat.pred (Nat.div n 2)) v (fun r => k (.node a l r))))) := rfl;rw [h0];exact bD.ifB (bD.ret _) (bD.ifB (bD.map bD.upd _) (bD.map bD.upd _))
theorem bD.add {α : Type} {v : α} : ∀ {t : BT α} {n : Nat}, bD (fun k => oN t n v k)
 | .leaf, n => by
  have h0 : (fun k => oN .leaf n v k) = (fun k => Ev.ifB (Nat.beq n 0) (k (.node v .leaf .leaf)) false) := rfl;rw [h0];exact bD.ifB (bD.ret _) bD.no
 | .node a l r, n => by
  have h0 : (fun k => oN (.node a l r) n v k) = (fun k => Ev.ifB (Nat.beq n 0) false (Ev.ifB (Nat.beq (Nat.mod n 2) 1) (oN l (Nat.div n 2) v (fun l => k (.node a l r))) (oN r (Nat.pred (Nat.div n 2)) v (fun r => k (.node a l r))))) := rfl;rw [h0];exact bD.ifB bD.no (bD.ifB (bD.map bD.add _) (bD.map bD.add _))
theorem bD.puts {α : Type} : ∀ {l : List α} {t : BT α} {n : Nat}, bD (fun k => dT t n l k)
 | [], t, n => bD.ret t
 | v :: l, t, n => bD.bind (F := fun k => lM t n v k) (G := fun t k => dT t (Nat.succ n) l k) bD.upd (fun _ => bD.puts)
theorem bD.adds {α : Type} : ∀ {l : List α} {t : BT α} {n : Nat}, bD (fun k => eB t n l k)
 | [], t, n => bD.ret t
 | v :: l, t, n => bD.bind (F := fun k => oN t n v k) (G := fun t k => eB t (Nat.succ n) l k) bD.add (fun _ => bD.adds)
theorem bD.seg {α : Type} {t : BT α} : ∀ {n i : Nat}, bD (fun k => lN t i n k)
 | 0, i => bD.ret []
 | n + 1, i => bD.bind (F := fun k => jR t i k) (G := fun v k => lN t (Nat.succ i) n (fun l => k (v :: l))) bD.get (fun v => bD.map bD.seg _)
section
variable {β : Type}
theorem bD.ptr {v : Value} {G : Nat -> Nat -> (β -> Bool) -> Bool} (hG : ∀ b o, bD (G b o)) : bD (fun k => wH v (fun b o => G b o k)) := by
 cases v with
 | pointer a => rcases a with _ | ⟨b, o, _ | _⟩ <;> first | exact bD.no | exact hG b o
 | _ => exact bD.no
theorem bD.slice {v : Value} {Z : Nat -> Nat -> (β -> Bool) -> Bool} {G : Nat -> Nat -> Nat -> Nat -> (β -> Bool) -> Bool} (hZ : ∀ n c, bD (Z n c)) (hG : ∀ b o n c, bD (G b o n c)) : bD (fun k => eK v (fun n c => Z n c k) (fun b o n c => G b o n c k)) := by
 cases v with
 | slice a n c => rcases a with _ | ⟨b, o, _ | _⟩ <;> first | exact bD.no | exact hG b o n c | exact hZ n c
 | _ => exact bD.no
theorem bD.int {v : Value} {G : IntKind -> Int -> (β -> Bool) -> Bool} {Z : (β -> Bool) -> Bool} (hG : ∀ i n, bD (G i n)) (hZ : bD Z) : bD (fun k => qF v (fun i n => G i n k) (Z k)) := by
 cases v with
 | int i n => exact hG i n
 | _ => exact hZ
theorem bD.nat {v : Value} {G : Nat -> (β -> Bool) -> Bool} (hG : ∀ n, bD (G n)) : bD (fun k => rK v (fun n => G n k)) := by
 cases v with
 | int i n => cases n with
  | ofNat n => exact hG n
  | negSucc n => exact bD.no
 | _ => exact bD.no
theorem bD.bool {v : Value} {G : Bool -> (β -> Bool) -> Bool} (hG : ∀ b, bD (G b)) : bD (fun k => nA v (fun b => G b k)) := by
 cases v with
 | bool b => exact hG b
 | _ => exact bD.no
theorem bD.agg {v : Value} {G : List Value -> (β -> Bool) -> Bool} (hG : ∀ l, bD (G l)) : bD (fun k => rJ v (fun l => G l k)) := by
 cases v with
 | agg a => exact hG a.toList
 | _ => exact bD.no
theorem bD.tuple {v : Value} {G : List Value -> (β -> Bool) -> Bool} (hG : ∀ l, bD (G l)) : bD (fun k => nD v (fun l => G l k)) := by
 cases v with
 | tuple a => exact hG a.toList
 | _ => exact bD.no
theorem bD.row {s : St} {b : Nat} {G : Nat -> BT Value -> Nat -> Bool -> (β -> Bool) -> Bool} (hG : ∀ n c e o, bD (G n c e o)) : bD (fun k => Ba s b (fun n c e o => G n c e o k)) :=
 bD.bind (F := fun k => qD s b k) (G := fun o k => @dK.casesOn (fun _ => Bool) o false (fun n c e o => G n c e o k) (fun _ _ _ _ _ _ _ => false) (fun _ => false) (fun _ => false) (fun _ => false)) bD.get (fun o => by
  cases o with
  | cells n c e o => exact hG n c e o
  | _ => exact bD.no)
end
theorem bD.see {β : Type} {s : St} {b : Nat} {G : BT Value -> (β -> Bool) -> Bool} {H : (Nat -> Option Value) -> (β -> Bool) -> Bool} (hG : ∀ c, bD (G c)) (hH : ∀ g, bD (H g)) : bD (fun k => qO s b (fun c => G c k) (fun g => H g k)) :=
 bD.bind (F := fun k => qD s b k) (G := fun o k => @dK.casesOn (fun _ => Bool) o false (fun _ c _ _ => G c k) (fun _ _ _ _ _ _ _ => false) (fun _ => false) (fun _ => false) (fun g => H g k)) bD.get (fun o => by
  cases o with
  | cells n c e o => exact hG c
  | rom g => exact hH g
  | _ => exact bD.no)
theorem bD.romSeg {g : Nat -> Option Value} : ∀ {n i : Nat}, bD (fun k => eL g i n k)
 | 0, i => bD.ret []
 | n + 1, i => bD.bind (F := fun k => nE (g i) k) (G := fun v k => eL g (Nat.succ i) n (fun l => k (v :: l))) (bD.opt (g i)) (fun v => bD.map bD.romSeg _)
theorem bD.romCut {g : Nat -> Option Value} {off : Nat} {n : Option Nat} : bD (fun k => nF g off n k) := by
 cases n with
 | none => exact bD.opt _
 | some n => exact bD.map bD.romSeg _
theorem bD.cut {c : BT Value} {off : Nat} {n : Option Nat} : bD (fun k => Cp c off n k) := by
 cases n with
 | none => exact bD.get
 | some n => exact bD.map bD.seg _
theorem bD.ld {s : St} {n : Option Nat} {v : Value} : bD (fun k => Cq s n v k) := bD.ptr (fun _ _ => bD.see (fun _ => bD.cut) (fun _ => bD.romCut))
theorem bD.nth : ∀ {l : List Value} {i : Nat}, bD (fun k => Aa l i k)
 | [], i => bD.no
 | v :: l, 0 => bD.ret v
 | v :: l, i + 1 => bD.nth (l := l) (i := i)
end Go.Proofs.YtjkdkpckjgaplaaGreat.Ev
namespace Go.Proofs.YtjkdkpckjgaplaaGreat.Ev
open Go Go.RowKit
section
variable {P : Program} {T : BT Value} {s : St}
theorem bD.optV {x : Option Value} : bD (fun k => nE x (fun v => dV v k)) := by
 have : (fun k => nE x (fun v => dV v k)) = (fun k => nE x k) := by
  funext k
  simp only [cL]
 rw [this];exact bD.opt x
def OW : COp -> Bool
 | .mov _ | .pick .. | .ld .. | .nilc _ | .bin .. | .un .. | .conv .. | .mini .. | .tas .. | .bi .. | .ixs .. | .fn .. | .slc .. | .slcn .. | .fa .. | .fld .. | .ia .. | .iaa .. | .ix .. | .ext .. | .len _ | .cap _ => true
 | _ => false
theorem bD.faP {v : Value} {off : Nat} : bD (fun k => Ow v off k) := bD.ptr (fun b o => by
 have : (fun k : Value -> Bool => cI (Nat.add o off) (fun o => k (.pointer (some ⟨b, o, none⟩)))) = (fun k => k (.pointer (some ⟨b, Nat.add o off, none⟩))) := by
  funext k
  rw [bB]
 rw [this];exact bD.ret _)
theorem bD.force {n : Nat} {f : Nat -> Value} : bD (fun k => cI n (fun o => k (f o))) := by
 have : (fun k : Value -> Bool => cI n (fun o => k (f o))) = (fun k => k (f n)) := by
  funext k
  rw [bB]
 rw [this];exact bD.ret _
theorem bD.iaP {v i : Value} {size : Nat} : bD (fun k => Ox v i size k) := bD.slice (fun _ _ => bD.no) (fun _ _ _ _ => bD.nat (fun _ => bD.ifB bD.force bD.no))
theorem bD.iaaP {v i : Value} {len size : Nat} : bD (fun k => Cr v i len size k) := bD.ptr (fun _ _ => bD.nat (fun _ => bD.ifB bD.force bD.no))
theorem bD.take : ∀ {l : List Value} {i n : Nat}, bD (fun k => Bb l i n k)
 | [], _, 0 => bD.ret []
 | [], _, _ + 1 => bD.no
 | _ :: _, 0, 0 => bD.ret []
 | v :: l, 0, n + 1 => bD.map (bD.take (l := l) (i := 0) (n := n)) (fun l => v :: l)
 | _ :: l, i + 1, n => bD.take (l := l) (i := i) (n := n)
theorem bD.partP {l : List Value} {off : Nat} {n : Option Nat} : bD (fun k => yR l off n k) := by
 cases n with
 | none => exact bD.nth
 | some n => exact bD.map bD.take _
theorem bD.ixP {v i : Value} {len size : Nat} {n : Option Nat} : bD (fun k => OF v i len size n k) := bD.agg (fun _ => bD.nat (fun _ => bD.ifB bD.partP bD.no))
theorem bD.pickP {c a b : Value} : bD (fun k => rM c a b k) := bD.bool (fun t => by
 cases t with
 | true => exact bD.ret a
 | false => exact bD.ret b)
theorem bD.nilcP {v : Value} : bD (fun k => Di v k) := bD.map (bD.opt (evNilc v)) (fun _ => v)
end
end Go.Proofs.YtjkdkpckjgaplaaGreat.Ev
namespace Go.Proofs.YtjkdkpckjgaplaaGreat.Ev
open Go Go.RowKit
theorem eV {α : Type} {k : α -> Bool} {a : α} : ∀ {t : BT α} {n : Nat}, t.get n = some a -> k a = true -> jR t n k = true
 | .leaf, n, h, _ => by cases h
 | .node b l r, n, h, hk => by
  show Ev.ifB (Nat.beq n 0) (k b) (Ev.ifB (Nat.beq (Nat.mod n 2) 1) (jR l (Nat.div n 2) k) (jR r (Nat.pred (Nat.div n 2)) k)) = true;simp only [BT.get] at h;rw [Bf];by_cases h0 : n = 0
  ·rw [if_pos h0] at h
   cases h;simpa [ifB, h0] using hk
  ·rw [if_neg h0] at h
   have e : Nat.beq (Nat.mod n 2) 1 = decide (n % 2 = 1) := par n;rw [e];by_cases hp : n % 2 = 1
   ·rw [if_pos hp] at h
    have := eV h hk;simp only [h0, hp, decide_false, decide_true, Ev.ifB];exact this
   ·rw [if_neg hp] at h
    have := eV (n := n / 2 - 1) h hk;simp only [h0, hp, decide_false, Ev.ifB];exact this
theorem pV {T : BT Value} {x : X} {v : Value} {k : Value -> Bool} (h : XV T x v) (hk : k v = true) : bF T x k = true := by
 cases x with
 | t i => exact eV h hk
 | c u => simp only [XV] at h; subst h; exact hk
theorem xB {T : BT Value} : ∀ {l : List X} {vs : List Value} {k : List Value -> Bool}, Ci T l vs -> k vs = true -> gF T l k = true
 | [], vs, k, h, hk => by simp only [Ci] at h; subst h; exact hk
 | x :: l, vs, k, h, hk => by
  simp only [Ci] at h;obtain ⟨v, vs', rfl, h1, h2⟩ := h;show bF T x (fun v => gF T l (fun l => k (v :: l))) = true;exact pV h1 (xB h2 hk)
theorem rV {T : BT Value} {x : Option X} {v : Option Value} {k : Option Value -> Bool} (h : XO T x v) (hk : k v = true) : dJ T x k = true := by
 cases x with
 | none => simp only [XO] at h; subst h; exact hk
 | some x =>
  simp only [XO] at h;obtain ⟨u, rfl, h1⟩ := h;show bF T x (fun v => k (some v)) = true;exact pV h1 hk
end Go.Proofs.YtjkdkpckjgaplaaGreat.Ev
namespace Go.Proofs.YtjkdkpckjgaplaaGreat.Ev
open Go Go.RowKit
def oY : COp -> Bool
 | .ld .. | .slc .. => true
 | _ => false
section
variable {P : Program} {T T' : BT Value} {s s' : St}
theorem Ci.up : ∀ {l : List X} {vs : List Value}, (∀ x ∈ l, ∀ v, XV T x v -> XV T' x v) -> Ci T l vs -> Ci T' l vs
 | [], vs, _, h => by simpa only [Ci] using h
 | x :: l, vs, hx, h => by
  simp only [Ci] at h ⊢;obtain ⟨v, vs', rfl, h1, h2⟩ := h;exact ⟨v, vs', rfl, hx x sM v h1, Ci.up (fun y hy => hx y (by simp [hy])) h2⟩
theorem ats {l : List X} {G G' : List Value -> Bool} (hx : ∀ x ∈ l, ∀ v, XV T x v -> XV T' x v) (h : ∀ v, G v = true -> G' v = true) (hk : gF T l G = true) : gF T' l G' = true := by
 obtain ⟨v, hv, hk⟩ := kU hk;exact xB (Ci.up hx hv) (h v hk)
end
end Go.Proofs.YtjkdkpckjgaplaaGreat.Ev
namespace Go.Proofs.YtjkdkpckjgaplaaGreat.Ev
open Go Go.RowKit
def St.ext (s s' : St) : Prop := ∀ j o, s.h.get j = some o -> s'.h.get j = some o
def Qi (T T' : BT Value) (l : List X) : Prop := ∀ x ∈ l, ∀ v, XV T x v -> XV T' x v
def aX (R : St -> Prop) (xs : List X) (T : BT Value) (s : St) (G : BT Value -> St -> (Value -> St -> Bool) -> Bool) : Prop :=
 ∀ k, G T s k = true -> ∃ v, k v s = true /\ ∀ T' s' k', Qi T T' xs -> R s' -> k' v s' = true -> G T' s' k' = true
section
variable {R : St -> Prop} {xs : List X} {T : BT Value} {s : St}
theorem aX.ret (v : Value) : aX R xs T s (fun _ s k => k v s) := fun k h => ⟨v, h, fun _ _ _ _ _ h => h⟩
theorem aX.no : aX R xs T s (fun _ _ _ => false) := fun k h => by cases h
theorem aX.par {F : (Value -> Bool) -> Bool} (hF : bD F) : aX R xs T s (fun _ s k => F (fun v => k v s)) := fun k h => by
 obtain ⟨v, h1, h2⟩ := hF _ h;exact ⟨v, h1, fun T' s' k' _ _ hk => h2 (fun v => k' v s') hk⟩
theorem aX.val {x : X} {G : Value -> BT Value -> St -> (Value -> St -> Bool) -> Bool} (hx : x ∈ xs) (h : ∀ v, aX R xs T s (G v)) : aX R xs T s (fun T s k => bF T x (fun v => G v T s k)) := fun k hk => by
 obtain ⟨v, hv, hk⟩ := Q4 hk;obtain ⟨u, h1, h2⟩ := h v k hk;exact ⟨u, h1, fun T' s' k' hT hR hk' => pV (hT x hx v hv) (h2 T' s' k' hT hR hk')⟩
theorem aX.vals {l : List X} {G : List Value -> BT Value -> St -> (Value -> St -> Bool) -> Bool} (hx : ∀ x ∈ l, x ∈ xs) (h : ∀ v, aX R xs T s (G v)) : aX R xs T s (fun T s k => gF T l (fun v => G v T s k)) := fun k hk => by
 obtain ⟨v, hv, hk⟩ := kU hk;obtain ⟨u, h1, h2⟩ := h v k hk;exact ⟨u, h1, fun T' s' k' hT hR hk' => xB (Ci.up (fun x hx' => hT x (hx x hx')) hv) (h2 T' s' k' hT hR hk')⟩
theorem aX.valO {x : Option X} {G : Option Value -> BT Value -> St -> (Value -> St -> Bool) -> Bool} (hx : ∀ y ∈ xsO x, y ∈ xs) (h : ∀ v, aX R xs T s (G v)) : aX R xs T s (fun T s k => dJ T x (fun v => G v T s k)) := fun k hk => by
 obtain ⟨v, hv, hk⟩ := fF hk;obtain ⟨u, h1, h2⟩ := h v k hk;refine ⟨u, h1, fun T' s' k' hT hR hk' => rV ?_ (h2 T' s' k' hT hR hk')⟩;cases x with
 | none => simpa only [XO] using hv
 | some y =>
  simp only [XO] at hv ⊢;obtain ⟨u, rfl, h1⟩ := hv;exact ⟨u, rfl, hT y (hx y (by simp [xsO])) u h1⟩
theorem Ae.up {T T' : BT Value} : ∀ {l : List (Nat × Nat × X)} {vs : List (Nat × Nat × Value)}, (∀ p ∈ l, ∀ v, XV T p.2.2 v -> XV T' p.2.2 v) -> Ae T l vs -> Ae T' l vs
 | [], vs, _, h => by simpa only [Ae] using h
 | (o, n, x) :: l, vs, hx, h => by
  simp only [Ae] at h ⊢;obtain ⟨v, vs', rfl, h1, h2⟩ := h;exact ⟨v, vs', rfl, hx (o, n, x) sM v h1, Ae.up (fun y hy => hx y (by simp [hy])) h2⟩
theorem yZ {T : BT Value} : ∀ {l : List (Nat × Nat × X)} {vs : List (Nat × Nat × Value)} {k : List (Nat × Nat × Value) -> Bool}, Ae T l vs -> k vs = true -> mZ T l k = true
 | [], vs, k, h, hk => by simp only [Ae] at h; subst h; exact hk
 | (o, n, x) :: l, vs, k, h, hk => by
  simp only [Ae] at h;obtain ⟨v, vs', rfl, h1, h2⟩ := h;show bF T x (fun v => mZ T l (fun l => k ((o, n, v) :: l))) = true;exact pV h1 (yZ h2 hk)
theorem aX.parts {l : List (Nat × Nat × X)} {G : List (Nat × Nat × Value) -> BT Value -> St -> (Value -> St -> Bool) -> Bool} (hx : ∀ p ∈ l, p.2.2 ∈ xs) (h : ∀ v, aX R xs T s (G v)) : aX R xs T s (fun T s k => mZ T l (fun v => G v T s k)) := fun k hk => by
 obtain ⟨v, hv, hk⟩ := lD hk;obtain ⟨u, h1, h2⟩ := h v k hk;exact ⟨u, h1, fun T' s' k' hT hR hk' => yZ (Ae.up (fun x hx' => hT _ (hx x hx')) hv) (h2 T' s' k' hT hR hk')⟩
theorem Ds {v : Value} {k : Value -> St -> Bool} {s : St} (h : k v s = true) : oK s k (some v) = true := by simpa [oK, nE, vK, cL] using h
theorem aX.opt (x : Option Value) : aX R xs T s (fun _ s k => oK s k x) := fun k h => by
 obtain ⟨v, rfl, hk⟩ := nI h;exact ⟨v, hk, fun T' s' k' _ _ hk' => Ds hk'⟩
theorem aX.slice {v : Value} {Z : Nat -> Nat -> BT Value -> St -> (Value -> St -> Bool) -> Bool} {G : Nat -> Nat -> Nat -> Nat -> BT Value -> St -> (Value -> St -> Bool) -> Bool} (hZ : ∀ n c, aX R xs T s (Z n c)) (hG : ∀ b o n c, aX R xs T s (G b o n c)) :
 aX R xs T s (fun T s k => eK v (fun n c => Z n c T s k) (fun b o n c => G b o n c T s k)) := by
 cases v with
 | slice a n c => rcases a with _ | ⟨b, o, _ | _⟩ <;> first | exact aX.no | exact hG b o n c | exact hZ n c
 | _ => exact aX.no
theorem Jo {s : St} {b n e : Nat} {c : BT Value} {op : Bool} {k : Nat -> BT Value -> Nat -> Bool -> Bool} (h : s.h.get b = some (.cells n c e op)) (hk : k n c e op = true) : Ba s b k = true := by
 obtain ⟨h', m⟩ := s;exact eV (k := fun o => @dK.casesOn (fun _ => Bool) o false k (fun _ _ _ _ _ _ _ => false) (fun _ => false) (fun _ => false) (fun _ => false)) h hk
theorem aX.ld {n : Option Nat} {a : Value} (hR : ∀ s', R s' -> s.ext s') : aX R xs T s (fun _ s k => Cq s n a (fun v => k v s)) := fun k h => by
 obtain ⟨b, off, rfl, h⟩ := kV h;have key : ∀ (s' : St) (k : Value -> Bool) (o : dK), s'.h.get b = some o -> @dK.casesOn (fun _ => Bool) o false (fun _ c _ _ => Cp c off n k) (fun _ _ _ _ _ _ _ => false) (fun _ => false) (fun _ => false) (fun g => nF g off n k) = true -> Cq s' n (.pointer (some ⟨b, off, none⟩)) k = true := by
  rintro ⟨h', m⟩ k o h1 h2;exact eV (k := fun o => @dK.casesOn (fun _ => Bool) o false (fun _ c _ _ => Cp c off n k) (fun _ _ _ _ _ _ _ => false) (fun _ => false) (fun _ => false) (fun g => nF g off n k)) h1 h2
 rcases wN h with ⟨N, c, e, op, hg, h⟩ | ⟨g, hg, h⟩
 ·obtain ⟨v, h1, h2⟩ := bD.cut _ h
  exact ⟨v, h1, fun T' s' k' _ hs hk => key s' _ _ (hR s' hs b _ hg) (h2 (fun v => k' v s') hk)⟩
 ·obtain ⟨v, h1, h2⟩ := bD.romCut _ h
  exact ⟨v, h1, fun T' s' k' _ hs hk => key s' _ _ (hR s' hs b _ hg) (h2 (fun v => k' v s') hk)⟩
theorem Fm {s s' : St} (h : s.ext s') {b : Nat} {q : Nat × Nat × Bool} (hq : iI s b = some q) : iI s' b = some q := by
 unfold iI at hq ⊢;split at hq
 ·rename_i n c e op hg
  rw [h b _ hg];exact hq
 ·cases hq
theorem Fo {s s' : St} (h : s.ext s') {e size : Nat} {x r : Value} {lo hi mx : Option Value} (hr : evSlc (iI s) e size x lo hi mx = some r) : evSlc (iI s') e size x lo hi mx = some r := by
 by_cases hx : ∃ b off len cap, x = .slice (some ⟨b, off, none⟩) len cap
 ·obtain ⟨b, off, len, cap, rfl⟩ := hx
  have e0 : ∀ row, evSlc row e size (.slice (some ⟨b, off, none⟩) len cap) lo hi mx = (match bnd 0 lo, bnd len hi, evMx mx with
   | some l, some h, some m =>
    sel (Nat.ble OPEN cap)
     (match row b with
     | some (k, e', op) => sel (op && Nat.beq e e' && Nat.beq off ((cap - OPEN) * size) && !Nat.beq size 0 && (Nat.beq cap OPEN || !Nat.beq len 0)) (evSlcOpen b size l h k (cap - OPEN) m) none
     | none => none)
     (sel (Nat.ble h cap) (evSlcAt b off len cap size l h m) none)
   | _, _, _ => none) := fun _ => rfl
  rw [e0] at hr ⊢;split at hr
  ·rename_i l hh M b1 b2 b3
   rw [qR] at hr ⊢;split at hr
   ·rename_i hop
    rw [if_pos hop];split at hr
    ·rename_i k e' op hrow
     rw [Fm h hrow];exact hr
    ·cases hr
   ·rename_i hop
    rw [if_neg hop];exact hr
  ·cases hr
 ·have e0 : ∀ row row', evSlc row e size x lo hi mx = evSlc row' e size x lo hi mx := by
   intro row row';cases x with
   | slice a n c =>
    rcases a with _ | ⟨b, o, _ | sp⟩
    ·cases n <;> cases c <;> rfl
    ·exact absurd ⟨b, o, n, c, rfl⟩ hx
    ·rfl
   | _ => rfl
  rw [e0 (iI s') (iI s)];exact hr
theorem aX.slc {e size : Nat} {x : Value} {lo hi mx : Option Value} (hR : ∀ s', R s' -> s.ext s') : aX R xs T s (fun _ s k => kE s e size x lo hi mx (fun v => k v s)) := fun k h => by
 obtain ⟨v, hv, h1⟩ := lC (k := fun v => dV v (fun v => k v s)) h;rw [cL] at h1;refine ⟨v, h1, fun T' s' k' _ hs hk => ?_⟩;show nE (evSlc (iI s') e size x lo hi mx) (fun v => dV v (fun v => k' v s')) = true;rw [Fo (hR s' hs) hv];show dV v (fun v => k' v s') = true;rw [cL];exact hk
end
theorem bD.cells {β : Type} {a : Array Value} {G : List Value -> (β -> Bool) -> Bool} (hG : ∀ l, bD (G l)) : bD (fun k => @Array.rec Value (fun _ => Bool) (fun l => G l k) a) := by
 cases a with
 | mk l => exact hG l
theorem bD.fill : ∀ {ps : List (Nat × Nat × Value)} {c : BT Value}, bD (fun k => lP c ps k)
 | [], c => bD.ret c
 | (o, n, v) :: ps, c => by
  have h0 : (fun k => lP c ((o, n, v) :: ps) k) = (fun k => @Array.rec Value (fun _ => Bool) (fun l => Ev.ifB (Nat.beq (kN l) n) (Ev.ifB (dU l) (dT c o l (fun c => lP c ps k)) false) false) v.cells) := rfl;rw [h0];exact bD.cells (fun l => bD.ifB (bD.ifB (bD.bind (F := fun k => dT c o l k) (G := fun c k => lP c ps k) bD.puts (fun _ => bD.fill)) bD.no) bD.no)
theorem bD.buildP {z : List Value} {ps : List (Nat × Nat × Value)} : bD (fun k => oU z ps k) :=
 bD.bind (F := fun k => eB .leaf 0 z k) (G := fun c k => lP c ps (fun c => lN c 0 (kN z) (fun l => k (Value.agg ⟨l⟩)))) bD.adds
  (fun c => bD.bind (F := fun k => lP c ps k) (G := fun c k => lN c 0 (kN z) (fun l => k (Value.agg ⟨l⟩))) bD.fill (fun c => bD.map (F := fun k => lN c 0 (kN z) k) bD.seg (fun l => Value.agg ⟨l⟩)))
def Ao : COp -> Bool
 | .build .. => true
 | c => OW c
theorem Bu {P : Program} {R : St -> Prop} {T : BT Value} {s : St} {c : COp} (h : Ao c = true) (hR : oY c = true -> ∀ s', R s' -> s.ext s') : aX R (opXs c) T s (fun T s k => V6 P T s c k) := by
 cases c with
 | mov x => exact aX.val (by simp [opXs]) fun v => aX.ret v
 | pick c a b => exact aX.val (by simp [opXs]) fun _ => aX.val (by simp [opXs]) fun _ => aX.val (by simp [opXs]) fun _ => aX.par bD.pickP
 | ld a n => exact aX.val (by simp [opXs]) fun _ => aX.ld (hR rfl)
 | nilc x => exact aX.val (by simp [opXs]) fun _ => aX.par bD.nilcP
 | bin b t d x y => exact aX.val (by simp [opXs]) fun _ => aX.val (by simp [opXs]) fun _ => aX.par bD.optV
 | un u x => exact aX.val (by simp [opXs]) fun _ => aX.opt _
 | conv a b x => exact aX.val (by simp [opXs]) fun _ => aX.opt _
 | mini t x => exact aX.val (by simp [opXs]) fun _ => aX.opt _
 | tas x a b o => exact aX.val (by simp [opXs]) fun _ => aX.opt _
 | bi b ts t l => exact aX.vals (by simp [opXs]) fun _ => aX.opt _
 | ixs t x i => exact aX.val (by simp [opXs]) fun _ => aX.val (by simp [opXs]) fun _ => aX.opt _
 | fn f p c => exact aX.vals (fun x hx => by simp only [opXs]; exact List.mem_append_left _ hx) fun p => aX.vals (fun x hx => by simp only [opXs]; exact List.mem_append_right _ hx) fun c => aX.ret (Value.func (.func f) ⟨p⟩ ⟨c⟩)
 | slc e size x lo hi mx =>
  exact aX.val (by simp [opXs]) fun _ => aX.valO (fun y hy => by simp only [opXs, List.mem_cons, List.mem_append]; exact .inr (.inl (.inl hy))) fun _ => aX.valO (fun y hy => by simp only [opXs, List.mem_cons, List.mem_append]; exact .inr (.inl (.inr hy))) fun _ =>
   aX.valO (fun y hy => by simp only [opXs, List.mem_cons, List.mem_append]; exact .inr (.inr hy)) fun _ => aX.slc (hR rfl)
 | slcn t x lo hi mx =>
  exact aX.val (by simp [opXs]) fun _ => aX.valO (fun y hy => by simp only [opXs, List.mem_cons, List.mem_append]; exact .inr (.inl (.inl hy))) fun _ => aX.valO (fun y hy => by simp only [opXs, List.mem_cons, List.mem_append]; exact .inr (.inl (.inr hy))) fun _ =>
   aX.valO (fun y hy => by simp only [opXs, List.mem_cons, List.mem_append]; exact .inr (.inr hy)) fun _ => aX.opt _
 | fa x off => exact aX.val (by simp [opXs]) fun _ => aX.par bD.faP
 | fld x off n => exact aX.val (by simp [opXs]) fun _ => aX.par (bD.agg fun _ => bD.partP)
 | ia x i size => exact aX.val (by simp [opXs]) fun _ => aX.val (by simp [opXs]) fun _ => aX.par bD.iaP
 | iaa x i len size => exact aX.val (by simp [opXs]) fun _ => aX.val (by simp [opXs]) fun _ => aX.par bD.iaaP
 | ix x i len size n => exact aX.val (by simp [opXs]) fun _ => aX.val (by simp [opXs]) fun _ => aX.par bD.ixP
 | ext x i => exact aX.val (by simp [opXs]) fun _ => aX.par (bD.tuple fun _ => bD.nth)
 | len x => exact aX.val (by simp [opXs]) fun _ => aX.slice (fun n _ => aX.ret (Value.int .i64 (.ofNat n))) (fun _ _ n _ => aX.ret (Value.int .i64 (.ofNat n)))
 | cap x => exact aX.val (by simp [opXs]) fun _ => aX.opt _
 | build z ps => exact aX.parts (fun p hp => by simp only [opXs]; exact List.mem_map_of_mem hp) fun _ => aX.par bD.buildP
 | _ => cases h
theorem CI {a b : IntKind} (h : kindEq a b = true) : a = b := by cases a <;> cases b <;> first | rfl | cases h
theorem Fp {a b : Int} (h : intEq a b = true) : a = b := by
 cases a <;> cases b <;> simp [intEq] at h <;> simp [h]
mutual
theorem Ap : ∀ (a b : Value), eqV a b = true -> a = b
 | .bool a, b, h => by
  cases b with
  | bool b => cases a <;> cases b <;> first | rfl | (simp [eqV] at h)
  | _ => simp [eqV] at h
 | .int k a, b, h => by
  cases b with
  | int k' b =>
   simp only [eqV, Bool.and_eq_true] at h;rw [CI h.1, Fp h.2]
  | _ => simp [eqV] at h
 | .float _ _, b, h => by cases b <;> simp [eqV] at h
 | .complex _ _ _, b, h => by cases b <;> simp [eqV] at h
 | .string a, b, h => by
  cases b with
  | string b => simp only [eqV, decide_eq_true_eq] at h; rw [h]
  | _ => simp [eqV] at h
 | .pointer a, b, h => by
  cases b with
  | pointer b =>
   rcases a with _ | ⟨a, o, _ | _⟩ <;> rcases b with _ | ⟨b, o', _ | _⟩ <;> first
    | rfl
    | (simp [eqV] at h; done)
    | (simp only [eqV, Bool.and_eq_true, Nat.beq_eq] at h; simp_all)
  | _ => cases a <;> simp [eqV] at h
 | .slice a l c, b, h => by
  cases b with
  | slice b l' c' =>
   rcases a with _ | ⟨a, o, _ | _⟩ <;> rcases b with _ | ⟨b, o', _ | _⟩ <;> first
    | (simp [eqV] at h; done)
    | (simp only [eqV, Bool.and_eq_true, Nat.beq_eq] at h; simp_all)
  | _ => cases a <;> simp [eqV] at h
 | .map _, b, h => by cases b <;> simp [eqV] at h
 | .chan _, b, h => by cases b <;> simp [eqV] at h
 | .func f p c, b, h => by
  cases b with
  | func f' p' c' =>
   cases f <;> cases f' <;> first
    | (simp [eqV] at h; done)
    | (
     simp only [eqV, Bool.and_eq_true, Nat.beq_eq] at h;obtain ⟨⟨h1, h2⟩, h3⟩ := h;rw [eqA_eq p p' h2, eqA_eq c c' h3]
     simp_all)
  | _ => cases f <;> simp [eqV] at h
 | .nilFunc, b, h => by cases b <;> first | rfl | (simp [eqV] at h)
 | .nilIface, b, h => by cases b <;> first | rfl | (simp [eqV] at h)
 | .iface t v, b, h => by
  cases b with
  | iface t' v' =>
   simp only [eqV, Bool.and_eq_true, Nat.beq_eq] at h;rw [Ap v v' h.2]
   simp_all
  | _ => simp [eqV] at h
 | .agg a, b, h => by
  cases b with
  | agg b => simp only [eqV] at h; rw [eqA_eq a b h]
  | _ => simp [eqV] at h
 | .tuple a, b, h => by
  cases b with
  | tuple b => simp only [eqV] at h; rw [eqA_eq a b h]
  | _ => simp [eqV] at h
theorem eqA_eq : ∀ (a b : Array Value), eqA a b = true -> a = b
 | ⟨a⟩, ⟨b⟩, h => by simp only [eqA] at h; rw [eqL_eq a b h]
theorem eqL_eq : ∀ (a b : List Value), eqL a b = true -> a = b
 | [], [], _ => rfl
 | a :: x, b :: y, h => by
  simp only [eqL, Bool.and_eq_true] at h;rw [Ap a b h.1, eqL_eq x y h.2]
 | [], _ :: _, h => by simp [eqL] at h
 | _ :: _, [], h => by simp [eqL] at h
end
end Go.Proofs.YtjkdkpckjgaplaaGreat.Ev
