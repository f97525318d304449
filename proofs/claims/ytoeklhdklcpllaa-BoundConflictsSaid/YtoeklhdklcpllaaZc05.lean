import Derived.Test.YtoeklhdklcpllaaZc04
set_option linter.unusedVariables false
set_option linter.unusedSimpArgs false
namespace Go.Proofs.Ytoeklhdklcpllaa.Ev
open Go Go.RowKit
def St.ext (s s' : St) : Prop := ∀ j o, s.h.get j = some o -> s'.h.get j = some o
def Same (T T' : BT Value) (l : List X) : Prop := ∀ x ∈ l, ∀ v, XV T x v -> XV T' x v
def Hands (R : St -> Prop) (xs : List X) (T : BT Value) (s : St) (G : BT Value -> St -> (Value -> St -> Bool) -> Bool) : Prop :=
 ∀ k, G T s k = true -> ∃ v, k v s = true /\ ∀ T' s' k', Same T T' xs -> R s' -> k' v s' = true -> G T' s' k' = true
section
variable {R : St -> Prop} {xs : List X} {T : BT Value} {s : St}
theorem Hands.ret (v : Value) : Hands R xs T s (fun _ s k => k v s) := fun k h => ⟨v, h, fun _ _ _ _ _ h => h⟩
theorem Hands.no : Hands R xs T s (fun _ _ _ => false) := fun k h => by cases h
theorem Hands.par {F : (Value -> Bool) -> Bool} (hF : Par F) : Hands R xs T s (fun _ s k => F (fun v => k v s)) := fun k h => by
 obtain ⟨v, h1, h2⟩ := hF _ h;exact ⟨v, h1, fun T' s' k' _ _ hk => h2 (fun v => k' v s') hk⟩
theorem Hands.val {x : X} {G : Value -> BT Value -> St -> (Value -> St -> Bool) -> Bool} (hx : x ∈ xs) (h : ∀ v, Hands R xs T s (G v)) : Hands R xs T s (fun T s k => valK T x (fun v => G v T s k)) := fun k hk => by
 obtain ⟨v, hv, hk⟩ := Z4 hk;obtain ⟨u, h1, h2⟩ := h v k hk;exact ⟨u, h1, fun T' s' k' hT hR hk' => valK_of (hT x hx v hv) (h2 T' s' k' hT hR hk')⟩
theorem Hands.vals {l : List X} {G : List Value -> BT Value -> St -> (Value -> St -> Bool) -> Bool} (hx : ∀ x ∈ l, x ∈ xs) (h : ∀ v, Hands R xs T s (G v)) : Hands R xs T s (fun T s k => valsK T l (fun v => G v T s k)) := fun k hk => by
 obtain ⟨v, hv, hk⟩ := valsK_inv hk;obtain ⟨u, h1, h2⟩ := h v k hk;exact ⟨u, h1, fun T' s' k' hT hR hk' => valsK_of (XVs.up (fun x hx' => hT x (hx x hx')) hv) (h2 T' s' k' hT hR hk')⟩
theorem Hands.valO {x : Option X} {G : Option Value -> BT Value -> St -> (Value -> St -> Bool) -> Bool} (hx : ∀ y ∈ xsO x, y ∈ xs) (h : ∀ v, Hands R xs T s (G v)) : Hands R xs T s (fun T s k => valOK T x (fun v => G v T s k)) := fun k hk => by
 obtain ⟨v, hv, hk⟩ := valOK_inv hk;obtain ⟨u, h1, h2⟩ := h v k hk;refine ⟨u, h1, fun T' s' k' hT hR hk' => valOK_of ?_ (h2 T' s' k' hT hR hk')⟩;cases x with
 | none => simpa only [XO] using hv
 | some y =>
  simp only [XO] at hv ⊢;obtain ⟨u, rfl, h1⟩ := hv;exact ⟨u, rfl, hT y (hx y (by simp [xsO])) u h1⟩
theorem XPs.up {T T' : BT Value} : ∀ {l : List (Nat × Nat × X)} {vs : List (Nat × Nat × Value)}, (∀ p ∈ l, ∀ v, XV T p.2.2 v -> XV T' p.2.2 v) -> XPs T l vs -> XPs T' l vs
 | [], vs, _, h => by simpa only [XPs] using h
 | (o, n, x) :: l, vs, hx, h => by
  simp only [XPs] at h ⊢;obtain ⟨v, vs', rfl, h1, h2⟩ := h;exact ⟨v, vs', rfl, hx (o, n, x) (by simp) v h1, XPs.up (fun y hy => hx y (by simp [hy])) h2⟩
theorem partsK_of {T : BT Value} : ∀ {l : List (Nat × Nat × X)} {vs : List (Nat × Nat × Value)} {k : List (Nat × Nat × Value) -> Bool}, XPs T l vs -> k vs = true -> partsK T l k = true
 | [], vs, k, h, hk => by simp only [XPs] at h; subst h; exact hk
 | (o, n, x) :: l, vs, k, h, hk => by
  simp only [XPs] at h;obtain ⟨v, vs', rfl, h1, h2⟩ := h;show valK T x (fun v => partsK T l (fun l => k ((o, n, v) :: l))) = true;exact valK_of h1 (partsK_of h2 hk)
theorem Hands.parts {l : List (Nat × Nat × X)} {G : List (Nat × Nat × Value) -> BT Value -> St -> (Value -> St -> Bool) -> Bool} (hx : ∀ p ∈ l, p.2.2 ∈ xs) (h : ∀ v, Hands R xs T s (G v)) : Hands R xs T s (fun T s k => partsK T l (fun v => G v T s k)) := fun k hk => by
 obtain ⟨v, hv, hk⟩ := partsK_inv hk;obtain ⟨u, h1, h2⟩ := h v k hk;exact ⟨u, h1, fun T' s' k' hT hR hk' => partsK_of (XPs.up (fun x hx' => hT _ (hx x hx')) hv) (h2 T' s' k' hT hR hk')⟩
theorem oK_some {v : Value} {k : Value -> St -> Bool} {s : St} (h : k v s = true) : oK s k (some v) = true := by simpa [oK, optK, vK, forceV_eq] using h
theorem Hands.opt (x : Option Value) : Hands R xs T s (fun _ s k => oK s k x) := fun k h => by
 obtain ⟨v, rfl, hk⟩ := oK_inv h;exact ⟨v, hk, fun T' s' k' _ _ hk' => oK_some hk'⟩
theorem Hands.slice {v : Value} {Z : Nat -> Nat -> BT Value -> St -> (Value -> St -> Bool) -> Bool} {G : Nat -> Nat -> Nat -> Nat -> BT Value -> St -> (Value -> St -> Bool) -> Bool} (hZ : ∀ n c, Hands R xs T s (Z n c)) (hG : ∀ b o n c, Hands R xs T s (G b o n c)) :
 Hands R xs T s (fun T s k => onSlice v (fun n c => Z n c T s k) (fun b o n c => G b o n c T s k)) := by
 cases v with
 | slice a n c => rcases a with _ | ⟨b, o, _ | _⟩ <;> first | exact Hands.no | exact hG b o n c | exact hZ n c
 | _ => exact Hands.no
theorem rowK_of {s : St} {b n e : Nat} {c : BT Value} {op : Bool} {k : Nat -> BT Value -> Nat -> Bool -> Bool} (h : s.h.get b = some (.cells n c e op)) (hk : k n c e op = true) : rowK s b k = true := by
 obtain ⟨h', m⟩ := s;exact getK_of (k := fun o => @CObj.casesOn (fun _ => Bool) o false k (fun _ _ _ _ _ _ _ => false) (fun _ => false) (fun _ => false) (fun _ => false)) h hk
theorem Hands.ld {n : Option Nat} {a : Value} (hR : ∀ s', R s' -> s.ext s') : Hands R xs T s (fun _ s k => ldK s n a (fun v => k v s)) := fun k h => by
 obtain ⟨b, off, rfl, h⟩ := onPtr_inv h;have key : ∀ (s' : St) (k : Value -> Bool) (o : CObj), s'.h.get b = some o -> @CObj.casesOn (fun _ => Bool) o false (fun _ c _ _ => cutK c off n k) (fun _ _ _ _ _ _ _ => false) (fun _ => false) (fun _ => false) (fun g => romCutK g off n k) = true -> ldK s' n (.pointer (some ⟨b, off, none⟩)) k = true := by
  rintro ⟨h', m⟩ k o h1 h2;exact getK_of (k := fun o => @CObj.casesOn (fun _ => Bool) o false (fun _ c _ _ => cutK c off n k) (fun _ _ _ _ _ _ _ => false) (fun _ => false) (fun _ => false) (fun g => romCutK g off n k)) h1 h2
 rcases seeK_inv h with ⟨N, c, e, op, hg, h⟩ | ⟨g, hg, h⟩
 ·obtain ⟨v, h1, h2⟩ := Par.cut _ h
  exact ⟨v, h1, fun T' s' k' _ hs hk => key s' _ _ (hR s' hs b _ hg) (h2 (fun v => k' v s') hk)⟩
 ·obtain ⟨v, h1, h2⟩ := Par.romCut _ h
  exact ⟨v, h1, fun T' s' k' _ hs hk => key s' _ _ (hR s' hs b _ hg) (h2 (fun v => k' v s') hk)⟩
theorem rowOf_ext {s s' : St} (h : s.ext s') {b : Nat} {q : Nat × Nat × Bool} (hq : rowOf s b = some q) : rowOf s' b = some q := by
 unfold rowOf at hq ⊢;split at hq
 ·rename_i n c e op hg
  rw [h b _ hg];exact hq
 ·cases hq
theorem evSlc_ext {s s' : St} (h : s.ext s') {e size : Nat} {x r : Value} {lo hi mx : Option Value} (hr : evSlc (rowOf s) e size x lo hi mx = some r) : evSlc (rowOf s') e size x lo hi mx = some r := by
 by_cases hx : ∃ b off len cap, x = .slice (some ⟨b, off, none⟩) len cap
 ·obtain ⟨b, off, len, cap, rfl⟩ := hx
  have e0 : ∀ row, evSlc row e size (.slice (some ⟨b, off, none⟩) len cap) lo hi mx = (match bnd 0 lo, bnd len hi, evMx mx with
   | some l, some h, some m =>
    sel (Nat.ble OPEN cap)
     (match row b with
     | some (k, e', op) => sel (op && Nat.beq e e' && Nat.beq off ((cap - OPEN) * size) && !Nat.beq size 0 && (Nat.beq cap OPEN || !Nat.beq len 0)) (evSlcOpen b size l h k (cap - OPEN) m) none
     | none => none)
     (sel (Nat.ble h cap) (evSlcAt b off len cap size l h m) none)
   | _, _, _ => none) := fun _ => rfl
  rw [e0] at hr ⊢;split at hr
  ·rename_i l hh M b1 b2 b3
   rw [sel_eq] at hr ⊢;split at hr
   ·rename_i hop
    rw [if_pos hop];split at hr
    ·rename_i k e' op hrow
     rw [rowOf_ext h hrow];exact hr
    ·cases hr
   ·rename_i hop
    rw [if_neg hop];exact hr
  ·cases hr
 ·have e0 : ∀ row row', evSlc row e size x lo hi mx = evSlc row' e size x lo hi mx := by
   intro row row';cases x with
   | slice a n c =>
    rcases a with _ | ⟨b, o, _ | sp⟩
    ·cases n <;> cases c <;> rfl
    ·exact absurd ⟨b, o, n, c, rfl⟩ hx
    ·rfl
   | _ => rfl
  rw [e0 (rowOf s') (rowOf s)];exact hr
theorem Hands.slc {e size : Nat} {x : Value} {lo hi mx : Option Value} (hR : ∀ s', R s' -> s.ext s') : Hands R xs T s (fun _ s k => slcK s e size x lo hi mx (fun v => k v s)) := fun k h => by
 obtain ⟨v, hv, h1⟩ := optK_inv (k := fun v => forceV v (fun v => k v s)) h;rw [forceV_eq] at h1;refine ⟨v, h1, fun T' s' k' _ hs hk => ?_⟩;show optK (evSlc (rowOf s') e size x lo hi mx) (fun v => forceV v (fun v => k' v s')) = true;rw [evSlc_ext (hR s' hs) hv];show forceV v (fun v => k' v s') = true;rw [forceV_eq];exact hk
end
theorem Par.cells {β : Type} {a : Array Value} {G : List Value -> (β -> Bool) -> Bool} (hG : ∀ l, Par (G l)) : Par (fun k => @Array.rec Value (fun _ => Bool) (fun l => G l k) a) := by
 cases a with
 | mk l => exact hG l
theorem Par.fill : ∀ {ps : List (Nat × Nat × Value)} {c : BT Value}, Par (fun k => fillK c ps k)
 | [], c => Par.ret c
 | (o, n, v) :: ps, c => by
  have h0 : (fun k => fillK c ((o, n, v) :: ps) k) = (fun k => @Array.rec Value (fun _ => Bool) (fun l => Ev.ifB (Nat.beq (lenL l) n) (Ev.ifB (allOne l) (putsK c o l (fun c => fillK c ps k)) false) false) v.cells) := rfl;rw [h0];exact Par.cells (fun l => Par.ifB (Par.ifB (Par.bind (F := fun k => putsK c o l k) (G := fun c k => fillK c ps k) Par.puts (fun _ => Par.fill)) Par.no) Par.no)
theorem Par.buildP {z : List Value} {ps : List (Nat × Nat × Value)} : Par (fun k => buildK z ps k) :=
 Par.bind (F := fun k => addsK .leaf 0 z k) (G := fun c k => fillK c ps (fun c => segK c 0 (lenL z) (fun l => k (Value.agg ⟨l⟩)))) Par.adds
  (fun c => Par.bind (F := fun k => fillK c ps k) (G := fun c k => segK c 0 (lenL z) (fun l => k (Value.agg ⟨l⟩))) Par.fill (fun c => Par.map (F := fun k => segK c 0 (lenL z) k) Par.seg (fun l => Value.agg ⟨l⟩)))
def stillB : COp -> Bool
 | .build .. => true
 | c => still c
theorem hands {P : Program} {R : St -> Prop} {T : BT Value} {s : St} {c : COp} (h : stillB c = true) (hR : looks c = true -> ∀ s', R s' -> s.ext s') : Hands R (opXs c) T s (fun T s k => U7 P T s c k) := by
 cases c with
 | mov x => exact Hands.val (by simp [opXs]) fun v => Hands.ret v
 | pick c a b => exact Hands.val (by simp [opXs]) fun _ => Hands.val (by simp [opXs]) fun _ => Hands.val (by simp [opXs]) fun _ => Hands.par Par.pickP
 | ld a n => exact Hands.val (by simp [opXs]) fun _ => Hands.ld (hR rfl)
 | nilc x => exact Hands.val (by simp [opXs]) fun _ => Hands.par Par.nilcP
 | bin b t d x y => exact Hands.val (by simp [opXs]) fun _ => Hands.val (by simp [opXs]) fun _ => Hands.par Par.optV
 | un u x => exact Hands.val (by simp [opXs]) fun _ => Hands.opt _
 | conv a b x => exact Hands.val (by simp [opXs]) fun _ => Hands.opt _
 | mini t x => exact Hands.val (by simp [opXs]) fun _ => Hands.opt _
 | tas x a b o => exact Hands.val (by simp [opXs]) fun _ => Hands.opt _
 | bi b ts t l => exact Hands.vals (by simp [opXs]) fun _ => Hands.opt _
 | ixs t x i => exact Hands.val (by simp [opXs]) fun _ => Hands.val (by simp [opXs]) fun _ => Hands.opt _
 | fn f p c => exact Hands.vals (fun x hx => by simp only [opXs]; exact List.mem_append_left _ hx) fun p => Hands.vals (fun x hx => by simp only [opXs]; exact List.mem_append_right _ hx) fun c => Hands.ret (Value.func (.func f) ⟨p⟩ ⟨c⟩)
 | slc e size x lo hi mx =>
  exact Hands.val (by simp [opXs]) fun _ => Hands.valO (fun y hy => by simp only [opXs, List.mem_cons, List.mem_append]; exact .inr (.inl (.inl hy))) fun _ => Hands.valO (fun y hy => by simp only [opXs, List.mem_cons, List.mem_append]; exact .inr (.inl (.inr hy))) fun _ =>
   Hands.valO (fun y hy => by simp only [opXs, List.mem_cons, List.mem_append]; exact .inr (.inr hy)) fun _ => Hands.slc (hR rfl)
 | slcn t x lo hi mx =>
  exact Hands.val (by simp [opXs]) fun _ => Hands.valO (fun y hy => by simp only [opXs, List.mem_cons, List.mem_append]; exact .inr (.inl (.inl hy))) fun _ => Hands.valO (fun y hy => by simp only [opXs, List.mem_cons, List.mem_append]; exact .inr (.inl (.inr hy))) fun _ =>
   Hands.valO (fun y hy => by simp only [opXs, List.mem_cons, List.mem_append]; exact .inr (.inr hy)) fun _ => Hands.opt _
 | fa x off => exact Hands.val (by simp [opXs]) fun _ => Hands.par Par.faP
 | fld x off n => exact Hands.val (by simp [opXs]) fun _ => Hands.par (Par.agg fun _ => Par.partP)
 | ia x i size => exact Hands.val (by simp [opXs]) fun _ => Hands.val (by simp [opXs]) fun _ => Hands.par Par.iaP
 | iaa x i len size => exact Hands.val (by simp [opXs]) fun _ => Hands.val (by simp [opXs]) fun _ => Hands.par Par.iaaP
 | ix x i len size n => exact Hands.val (by simp [opXs]) fun _ => Hands.val (by simp [opXs]) fun _ => Hands.par Par.ixP
 | ext x i => exact Hands.val (by simp [opXs]) fun _ => Hands.par (Par.tuple fun _ => Par.nth)
 | len x => exact Hands.val (by simp [opXs]) fun _ => Hands.slice (fun n _ => Hands.ret (Value.int .i64 (.ofNat n))) (fun _ _ n _ => Hands.ret (Value.int .i64 (.ofNat n)))
 | cap x => exact Hands.val (by simp [opXs]) fun _ => Hands.opt _
 | build z ps => exact Hands.parts (fun p hp => by simp only [opXs]; exact List.mem_map_of_mem hp) fun _ => Hands.par Par.buildP
 | _ => cases h
theorem kindEq_eq' {a b : IntKind} (h : kindEq a b = true) : a = b := by cases a <;> cases b <;> first | rfl | cases h
theorem intEq_eq' {a b : Int} (h : intEq a b = true) : a = b := by
 cases a <;> cases b <;> simp [intEq] at h <;> simp [h]
mutual
theorem eqV_eq : ∀ (a b : Value), eqV a b = true -> a = b
 | .bool a, b, h => by
  cases b with
  | bool b => cases a <;> cases b <;> first | rfl | (simp [eqV] at h)
  | _ => simp [eqV] at h
 | .int k a, b, h => by
  cases b with
  | int k' b =>
   simp only [eqV, Bool.and_eq_true] at h;rw [kindEq_eq' h.1, intEq_eq' h.2]
  | _ => simp [eqV] at h
 | .float _ _, b, h => by cases b <;> simp [eqV] at h
 | .complex _ _ _, b, h => by cases b <;> simp [eqV] at h
 | .string a, b, h => by
  cases b with
  | string b => simp only [eqV, decide_eq_true_eq] at h; rw [h]
  | _ => simp [eqV] at h
 | .pointer a, b, h => by
  cases b with
  | pointer b =>
   rcases a with _ | ⟨a, o, _ | _⟩ <;> rcases b with _ | ⟨b, o', _ | _⟩ <;> first
    | rfl
    | (simp [eqV] at h; done)
    | (simp only [eqV, Bool.and_eq_true, Nat.beq_eq] at h; simp_all)
  | _ => cases a <;> simp [eqV] at h
 | .slice a l c, b, h => by
  cases b with
  | slice b l' c' =>
   rcases a with _ | ⟨a, o, _ | _⟩ <;> rcases b with _ | ⟨b, o', _ | _⟩ <;> first
    | (simp [eqV] at h; done)
    | (simp only [eqV, Bool.and_eq_true, Nat.beq_eq] at h; simp_all)
  | _ => cases a <;> simp [eqV] at h
 | .map _, b, h => by cases b <;> simp [eqV] at h
 | .chan _, b, h => by cases b <;> simp [eqV] at h
 | .func f p c, b, h => by
  cases b with
  | func f' p' c' =>
   cases f <;> cases f' <;> first
    | (simp [eqV] at h; done)
    | (
     simp only [eqV, Bool.and_eq_true, Nat.beq_eq] at h;obtain ⟨⟨h1, h2⟩, h3⟩ := h;rw [eqA_eq p p' h2, eqA_eq c c' h3]
     simp_all)
  | _ => cases f <;> simp [eqV] at h
 | .nilFunc, b, h => by cases b <;> first | rfl | (simp [eqV] at h)
 | .nilIface, b, h => by cases b <;> first | rfl | (simp [eqV] at h)
 | .iface t v, b, h => by
  cases b with
  | iface t' v' =>
   simp only [eqV, Bool.and_eq_true, Nat.beq_eq] at h;rw [eqV_eq v v' h.2]
   simp_all
  | _ => simp [eqV] at h
 | .agg a, b, h => by
  cases b with
  | agg b => simp only [eqV] at h; rw [eqA_eq a b h]
  | _ => simp [eqV] at h
 | .tuple a, b, h => by
  cases b with
  | tuple b => simp only [eqV] at h; rw [eqA_eq a b h]
  | _ => simp [eqV] at h
theorem eqA_eq : ∀ (a b : Array Value), eqA a b = true -> a = b
 | ⟨a⟩, ⟨b⟩, h => by simp only [eqA] at h; rw [eqL_eq a b h]
theorem eqL_eq : ∀ (a b : List Value), eqL a b = true -> a = b
 | [], [], _ => rfl
 | a :: x, b :: y, h => by
  simp only [eqL, Bool.and_eq_true] at h;rw [eqV_eq a b h.1, eqL_eq x y h.2]
 | [], _ :: _, h => by simp [eqL] at h
 | _ :: _, [], h => by simp [eqL] at h
end
end Go.Proofs.Ytoeklhdklcpllaa.Ev
namespace Go.Proofs.Ytoeklhdklcpllaa.Ev
open Go Go.RowKit
def lateC : COp -> Bool
 | .new .. | .box .. | .mks .. | .lit .. => true
 | _ => false
def LateOk (P : Program) (T : BT Value) (o : Oper) (v : Value) (g : Nat) (ob : CObj) : Prop :=
 ∀ (m : Mp) (w : World) (ρ : Operand -> Value), Hρ m T ρ o.op -> m g = none -> ∃ u o', (execOp ρ o).run P w = .ok (.value u) (w.alloc o') /\ OR P (m.put g w.heap.size 0) g ob o' /\ VR (m.put g w.heap.size 0) v u
def Makes (P : Program) (T : BT Value) (s : St) (o : Oper) (k : Value -> St -> Bool) : Prop :=
 ∃ v ob h', k v ⟨h', s.n + 1⟩ = true /\ s.h.get s.n = none /\ (∀ j, h'.get j = if j = s.n then some ob else s.h.get j) /\ LateOk P T o v s.n ob
section
variable {P : Program} {s : St} {T : BT Value} {k : Value -> St -> Bool} {dst : Option Tmp} {ty : TypeId} {pos : String} {af : Array Edge} {gd : Option (Nat × Bool)} {c : COp}
theorem ptr_VR (m : Mp) (g x : Nat) : VR (m.put g x 0) (ptr g) (.pointer (some ⟨x, 0, none⟩)) := by
 simp only [ptr, VR];exact ⟨trivial, _, _, Mp.put_same _ _ _ _, rfl⟩
theorem slice_VR (m : Mp) (g x l c : Nat) (h : c < OPEN) : VR (m.put g x 0) (.slice (some ⟨g, 0, none⟩) l c) (.slice (some ⟨x, 0, none⟩) l c) := by
 simp only [VR];refine ⟨trivial, ?_⟩;rw [if_pos h];exact ⟨_, _, Mp.put_same _ _ _ _, rfl⟩
theorem late_new {t : TypeId} (hc : compOp P ⟨dst, .alloc t, ty, pos, af, gd⟩ = some c) (hk : U7 P T s c k = true) : Makes P T s ⟨dst, .alloc t, ty, pos, af, gd⟩ k := by
 simp only [compOp] at hc;obtain ⟨z, h1, rfl⟩ := Option.map_eq_some_iff.1 hc;obtain ⟨i, v, hi, hv, rfl, hf, h2⟩ := zeroOf_inv h1;have hk := nOf_inv (k := fun g => newK s (.cells v.cells.size (.ofList v.cells.toList) t false) (k (ptr g))) hk;obtain ⟨h', hk, hn, hg⟩ := newK_inv hk;refine ⟨_, _, h', hk, hn, hg, fun m w ρ _ hm => ⟨.pointer (some ⟨w.heap.size, 0, none⟩), .cells v.cells t (0, 0), ?_, ?_, ptr_VR m _ _⟩⟩
 ·simp [execOp, Instr.alloc, run_zero hi hv, newVar, newRow]
 ·have := row_new (P := P) (m := m.put s.n w.heap.size 0) (i := s.n) (N := v.cells.size) (e := t) (fun j u h => ofList_get h) (LR.flat v.cells.toList hf) h2 (by simp)
  simpa using this
theorem late_box {t : TypeId} {x : Operand} (hc : compOp P ⟨dst, .box t x, ty, pos, af, gd⟩ = some c) (hk : U7 P T s c k = true) : Makes P T s ⟨dst, .box t x, ty, pos, af, gd⟩ k := by
 simp only [compOp] at hc;obtain ⟨X, h1, rfl⟩ := Option.map_eq_some_iff.1 hc;obtain ⟨v, hv, hk1⟩ := Z4 (k := fun v => boxK s t v k) hk;have hk := nOf_inv (k := fun g => forceV v (fun v => @Array.rec Value (fun _ => Bool) (fun l => ifB (allOne l) (forceN (lenL l) (fun m => addsK .leaf 0 l (fun c => newK s (.cells m c t false) (k (ptr g))))) false) v.cells)) hk1;rw [forceV_eq] at hk;obtain ⟨l, hl⟩ : ∃ l, v.cells = ⟨l⟩ := ⟨v.cells.toList, rfl⟩;rw [hl] at hk;have hk0 : ifB (allOne l) (forceN (lenL l) (fun m => addsK .leaf 0 l (fun c => newK s (.cells m c t false) (k (ptr s.n))))) false = true := hk;obtain ⟨hall, hk'⟩ := W6 hk0;rw [forceN_eq] at hk';obtain ⟨c, hk', hcg⟩ := addsLeaf hk';obtain ⟨h', hk2, hn, hg⟩ := newK_inv hk';refine ⟨_, _, h', hk2, hn, hg, fun m w ρ hρ hm => ?_⟩;have hvr : VR m v (ρ x) := hρ x (by simp [Op.operands]) X v h1 hv;have hcells := hvr.cells;rw [hl] at hcells;refine ⟨.pointer (some ⟨w.heap.size, 0, none⟩), .cells (ρ x).cells t (0, 0), ?_, ?_, ptr_VR m _ _⟩
 ·simp [execOp, Instr.box, newVar, newRow]
 ·have := row_new (P := P) (m := m.put s.n w.heap.size 0) (i := s.n) (N := lenL l) (e := t) (c := c) (l := l) hcg (LR.mono (Mp.put_le hm) _ hcells) (allOne_eq l hall) (lenL_eq l)
  simpa using this
theorem late_mks {t : TypeId} {x y : Operand} (hc : compOp P ⟨dst, .makeSlice t x y, ty, pos, af, gd⟩ = some c) (hk : U7 P T s c k = true) : Makes P T s ⟨dst, .makeSlice t x y, ty, pos, af, gd⟩ k := by
 simp only [compOp] at hc;split at hc
 ·rename_i e X Y ht h2 h3
  split at hc
  ·rename_i i z hi hz
   obtain ⟨h6, hc⟩ := sel_inv hc;cases hc;have hs : z.size = i.size := by simpa using h6
   obtain ⟨vx, hx, hk1⟩ := Z4 (k := fun l => valK T Y (fun c => mksK s e i.size i.bytes z.toList l c k)) hk;obtain ⟨vy, hy, hk⟩ := Z4 hk1;obtain ⟨i', v, hi2, hv, hvz, hf, h1⟩ := zeroOf_inv hz;rw [hi] at hi2; cases hi2;unfold mksK at hk;obtain ⟨ka, na, rfl, hk⟩ := onInt0 hk;obtain ⟨kb, nb, rfl, hk1⟩ := onInt0 hk;clear hk;obtain ⟨h2', hk2⟩ := W6 hk1;clear hk1;obtain ⟨h3', hk3⟩ := W6 hk2;clear hk2;have := kindEq_eq h2'; subst this;have := kindEq_eq h3'; subst this;obtain ⟨_, l, hl, hk4⟩ := onNat_inv hk3;clear hk3;cases hl;obtain ⟨_, c, hc, hk5⟩ := onNat_inv hk4;clear hk4;cases hc;obtain ⟨h4, hk6⟩ := W6 hk5;clear hk5;obtain ⟨h5, hk7⟩ := W6 hk6;clear hk6;obtain ⟨h6, hk8⟩ := W6 hk7;clear hk7;have h4' : l <= c := by simpa using h4
   have h5' : c <= 1048576 := by simpa using h5
   have h6' : i.bytes * c <= 1073741824 := by simpa using h6
   obtain ⟨tr, hk9, htr⟩ := addsLeaf hk8;have hk10 := nOf_inv hk9;rw [forceN_eq] at hk10;obtain ⟨h', hk11, hn, hg⟩ := newK_inv hk10;refine ⟨_, _, h', hk11, hn, hg, fun m w ρ hρ hm => ?_⟩;have ea := (hρ x (by simp [Op.operands]) X _ h2 hx).int_inv;have eb := (hρ y (by simp [Op.operands]) Y _ h3 hy).int_inv;refine ⟨.slice (some ⟨w.heap.size, 0, none⟩) l c, .cells ⟨repeatN z.toList c⟩ e (0, 0), ?_, ?_, slice_VR m _ _ _ _ (by unfold OPEN; omega)⟩
   ·have w1 : IntKind.i64.wrap (Int.ofNat l) = l := by
     rw [<- wrapq_eq]; simp only [wrapq]; have : fits (Int.ofNat l) = true := by simp only [fits, Nat.blt_eq]; omega
     rw [this]; rfl
    have w2 : IntKind.i64.wrap (Int.ofNat c) = c := by
     rw [<- wrapq_eq]; simp only [wrapq]; have : fits (Int.ofNat c) = true := by simp only [fits, Nat.blt_eq]; omega
     rw [this]; rfl
    have hcell : (Array.range (c * i.size)).map (fun j => (if c * i.size = 0 then #[] else z)[j % (if c * i.size = 0 then #[] else z).size]!) = ⟨repeatN z.toList c⟩ := by
     by_cases h0 : c * i.size = 0
     ·rw [h0]
      apply Array.ext'
      have : (repeatN z.toList c).length = 0 := by rw [repeatN_length]; show c * z.size = 0; rw [hs]; exact h0
      have e0 := List.eq_nil_of_length_eq_zero this;simp only [e0, Array.toList_map, Array.toList_range, List.range_zero, List.map_nil]
     ·rw [if_neg h0, <- hs]; exact zeros_eq z c
    have hb1 : ¬ (i.bytes : Int) * (c : Int) > 2 ^ 48 := by
     rw [<- Int.natCast_mul];omega
    have hc0 : ¬ ((c : Int) < 0) := by omega
    have hl0 : ¬ ((l : Int) < 0) := by omega
    have hlc : ¬ ((l : Int) > (c : Int)) := by omega
    have he : execOp ρ ⟨dst, .makeSlice t x y, ty, pos, af, gd⟩ = (do pure (Next.value (<- Instr.makeSlice t (ρ x) (ρ y)))) := rfl;rw [he, ea, eb];have key : (Instr.makeSlice t (.int .i64 (Int.ofNat l)) (.int .i64 (Int.ofNat c))).run P w = .ok (.slice (some ⟨w.heap.size, 0, none⟩) l c) (w.alloc (.cells ⟨repeatN z.toList c⟩ e (0, 0))) := by
     unfold Instr.makeSlice;simp only [Sem.run_bind, Q6 ht, Result.andThen_ok, asInt, asIntOf, Sem.run_pure, run_typeInfo hi, w1, w2];rw [if_neg (by simp only [hc0, hl0, hlc, hb1, decide_false, Bool.or_self, Bool.false_eq_true, not_false_eq_true])];simp only [Sem.run_bind, run_askRoom, run_sizeOf hi, Result.andThen_ok, Int.toNat_natCast, Sem.run_ite];by_cases h0 : c * i.size = 0
     ·rw [if_pos h0]
      rw [if_pos h0] at hcell;simp only [Sem.run_bind, Sem.run_pure, Result.andThen_ok, newRow, run_newObj];rw [hcell]; rfl
     ·rw [if_neg h0]
      rw [if_neg h0] at hcell;simp only [Sem.run_bind, Sem.run_pure, Result.andThen_ok, newRow, run_newObj, run_zero hi hv, hvz];rw [hcell]; rfl
    rw [Sem.run_bind, key];rfl
   ·exact row_new htr (LR.flat _ (repeatN_flat hf c)) (repeatN_one h1 c) (by rw [repeatN_length]; show c * i.size = c * z.size; rw [hs])
  ·cases hc
 ·cases hc
open Classical in
theorem late_lit {t : TypeId} {len : Nat} {qs : Array (Nat × Operand)} (hc : compOp P ⟨dst, .buildSlice t len qs, ty, pos, af, gd⟩ = some c) (hk : U7 P T s c k = true) : Makes P T s ⟨dst, .buildSlice t len qs, ty, pos, af, gd⟩ k := by
 simp only [compOp] at hc;split at hc
 ·rename_i e ht
  split at hc
  ·rename_i i z hi hz
   split at hc
   ·rename_i xs h4
    obtain ⟨h5, hc⟩ := sel_inv hc;cases hc;simp only [Bool.and_eq_true, Nat.ble_eq] at h5;obtain ⟨⟨⟨h5, h6⟩, h16⟩, hlen⟩ := h5;have hzs : z.size = i.size := by simpa using h6
    obtain ⟨ps, hv, hk1⟩ := partsK_inv (k := fun ps => litK s e len (len * i.size) (repeatN z.toList len) ps k) hk;obtain ⟨i', zv, hi2, hzv, hvz, hf, hone⟩ := zeroOf_inv hz;rw [hi] at hi2; cases hi2;unfold litK at hk1;have hrl : (repeatN z.toList len).length = len * i.size := by rw [repeatN_length]; show len * z.size = _; rw [hzs]
    obtain ⟨c, hk2, hc⟩ := addsLeaf hk1;obtain ⟨c', hk3, hpar⟩ := Par.fill _ hk2;have hk4 := nOf_inv (k := fun g => newK s (.cells (len * i.size) c' e false) (k (.slice (some ⟨g, 0, none⟩) len len))) hk3;obtain ⟨h', hk5, hn, hg⟩ := newK_inv hk4;refine ⟨_, _, h', hk5, hn, hg, fun m w ρ hρ hm => ?_⟩;have hp := parts_ok (m := m) (ρ := ρ) h4 hv hρ;have hff : ∀ v ∈ repeatN z.toList len, flat v = true := by
     have : ∀ (l : List Value), flatL l = true -> ∀ v ∈ l, flat v = true := by
      intro l
      induction l with
      | nil => intro _ v hv; cases hv
      | cons a l ih =>
       intro h v hv;simp only [flatL, Bool.and_eq_true] at h;rcases List.mem_cons.1 hv with rfl | hv
       ·exact h.1
       ·exact ih h.2 v hv
     exact this _ (repeatN_flat hf len)
    obtain ⟨c2, cs', hc2, hfill, hsz, hc'⟩ := fill_ok (m := m) (cs := ⟨repeatN z.toList len⟩) (N := len * i.size) (k := fun x => decide (x = c')) hp (inN_of h5 hv) hrl (fun j v hj => by
     have h1 := hc j v hj;exact ⟨repeatN_one hone len v (List.mem_of_getElem? h1), v, by simpa using h1, VR.flat v (hff v (List.mem_of_getElem? h1))⟩) (hpar _ (by simp))
    have : c2 = c' := by simpa using hc2
    subst this;refine ⟨.slice (some ⟨w.heap.size, 0, none⟩) len len, .cells cs' e (0, 0), ?_, ?_, slice_VR m _ _ _ _ (by unfold OPEN; omega)⟩
    ·have hcell : ∀ Z : Array Value, (Z = if len * i.size = 0 then #[] else z) -> (Array.range (len * i.size)).map (fun j => Z[j % Z.size]!) = ⟨repeatN z.toList len⟩ := by
      rintro Z rfl;by_cases h0 : len * i.size = 0
      ·rw [h0]
       apply Array.ext'
       have e0 := List.eq_nil_of_length_eq_zero (hrl.trans h0);simp only [e0, Array.toList_map, Array.toList_range, List.range_zero, List.map_nil]
      ·rw [if_neg h0, <- hzs]; exact zeros_eq z len
     have hbig : ¬ len * i.size > 2 ^ 24 := by omega
     have he : execOp ρ ⟨dst, .buildSlice t len qs, ty, pos, af, gd⟩ = (do pure (Next.value (<- Instr.buildSlice t len ⟨qs.toList.map fun (p : Nat × Operand) => (p.1, ρ p.2)⟩))) := by
      rw [<- map_parts];rfl
     have key : (Instr.buildSlice t len ⟨qs.toList.map fun (p : Nat × Operand) => (p.1, ρ p.2)⟩).run P w = .ok (.slice (some ⟨w.heap.size, 0, none⟩) len len) (w.alloc (.cells cs' e (0, 0))) := by
      unfold Instr.buildSlice;simp only [Sem.run_bind, Q6 ht, Result.andThen_ok, run_sizeOf hi, if_neg hbig, Sem.run_pure, Sem.run_ite];by_cases h0 : len * i.size = 0
      ·have hc0 := hcell #[] (by rw [if_pos h0])
       simp only [if_pos h0, Sem.run_bind, Sem.run_pure, Result.andThen_ok];rw [hc0, hfill];simp [newRow]
      ·have hc0 := hcell z (by rw [if_neg h0])
       simp only [if_neg h0, Sem.run_bind, Sem.run_pure, Result.andThen_ok, run_zero hi hzv, hvz];rw [hc0, hfill];simp [newRow]
     rw [he, Sem.run_bind, key];rfl
    ·refine ⟨cs', rfl, by rw [hsz]; exact Nat.le_refl _, fun j v hj => ?_, by simp, fun j v hj => ?_⟩
     ·obtain ⟨_, v', h1, h2⟩ := hc' j v hj
      exact ⟨v', h1, h2.mono (Mp.put_le hm)⟩
     ·obtain ⟨h0, v', h1, h2⟩ := hc' j v hj
      exact ⟨h0, by rw [<- hsz]; exact (Array.getElem?_eq_some_iff.1 h1).1⟩
   ·cases hc
  ·cases hc
 ·cases hc
theorem comp_kind {op : Op} (hc : compOp P ⟨dst, op, ty, pos, af, gd⟩ = some c) : (calm op = true -> stillB c = true ∨ lateC c = true) /\ (looks c = true -> isLook op = true) /\ (lateC c = true -> ∀ {T : BT Value} {s : St} {k : Value -> St -> Bool}, U7 P T s c k = true -> Makes P T s ⟨dst, op, ty, pos, af, gd⟩ k) := by
 have hm : ∀ {α : Type} {x : Option α} {f : α -> COp}, x.map f = some c -> ∃ a, c = f a := by
  intro α x f h;obtain ⟨a, _, e⟩ := Option.map_eq_some_iff.1 h;exact ⟨a, e.symm⟩
 cases op with
 | alloc t => exact ⟨fun _ => (by obtain ⟨a, rfl⟩ := hm hc; exact .inr rfl), fun h => (by obtain ⟨a, rfl⟩ := hm hc; cases h), fun _ _ _ _ hk => late_new hc hk⟩
 | box t x => exact ⟨fun _ => (by obtain ⟨a, rfl⟩ := hm hc; exact .inr rfl), fun h => (by obtain ⟨a, rfl⟩ := hm hc; cases h), fun _ _ _ _ hk => late_box hc hk⟩
 | makeSlice t x y =>
  refine ⟨fun _ => ?_, fun h => ?_, fun _ _ _ _ hk => late_mks hc hk⟩
  all_goals
   simp only [compOp] at hc
   repeat' split at hc
   all_goals first | (obtain ⟨_, hc⟩ := sel_inv hc; cases hc; first | exact .inr rfl | cases h) | cases hc
 | buildSlice t n x =>
  refine ⟨fun _ => ?_, fun h => ?_, fun _ _ _ _ hk => late_lit hc hk⟩
  all_goals
   simp only [compOp] at hc
   repeat' split at hc
   all_goals first | (obtain ⟨_, hc⟩ := sel_inv hc; cases hc; first | exact .inr rfl | cases h) | cases hc
 | call cl =>
  obtain ⟨ce, args, ts⟩ := cl;cases ce with
  | value f =>
   simp only [compOp] at hc;split at hc
   ·cases hc; exact ⟨fun h => (by cases h), fun h => (by cases h), fun h => (by cases h)⟩
   ·cases hc
  | invoke => cases hc
  | builtin b =>
   simp only [compOp] at hc
   repeat' split at hc
   all_goals first
    | (cases hc; done)
    | (cases hc; exact ⟨fun h => (by cases h), fun h => (by cases h), fun h => (by cases h)⟩)
    | (obtain ⟨a, rfl⟩ := hm hc; exact ⟨fun h => (by first | exact .inl rfl | cases h), fun h => (by cases h), fun h => (by cases h)⟩)
    | (obtain ⟨_, hc⟩ := sel_inv hc; cases hc; exact ⟨fun h => (by cases h), fun h => (by cases h), fun h => (by cases h)⟩)
    | (obtain ⟨_, hc⟩ := sel_inv hc; cases hc; done)
    | (obtain ⟨_, hc⟩ := sel_inv hc; split at hc <;> first | (cases hc; done) | (cases hc; exact ⟨fun h => (by cases h), fun h => (by cases h), fun h => (by cases h)⟩))
 | makeFunc fn => cases fn with
  | func f =>
   simp only [compOp] at hc
   repeat' split at hc
   all_goals first | (cases hc; done) | (cases hc; exact ⟨fun h => .inl rfl, fun h => (by cases h), fun h => (by cases h)⟩)
  | _ => cases hc
 | makeMap t r => cases r with
  | none => cases hc; exact ⟨fun h => (by cases h), fun h => (by cases h), fun h => (by cases h)⟩
  | some r => cases hc
 | _ =>
  simp only [compOp] at hc
  repeat' split at hc
  all_goals first
   | (cases hc; done)
   | (cases hc; exact ⟨fun h => (by first | exact .inl rfl | cases h), fun h => (by first | rfl | cases h), fun h => (by cases h)⟩)
   | (obtain ⟨a, rfl⟩ := hm hc; exact ⟨fun h => (by first | exact .inl rfl | cases h), fun h => (by first | rfl | cases h), fun h => (by cases h)⟩)
   | (obtain ⟨_, hc⟩ := sel_inv hc; cases hc; exact ⟨fun h => (by first | exact .inl rfl | cases h), fun h => (by first | rfl | cases h), fun h => (by cases h)⟩)
   | (rw [sel_eq] at hc; split at hc <;> first | (cases hc; done) | (cases hc; exact ⟨fun h => (by first | exact .inl rfl | cases h), fun h => (by first | rfl | cases h), fun h => (by cases h)⟩))
end
end Go.Proofs.Ytoeklhdklcpllaa.Ev
namespace Go.Proofs.Ytoeklhdklcpllaa.Ev
open Go Go.RowKit
def inL (L : Array Bool) (i : Nat) : Prop := L.getD i false = true
theorem inL_set {L : Array Bool} {i : Nat} (hi : i < L.size) (j : Nat) : inL (L.setIfInBounds i true) j ↔ j = i ∨ inL L j := by
 unfold inL;by_cases h : i = j
 ·subst h
  simp [hi]
 ·rw [getD_set_ne false h]
  constructor
  ·exact .inr
  ·rintro (h' | h')
   ·exact absurd h'.symm h
   ·exact h'
theorem getD_true {L : Array Bool} {i : Nat} : L.getD i true = false ↔ i < L.size /\ ¬ inL L i := by
 unfold inL;by_cases h : i < L.size
 ·simp [h]
 ·simp [h]
def Deps (o : Oper) (i : Nat) : Prop := ∃ e ∈ o.after, Region.binds .any e = true /\ e.on = i
structure Uniq (P : Program) (ops : Array Oper) : Prop where
 one : ∀ {i j : Nat} {o o' : Oper} {d : Nat}, ops[i]? = some o -> ops[j]? = some o' -> o.dst = some d -> o'.dst = some d -> i = j
 dep : ∀ {i j : Nat} {o o' : Oper} {d : Nat}, ops[i]? = some o' -> o'.dst = some d -> ops[j]? = some o -> d ∈ readsT P ops o -> Deps o i ∨ (isLook o.op = false /\ anc (Region.before ops) i j = true)
theorem memN_of {d : Nat} : ∀ {l : List Nat}, d ∈ l -> memN d l = true
 | x :: l, h => by
  simp only [memN, Bool.or_eq_true, Nat.beq_eq];rcases List.mem_cons.1 h with rfl | h
  ·exact .inl (by simp)
  ·exact .inr (memN_of h)
theorem tmpsOk_at {P : Program} {ops : Array Oper} {b : Array Nat} (h : tmpsOk P ops b = true) {i j : Nat} {o o' : Oper} {d : Nat} (hi : ops[i]? = some o') (hd : o'.dst = some d) (hj : ops[j]? = some o) :
 (i = j ∨ writes o d = false) /\ ((memN d (readsT P ops o) = false ∨ depOn o i = true) ∨ (isLook o.op = false /\ anc b i j = true)) := by
 unfold tmpsOk at h;have hi' : i < ops.size := (Array.getElem?_eq_some_iff.1 hi).1;have hj' : j < ops.size := (Array.getElem?_eq_some_iff.1 hj).1;have h1 := List.all_eq_true.1 h i (List.mem_range.2 hi');simp only [hi, hd] at h1;have h2 := List.all_eq_true.1 h1 j (List.mem_range.2 hj');simp only [hj, Bool.and_eq_true, Bool.or_eq_true, Bool.not_eq_true', Nat.beq_eq] at h2;refine ⟨?_, h2.2⟩;rcases h2.1 with h3 | h3
 ·exact .inl (by simpa using h3)
 ·exact .inr h3
theorem uniq_of {P : Program} {ops : Array Oper} (h : tmpsOk P ops (Region.before ops) = true) : Uniq P ops where
 one := by
  intro i j o o' d hi hj hd hd';rcases (tmpsOk_at h hi hd hj).1 with h1 | h1
  ·exact h1
  ·simp [writes, hd'] at h1
 dep := by
  intro i j o o' d hi hd hj hm;rcases (tmpsOk_at h hi hd hj).2 with (h1 | h1) | h1
  ·rw [memN_of hm] at h1; cases h1
  ·unfold depOn at h1
   rw [List.any_eq_true] at h1;obtain ⟨e, he, h2⟩ := h1;simp only [Bool.and_eq_true, Nat.beq_eq] at h2;exact .inl ⟨e, by simpa using he, h2.2, by simpa using h2.1⟩
  ·exact .inr h1
/-! What waits for what, by 'before' -/
theorem fold_push {f : Array Nat -> Oper -> Nat} : ∀ (l : List Oper) (A : Array Nat),
 (∀ i, i < A.size -> (l.foldl (fun acc o => acc.push (f acc o)) A).getD i 0 = A.getD i 0) /\
 ∀ (i : Nat) (o : Oper), l[i]? = some o -> ∃ A' : Array Nat, A'.size = A.size + i /\ (∀ k, k < A'.size -> (l.foldl (fun acc o => acc.push (f acc o)) A).getD k 0 = A'.getD k 0) /\ (l.foldl (fun acc o => acc.push (f acc o)) A).getD (A.size + i) 0 = f A' o
 | [], A => ⟨fun _ _ => rfl, fun i o h => by simp at h⟩
 | x :: l, A => by
  obtain ⟨h1, h2⟩ := fold_push l (A.push (f A x));refine ⟨fun i hi => ?_, fun i o ho => ?_⟩
  ·rw [List.foldl_cons, h1 i (by simp; omega)]
   simp [Array.getD_eq_getD_getElem?, Array.getElem?_push_lt hi, hi]
  ·rw [List.foldl_cons]
   rcases i with _ | i
   ·simp at ho
    subst ho;refine ⟨A, rfl, fun k hk => ?_, ?_⟩
    ·rw [h1 k (by simp; omega)]
     simp [Array.getD_eq_getD_getElem?, Array.getElem?_push_lt hk, hk]
    ·rw [Nat.add_zero, h1 A.size (by simp)]
     simp [Array.getD_eq_getD_getElem?]
   ·obtain ⟨A', h3, h4, h5⟩ := h2 i o (by simpa using ho)
    refine ⟨A', by rw [h3]; simp; omega, h4, ?_⟩;rw [<- h5]
    congr 1
    simp; omega
theorem fold_bits {A : Array Nat} {i : Nat} : ∀ (l : List Edge) (s : Nat), (l.foldl (fun s e => if Region.binds .any e then s ||| 2 ^ e.on ||| A.getD e.on 0 else s) s).testBit i = true -> s.testBit i = true ∨ ∃ e ∈ l, Region.binds .any e = true /\ (e.on = i ∨ (A.getD e.on 0).testBit i = true)
 | [], s, h => .inl h
 | e :: l, s, h => by
  rw [List.foldl_cons] at h;rcases fold_bits l _ h with h | ⟨e', h1, h2⟩
  ·by_cases hb : Region.binds .any e = true
   ·rw [if_pos hb, Nat.testBit_or, Nat.testBit_or, Bool.or_eq_true, Bool.or_eq_true] at h
    rcases h with (h | h) | h
    ·exact .inl h
    ·refine .inr ⟨e, by simp, hb, .inl ?_⟩
     rw [Nat.testBit_two_pow] at h;simpa using h
    ·exact .inr ⟨e, by simp, hb, .inr h⟩
   ·rw [if_neg hb] at h
    exact .inl h
  ·exact .inr ⟨e', List.mem_cons_of_mem _ h1, h2⟩
theorem before_at {ops : Array Oper} {j i : Nat} {o : Oper} (ho : ops[j]? = some o) (h : anc (Region.before ops) j i = true) : ∃ e ∈ o.after, Region.binds .any e = true /\ (e.on = i ∨ (e.on < j /\ anc (Region.before ops) e.on i = true)) := by
 unfold anc at h ⊢;have he : Region.before ops = ops.toList.foldl (fun acc o => acc.push (o.after.foldl (fun s e => if Region.binds .any e then s ||| 2 ^ e.on ||| acc.getD e.on 0 else s) 0)) #[] := by
  unfold Region.before;rw [<- Array.foldl_toList]
 obtain ⟨_, h2⟩ := fold_push (f := fun acc o => o.after.foldl (fun s e => if Region.binds .any e then s ||| 2 ^ e.on ||| acc.getD e.on 0 else s) 0) ops.toList #[];obtain ⟨A', h3, h4, h5⟩ := h2 j o (by simpa using ho);rw [<- he] at h4 h5;simp only [Array.size_empty, Nat.zero_add] at h3 h5;rw [h5, <- Array.foldl_toList] at h;rcases fold_bits o.after.toList 0 h with h | ⟨e, h6, h7, h8⟩
 ·simp at h
 ·refine ⟨e, by simpa using h6, h7, ?_⟩
  rcases h8 with h8 | h8
  ·exact .inl h8
  ·right
   have hlt : e.on < A'.size := by
    rcases Nat.lt_or_ge e.on A'.size with h9 | h9
    ·exact h9
    ·simp [Array.getD_eq_getD_getElem?, Array.getElem?_eq_none h9] at h8
   exact ⟨by omega, by rw [h4 e.on hlt]; exact h8⟩
def Closed (ops : Array Oper) (p : Nat -> Prop) : Prop := ∀ i o, p i -> ops[i]? = some o -> ∀ k, Deps o k -> p k
theorem anc_in {ops : Array Oper} {p : Nat -> Prop} (hc : Closed ops p) {i : Nat} : ∀ (n j : Nat) {o : Oper}, j < n -> ops[j]? = some o -> (∀ k, Deps o k -> p k) -> anc (Region.before ops) j i = true -> p i
 | 0, j, o, hj, ho, hd, h => by omega
 | n + 1, j, o, hj, ho, hd, h => by
  obtain ⟨e, he, hb, h1⟩ := before_at ho h;have hin := hd e.on ⟨e, he, hb, rfl⟩;rcases h1 with rfl | ⟨h1, h2⟩
  ·exact hin
  ·have hlt : j < ops.size := (Array.getElem?_eq_some_iff.1 ho).1
   have ho' : ops[e.on]? = some ops[e.on] := Array.getElem?_eq_getElem (by omega);exact anc_in hc n e.on (by omega) ho' (hc _ _ hin ho') h2
def View (ops : Array Oper) (V : Nat -> Value) (Ti : BT Value) (p : Nat -> Prop) (t : Nat) (v : Value) : Prop :=
 (∃ i o, p i /\ ops[i]? = some o /\ o.dst = some t /\ v = V i) ∨ ((∀ i o, p i -> ops[i]? = some o -> o.dst ≠ some t) /\ Ti.get t = some v)
theorem View.val {ops : Array Oper} {V V' : Nat -> Value} {Ti : BT Value} {p : Nat -> Prop} (h : ∀ i, p i -> V' i = V i) {t : Nat} {v : Value} : View ops V' Ti p t v ↔ View ops V Ti p t v := by
 constructor
 ·rintro (⟨i, o, h1, h2, h3, rfl⟩ | h1)
  ·exact .inl ⟨i, o, h1, h2, h3, h i h1⟩
  ·exact .inr h1
 ·rintro (⟨i, o, h1, h2, h3, rfl⟩ | h1)
  ·exact .inl ⟨i, o, h1, h2, h3, (h i h1).symm⟩
  ·exact .inr h1
theorem View.at {P : Program} {ops : Array Oper} (hU : Uniq P ops) {V : Nat -> Value} {Ti : BT Value} {p : Nat -> Prop} (hc : Closed ops p) {j : Nat} {o : Oper} (ho : ops[j]? = some o) (hd : ∀ k, Deps o k -> p k) (hj : ¬ p j) {t : Nat} (ht : t ∈ readsT P ops o) {v : Value} :
 View ops V Ti p t v ↔ View ops V Ti (Deps o) t v := by
 have key : ∀ i o', p i -> ops[i]? = some o' -> o'.dst = some t -> Deps o i := by
  intro i o' hi ho' hdst;rcases hU.dep ho' hdst ho ht with h | ⟨_, h⟩
  ·exact h
  ·exact absurd (anc_in hc (i + 1) i (Nat.lt_succ_self i) ho' (hc i o' hi ho') h) hj
 constructor
 ·rintro (⟨i, o', h1, h2, h3, rfl⟩ | ⟨h1, h2⟩)
  ·exact .inl ⟨i, o', key i o' h1 h2 h3, h2, h3, rfl⟩
  ·exact .inr ⟨fun i o' hi => h1 i o' (hd i hi), h2⟩
 ·rintro (⟨i, o', h1, h2, h3, rfl⟩ | ⟨h1, h2⟩)
  ·exact .inl ⟨i, o', hd i h1, h2, h3, rfl⟩
  ·exact .inr ⟨fun i o' hi h3 h4 => h1 i o' (key i o' hi h3 h4) h3 h4, h2⟩
theorem View.look {P : Program} {ops : Array Oper} (hU : Uniq P ops) {V : Nat -> Value} {Ti : BT Value} {p : Nat -> Prop} {j : Nat} {o : Oper} (ho : ops[j]? = some o) (hd : ∀ k, Deps o k -> p k) (hl : isLook o.op = true) {t : Nat} (ht : t ∈ readsT P ops o) {v : Value} :
 View ops V Ti p t v ↔ View ops V Ti (Deps o) t v := by
 have key : ∀ i o', p i -> ops[i]? = some o' -> o'.dst = some t -> Deps o i := by
  intro i o' hi ho' hdst;rcases hU.dep ho' hdst ho ht with h | ⟨h, _⟩
  ·exact h
  ·rw [hl] at h; cases h
 constructor
 ·rintro (⟨i, o', h1, h2, h3, rfl⟩ | ⟨h1, h2⟩)
  ·exact .inl ⟨i, o', key i o' h1 h2 h3, h2, h3, rfl⟩
  ·exact .inr ⟨fun i o' hi => h1 i o' (hd i hi), h2⟩
 ·rintro (⟨i, o', h1, h2, h3, rfl⟩ | ⟨h1, h2⟩)
  ·exact .inl ⟨i, o', hd i h1, h2, h3, rfl⟩
  ·exact .inr ⟨fun i o' hi h3 h4 => h1 i o' (key i o' hi h3 h4) h3 h4, h2⟩
/-! Guards -/
def GuardY (T : BT Value) : Option (Nat × Bool) -> Prop
 | none => True
 | some (t, w) => T.get t = some (.bool w)
def GuardN (T : BT Value) : Option (Nat × Bool) -> Prop
 | none => False
 | some (t, w) => ∃ v, T.get t = some v /\ v ≠ .bool w
theorem wants_split {T : BT Value} {g : Option (Nat × Bool)} {y n : Bool} (hk : wantsK T g y n = true) : (GuardY T g /\ y = true) ∨ (GuardN T g /\ n = true) := by
 rcases g with _ | ⟨t, w⟩
 ·exact .inl ⟨trivial, hk⟩
 ·have hk0 : getK T t (fun v => onBoolZ v (fun b => @Bool.rec (fun _ => Bool) (@Bool.rec (fun _ => Bool) y n w) (@Bool.rec (fun _ => Bool) n y w) b) n) = true := hk
  obtain ⟨v, hv, hk1⟩ := getK_inv hk0;rcases onBoolZ_inv hk1 with ⟨b, rfl, hk2⟩ | ⟨hb, hk2⟩
  ·cases b <;> cases w <;> first | exact .inl ⟨hv, hk2⟩ | exact .inr ⟨⟨_, hv, by simp⟩, hk2⟩
  ·exact .inr ⟨⟨v, hv, hb w⟩, hk2⟩
def GuardOf (ops : Array Oper) (o : Oper) (g : Option (Nat × Bool)) : Prop := (o.guard = none /\ g = none) ∨ ∃ j w t, o.guard = some (j, w) /\ (ops[j]?).bind (·.dst) = some t /\ g = some (t, w)
theorem guard_wanted {m : Mp} {T : BT Value} {ops : Array Oper} {o : Oper} {g : Option (Nat × Bool)} {a : Act} (hg : GuardOf ops o g) (ht : ∀ t w, g = some (t, w) -> ∀ v, T.get t = some v -> ∃ u, a.tmps[t]? = some u /\ VR m v u) :
 (GuardY T g -> Region.wanted o (yielded ops a.tmps) = true) /\ (GuardN T g -> Region.wanted o (yielded ops a.tmps) = false) := by
 rcases hg with ⟨h1, rfl⟩ | ⟨j, w, t, h1, h2, rfl⟩
 ·exact ⟨fun _ => by simp [Region.wanted, h1], fun h => h.elim⟩
 ·have hy : ∀ u, a.tmps[t]? = some u -> yielded ops a.tmps j = match u with | .bool b => some b | _ => none := by
   intro u hu;unfold yielded;rw [h2];simp only [Option.bind_some, hu];cases u <;> rfl
  refine ⟨fun h => ?_, fun h => ?_⟩
  ·obtain ⟨u, hu, hvu⟩ := ht t w rfl _ h
   have : u = .bool w := by simpa only [VR] using hvu
   subst this;have := hy _ hu;simp only at this;simp [Region.wanted, h1, this]
  ·obtain ⟨v, hv, hb⟩ := h
   obtain ⟨u, hu, hvu⟩ := ht t w rfl _ hv;have hy := hy u hu;cases u with
   | bool b =>
    have := hvu.bool_back;subst this;simp only at hy;have : b ≠ w := fun e => hb (by rw [e])
    simp [Region.wanted, h1, hy, this]
   | _ =>
    simp only at hy;simp [Region.wanted, h1, hy]
theorem gT_of {ops : Array Oper} {o : Oper} {t : Nat} {w : Bool} (hg : GuardOf ops o (some (t, w))) : t ∈ gT ops o := by
 rcases hg with ⟨_, h⟩ | ⟨j, w', t', h1, h2, h3⟩
 ·cases h
 ·cases h3
  unfold gT;rw [h1];simp only [h2];simp
/-! What is done ahead -/
def Pend (P : Program) (ops : Array Oper) (V : Nat -> Value) (Ti : BT Value) (S : St) (K0 K : Kp) (H : Nat -> Nat) (z : Prop) (i : Nat) : Prop :=
 ∃ x o T, compItem P ops i = some x /\ ops[i]? = some o /\ x.d = o.dst /\ x.op = orBad (compOp P o) /\ GuardOf ops o x.g /\ (∀ t ∈ readsT P ops o, ∀ v, T.get t = some v ↔ View ops V Ti (Deps o) t v) /\
  ((GuardY T x.g /\ ∃ c, compOp P o = some c /\
   ((stillB c = true /\ ((looks c = true -> z) -> ∀ k' : Value -> St -> Bool, k' (V i) S = true -> U7 P T S c k' = true)) ∨ ∃ g ob, K g = some ob /\ K0 g = none /\ H g = i /\ LateOk P T o (V i) g ob)) ∨
   (GuardN T x.g /\ V i = undef))
theorem GuardY.same {T T' : BT Value} {g : Option (Nat × Bool)} (h : GuardY T g) (ht : ∀ t w, g = some (t, w) -> T'.get t = T.get t) : GuardY T' g := by
 rcases g with _ | ⟨t, w⟩
 ·trivial
 ·show T'.get t = _
  rw [ht t w rfl]; exact h
theorem GuardN.same {T T' : BT Value} {g : Option (Nat × Bool)} (h : GuardN T g) (ht : ∀ t w, g = some (t, w) -> T'.get t = T.get t) : GuardN T' g := by
 rcases g with _ | ⟨t, w⟩
 ·exact h
 ·obtain ⟨v, h1, h2⟩ := h
  exact ⟨v, by rw [ht t w rfl]; exact h1, h2⟩
theorem reads_g {P : Program} {ops : Array Oper} {o : Oper} {g : Option (Nat × Bool)} (hg : GuardOf ops o g) : ∀ t w, g = some (t, w) -> t ∈ readsT P ops o := by
 rintro t w rfl;exact List.mem_append_right _ (gT_of hg)
theorem reads_o {P : Program} {ops : Array Oper} {o : Oper} {x : Operand} {t : Nat} (hx : x ∈ o.op.operands) (h : cx x = some (.t t)) : t ∈ readsT P ops o := by
 have : x = .tmp t := by
  cases x with
  | tmp u => simp only [cx, Option.some.injEq, X.t.injEq] at h; rw [h]
  | const v => simp only [cx] at h; obtain ⟨_, h⟩ := sel_inv h; cases h
  | func f => cases h
  | global g => cases h
 subst this;exact List.mem_append_left _ (List.mem_append_left _ (List.mem_flatMap.2 ⟨_, by simpa using hx, by simp [oT]⟩))
theorem Hρ_same {P : Program} {ops : Array Oper} {m : Mp} {T T' : BT Value} {ρ : Operand -> Value} {o : Oper} (h : ∀ t ∈ readsT P ops o, T'.get t = T.get t) (hρ : Hρ m T' ρ o.op) : Hρ m T ρ o.op := by
 intro x hx X v hc hv;refine hρ x hx X v hc ?_;cases X with
 | t i =>
  show T'.get i = some v;rw [h i (reads_o hx hc)]; exact hv
 | c u => exact hv
open Classical in
theorem Pend.keep {P : Program} {ops : Array Oper} {V V' : Nat -> Value} {Ti : BT Value} {S S' : St} {K0 K K' : Kp} {H H' : Nat -> Nat} {z z' : Prop} {i : Nat} (h : Pend P ops V Ti S K0 K H z i) (hV : V' i = V i) (hVd : ∀ o, ops[i]? = some o -> ∀ k, Deps o k -> V' k = V k)
 (hz : z' -> z /\ S.ext S') (hK : ∀ g ob, K g = some ob -> H g = i -> K' g = some ob /\ H' g = i) : Pend P ops V' Ti S' K0 K' H' z' i := by
 obtain ⟨x, o, T, h1, h2, h3, h4, h5, hT, h6⟩ := h;refine ⟨x, o, T, h1, h2, h3, h4, h5, fun t ht v => (hT t ht v).trans (View.val (hVd o h2)).symm, ?_⟩;rw [hV];rcases h6 with ⟨h6, c, h7, h9⟩ | h6
 ·refine .inl ⟨h6, c, h7, ?_⟩
  rcases h9 with ⟨h9, h10⟩ | ⟨g, ob, h9, h10, h11, h12⟩
  ·refine .inl ⟨h9, fun hl k' hk' => ?_⟩
   have := h10 (fun h => (hz (hl h)).1) (fun v' s' => decide (v' = V i)) (by simp);obtain ⟨v', hv', hh⟩ := hands (R := fun s' => looks c = true -> S.ext s') h9 (fun h s' hs => hs h) _ this;have : v' = V i := by simpa using hv'
   subst this;exact hh T S' k' (fun _ _ _ h => h) (fun h => (hz (hl h)).2) hk'
  ·obtain ⟨h13, h14⟩ := hK g ob h9 h11
   exact .inr ⟨g, ob, h13, h10, h14, h12⟩
 ·exact .inr h6
def Ord (ops : Array Oper) : List Nat -> Prop
 | [] => True
 | i :: l => i ∉ l /\ (∃ o, ops[i]? = some o /\ ∀ e ∈ o.after, Region.binds .any e = true -> e.on ∈ l) /\ Ord ops l
theorem Ord.dep {ops : Array Oper} {D : List Nat} (h : Ord ops D) {i : Nat} {o : Oper} (hi : i ∈ D) (ho : ops[i]? = some o) : ∀ e ∈ o.after, Region.binds .any e = true -> e.on ∈ D := by
 induction D with
 | nil => cases hi
 | cons j l ih =>
  obtain ⟨_, ⟨o', h2, h3⟩, h4⟩ := h;intro e he hb;rcases List.mem_cons.1 hi with hij | hi
  ·rw [hij, h2] at ho
   cases ho;exact List.mem_cons_of_mem _ (h3 e he hb)
  ·exact List.mem_cons_of_mem _ (ih h4 hi e he hb)
theorem put_defers (a : Act) (d : Option Tmp) (u : Value) : (a.put d u).defers = a.defers := by cases d <;> rfl
theorem Ord.first {ops : Array Oper} {p : Nat -> Prop} {D : List Nat} (h : Ord ops D) (hp : ∃ i ∈ D, ¬ p i) : ∃ i o, i ∈ D /\ ¬ p i /\ ops[i]? = some o /\ ∀ e ∈ o.after, Region.binds .any e = true -> p e.on := by
 induction D with
 | nil => obtain ⟨i, hi, _⟩ := hp; cases hi
 | cons j l ih =>
  obtain ⟨_, ⟨o', h2, h3⟩, h4⟩ := h;by_cases h : ∃ i ∈ l, ¬ p i
  ·obtain ⟨i, o, h5, h6, h7, h8⟩ := ih h4 h
   exact ⟨i, o, List.mem_cons_of_mem _ h5, h6, h7, h8⟩
  ·have all : ∀ i ∈ l, p i := fun i hi => Classical.byContradiction fun hn => h ⟨i, hi, hn⟩
   obtain ⟨i, hi, hpi⟩ := hp;rcases List.mem_cons.1 hi with hij | hi
   ·rw [hij] at hpi
    exact ⟨j, o', List.mem_cons_self, hpi, h2, fun e he hb => all _ (h3 e he hb)⟩
   ·exact absurd (all i hi) hpi
theorem Ord.closed {ops : Array Oper} {D : List Nat} (h : Ord ops D) : Closed ops (· ∈ D) := by
 rintro i o hi ho k ⟨e, he, hb, rfl⟩;exact h.dep hi ho e he hb
structure Inv (P : Program) (B : Nat) (ops : Array Oper) (Ti : BT Value) (K0 : Kp) (m0 : Mp) (a0 : Act) (w0 : World) (V : Nat -> Value) (T : BT Value) (S : St) (D : List Nat) (E : Array Bool) (H : Nat -> Nat) (z : Prop) (L : Array Bool) (K : Kp) (m : Mp) (w : World) (a : Act) : Prop where
 se : E.size = ops.size
 sl : L.size = ops.size
 ed : ∀ i, inL E i ↔ i ∈ D
 ord : Ord ops D
 sub : ∀ i, inL L i -> i ∈ D
 closed : Closed ops (inL L)
 emb : Emb P K B m S w
 tE : ∀ t v, T.get t = some v ↔ View ops V Ti (· ∈ D) t v
 tW : ∀ t v, View ops V Ti (inL L) t v -> ∃ u, a.tmps[t]? = some u /\ VR m v u
 sz : ∀ t v, T.get t = some v -> t < a.tmps.size
 pend : ∀ i, i ∈ D -> ¬ inL L i -> Pend P ops V Ti S K0 K H z i
 k0 : ∀ j o, K0 j = some o -> K j = some o
 le : m0.le m
 bel : Below B w0 w
 df : a.defers = a0.defers
theorem deps_of {o : Oper} {p : Nat -> Prop} (hd : ∀ e ∈ o.after, Region.binds .any e = true -> p e.on) : ∀ k, Deps o k -> p k := by
 rintro k ⟨e, he, hb, rfl⟩;exact hd e he hb
section
variable {P : Program} {B : Nat} {ops : Array Oper} {Ti : BT Value} {K0 : Kp} {m0 : Mp} {a0 : Act} {w0 : World} {V : Nat -> Value} {T : BT Value} {S : St} {D : List Nat} {E L : Array Bool} {H : Nat -> Nat} {z : Prop} {K : Kp} {m : Mp} {w : World} {a : Act}
theorem Inv.at_ready (I : Inv P B ops Ti K0 m0 a0 w0 V T S D E H z L K m w a) (hU : Uniq P ops) {i : Nat} {o : Oper} (ho : ops[i]? = some o) (hn : ¬ inL L i) (hd : ∀ k, Deps o k -> inL L k) : ∀ t ∈ readsT P ops o, ∀ v, View ops V Ti (Deps o) t v -> ∃ u, a.tmps[t]? = some u /\ VR m v u :=
 fun t ht v hv => I.tW t v ((View.at hU I.closed ho hd hn ht).2 hv)
theorem Hρ_of {a : Act} {o : Oper} {T : BT Value} (h : ∀ t ∈ readsT P ops o, ∀ v, T.get t = some v -> ∃ u, a.tmps[t]? = some u /\ VR m v u) : Hρ m T a.eval o.op := by
 intro x hx X v hc hv;cases X with
 | t i =>
  obtain ⟨u, h1, h2⟩ := h i (reads_o hx hc) v hv;have : x = .tmp i := by
   cases x with
   | tmp u => simp only [cx, Option.some.injEq, X.t.injEq] at hc; rw [hc]
   | const v => simp only [cx] at hc; obtain ⟨_, hc⟩ := sel_inv hc; cases hc
   | func f => cases hc
   | global g => cases hc
  subst this;have : a.eval (.tmp i) = u := by simp [Act.eval, Array.getD_eq_getD_getElem?, h1]
  rw [this]; exact h2
 | c u =>
  simp only [XV] at hv;subst hv;cases x with
  | tmp u => simp only [cx, Option.some.injEq] at hc; cases hc
  | const v' =>
   simp only [cx] at hc;obtain ⟨hf, hc⟩ := sel_inv hc;cases hc;exact VR.flat _ hf
  | func f =>
   simp only [cx, Option.some.injEq, X.c.injEq] at hc;subst hc;exact VR.flat _ (by simp [flat, flatA, flatL])
  | global g => cases hc
theorem putT_inv {d : Option Nat} {v : Value} {k : BT Value -> Bool} (h : putTK T d v k = true) : ∃ T', k T' = true /\ (∀ x, d = some x -> (T.get x).isSome = true) /\ ∀ t, T'.get t = if d = some t then some v else T.get t := by
 cases d with
 | none => exact ⟨T, h, fun x hx => (by cases hx), fun t => by simp⟩
 | some d =>
  obtain ⟨T', hk, hd, hg⟩ := updK_inv (k := k) h;refine ⟨T', hk, fun x hx => by cases hx; exact hd, fun t => ?_⟩;rw [hg];by_cases e : t = d
  ·subst e; simp
  ·rw [if_neg e, if_neg (by simp; exact fun h => e h.symm)]
theorem View.more (hU : Uniq P ops) {p p' : Nat -> Prop} {i : Nat} {o : Oper} (ho : ops[i]? = some o) (hp : ∀ j, p' j ↔ j = i ∨ p j) (hn : ¬ p i) {V' : Nat -> Value} (hV : ∀ j, p j -> V' j = V j) {t : Nat} {v : Value} :
 View ops V' Ti p' t v ↔ (if o.dst = some t then v = V' i else View ops V Ti p t v) := by
 by_cases hd : o.dst = some t
 ·rw [if_pos hd]
  constructor
  ·rintro (⟨j, o', h1, h2, h3, rfl⟩ | ⟨h1, _⟩)
   ·rw [hU.one h2 ho h3 hd]
   ·exact absurd hd (h1 i o ((hp i).2 (.inl rfl)) ho)
  ·rintro rfl
   exact .inl ⟨i, o, (hp i).2 (.inl rfl), ho, hd, rfl⟩
 ·rw [if_neg hd]
  constructor
  ·rintro (⟨j, o', h1, h2, h3, rfl⟩ | ⟨h1, h2⟩)
   ·rcases (hp j).1 h1 with rfl | h1
    ·rw [ho] at h2; cases h2
     exact absurd h3 hd
    ·exact .inl ⟨j, o', h1, h2, h3, hV j h1⟩
   ·exact .inr ⟨fun j o' hj => h1 j o' ((hp j).2 (.inr hj)), h2⟩
  ·rintro (⟨j, o', h1, h2, h3, rfl⟩ | ⟨h1, h2⟩)
   ·exact .inl ⟨j, o', (hp j).2 (.inr h1), h2, h3, (hV j h1).symm⟩
   ·refine .inr ⟨fun j o' hj h3 => ?_, h2⟩
    rcases (hp j).1 hj with rfl | hj
    ·rw [ho] at h3; cases h3
     exact hd
    ·exact h1 j o' hj h3
theorem closed_more {L : Array Bool} (hc : Closed ops (inL L)) {i : Nat} {o : Oper} (ho : ops[i]? = some o) (hd : ∀ k, Deps o k -> inL L k) (hset : ∀ j, inL (L.setIfInBounds i true) j ↔ j = i ∨ inL L j) : Closed ops (inL (L.setIfInBounds i true)) := by
 intro j oj hj hoj k hk;rw [hset];rcases (hset j).1 hj with rfl | hj
 ·rw [ho] at hoj; cases hoj
  exact .inr (hd k hk)
 ·exact .inr (hc j oj hj hoj k hk)
theorem put_at {a : Act} {d : Option Tmp} {u : Value} {t : Nat} : (a.put d u).tmps.size = a.tmps.size /\ (d = some t -> t < a.tmps.size -> (a.put d u).tmps[t]? = some u) /\ (d ≠ some t -> (a.put d u).tmps[t]? = a.tmps[t]?) := by
 cases d with
 | none => exact ⟨rfl, fun h => (by cases h), fun _ => rfl⟩
 | some d =>
  refine ⟨by simp [Act.put], fun h hl => ?_, fun h => ?_⟩
  ·cases h
   simp [Act.put, hl]
  ·simp only [Act.put]
   rw [Array.getElem?_setIfInBounds_ne (by intro e; exact h (by rw [e]))]
theorem Inv.world (I : Inv P B ops Ti K0 m0 a0 w0 V T S D E H z L K m w a) (hU : Uniq P ops) {i : Nat} {o : Oper} (hi : i ∈ D) (hn : ¬ inL L i) (ho : ops[i]? = some o) (hd : ∀ k, Deps o k -> inL L k)
 {u : Value} {K' : Kp} {m' : Mp} {w' : World} (hle : m.le m') (hE : Emb P K' B m' S w') (hB : Below B w w') (hv : VR m' (V i) u) (hK : ∀ g ob, K g = some ob -> H g ≠ i -> K' g = some ob) (hK0 : ∀ j o, K0 j = some o -> K' j = some o) :
 Inv P B ops Ti K0 m0 a0 w0 V T S D E H z (L.setIfInBounds i true) K' m' w' (a.put o.dst u) := by
 have hlt : i < ops.size := (Array.getElem?_eq_some_iff.1 ho).1;have hset := inL_set (L := L) (i := i) (by rw [I.sl]; exact hlt);refine ⟨I.se, by simp [I.sl], I.ed, I.ord, fun j hj => ?_, closed_more I.closed ho hd hset, hE, I.tE, fun t x hx => ?_, fun t x hx => ?_, fun j hj hnj => ?_, hK0, I.le.trans hle, I.bel.trans hB, by rw [put_defers]; exact I.df⟩
 ·rcases (hset j).1 hj with rfl | hj
  ·exact hi
  ·exact I.sub j hj
 ·have hx := (View.more hU ho hset hn (fun _ _ => rfl)).1 hx
  by_cases e : o.dst = some t
  ·rw [if_pos e] at hx
   subst hx;have h1 : T.get t = some (V i) := (I.tE t (V i)).2 (.inl ⟨i, o, hi, ho, e, rfl⟩);exact ⟨u, put_at.2.1 e (I.sz t _ h1), hv⟩
  ·rw [if_neg e] at hx
   obtain ⟨u', h1, h2⟩ := I.tW t x hx;exact ⟨u', by rw [put_at.2.2 e]; exact h1, h2.mono hle⟩
 ·rw [(put_at (a := a) (d := o.dst) (u := u) (t := t)).1]
  exact I.sz t x hx
 ·have hne : j ≠ i := fun h => hnj ((hset j).2 (.inl h))
  exact (I.pend j hj (fun h => hnj ((hset j).2 (.inr h)))).keep rfl (fun _ _ _ _ => rfl) (fun h => ⟨h, fun _ _ h => h⟩) (fun g ob hg hH => ⟨hK g ob hg (by rw [hH]; exact hne), hH⟩)
end
end Go.Proofs.Ytoeklhdklcpllaa.Ev
namespace Go.Proofs.Ytoeklhdklcpllaa.Ev
open Go Go.RowKit
theorem runAny_still {P : Program} {O : OK} {T : BT Value} {s : St} {c : COp} {k : Value -> St -> Bool} (h : stillB c = true ∨ lateC c = true) : runAnyK P O T s c k = U7 P T s c k := by
 cases c <;> first | rfl | (rcases h with h | h <;> cases h)
theorem wpIn_value {P : Program} {F : Fence} (hF : ∀ f, F.fn f) {n : Nat} {o : Oper} {a : Act} {w w' : World} {u : Value} {KK : Act -> World -> Prop} {Q : Exit -> Act -> World -> Prop} (hdef : ∀ cl, o.op ≠ .defer cl) (hr : (execOp a.eval o).run P w = .ok (.value u) w') (h : KK (a.put o.dst u) w') : o.wpIn F n P a w KK Q := by
 obtain ⟨dst, op, ty, pos, af, gd⟩ := o;refine ⟨fun _ _ => hF _, ?_⟩;have hsem : Oper.semAt F.round a.eval ⟨dst, op, ty, pos, af, gd⟩ = execOp a.eval ⟨dst, op, ty, pos, af, gd⟩ := Oper.semAt_eq _ _ _ hdef;rw [hsem, hr];exact h
theorem comp_defer {P : Program} {o : Oper} {c : COp} (hc : compOp P o = some c) : ∀ cl, o.op ≠ .defer cl := by
 obtain ⟨dst, op, ty, pos, af, gd⟩ := o;rintro cl rfl;cases hc
section
variable {P : Program} {B : Nat} {ops : Array Oper} {Ti : BT Value} {K0 : Kp} {m0 : Mp} {a0 : Act} {w0 : World} {V : Nat -> Value} {T : BT Value} {S : St} {D : List Nat} {E L : Array Bool} {H : Nat -> Nat} {z : Prop} {K : Kp} {m : Mp} {w : World} {a : Act} {O : OK}
open Classical in
theorem Inv.pending (I : Inv P B ops Ti K0 m0 a0 w0 V T S D E H True L K m w a) (hU : Uniq P ops) (hO : ∀ K, CallOk P K B O) {i : Nat} (hi : i ∈ D) (hr : i ∈ Region.ready .any ops L) {r : Option Nat} {n : Nat} {Q : Exit -> Act -> World -> Prop} {KK : Act -> World -> Prop}
 (hKK : ∀ K' m' w' a', Inv P B ops Ti K0 m0 a0 w0 V T S D E H True (L.setIfInBounds i true) K' m' w' a' -> KK a' w') : wpOpIn (Fr r) n P ops Q i KK a w := by
 obtain ⟨h0, o, ho, hd0⟩ := mem_ready.1 hr;obtain ⟨hlt, hn⟩ := getD_true.1 h0;have hd := deps_of (p := inL L) hd0;obtain ⟨x, o', Tj, h1, h2, h3, h4, h5, hT, h6⟩ := I.pend i hi hn;rw [ho] at h2; cases h2;have hat : ∀ t ∈ readsT P ops o, ∀ v, Tj.get t = some v -> ∃ u, a.tmps[t]? = some u /\ VR m v u := fun t ht v hv => I.at_ready hU ho hn hd t ht v ((hT t ht v).1 hv)
 have hρ := Hρ_of (m := m) hat;obtain ⟨gy, gn⟩ := guard_wanted (a := a) (m := m) (T := Tj) h5 (fun t w e v hv => hat t (reads_g h5 t w e) v hv);unfold wpOpIn;rw [ho];simp only;rcases h6 with ⟨h6, c, h7, h9⟩ | ⟨h6, h7⟩
 ·rw [if_pos (gy h6)]
  rcases h9 with ⟨h9, h10⟩ | ⟨g, ob, h9, h10, h11, h12⟩
  ·have hk := h10 (fun _ => trivial) (fun v' s' => decide (v' = V i /\ s' = S)) (by simp)
   rw [<- runAny_still (O := O) (.inl h9)] at hk;refine Oper.wpIn_mono ?_ (oper_val (hO K) h7 I.emb hρ hk);rintro a' w' ⟨v', u, s', m', hk, hle, hE, hB, hv, rfl⟩;obtain ⟨rfl, rfl⟩ : v' = V i /\ s' = S := by simpa using hk
   exact hKK _ _ _ _ (I.world hU hi hn ho hd hle hE hB hv (fun g ob hg _ => hg) I.k0)
  ·obtain ⟨u, o', hrun, hor, hvr⟩ := h12 m w a.eval hρ (I.emb.kept g ob h9).1
   refine wpIn_value (fun _ => trivial) (comp_defer h7) hrun (hKK (Kdel K g) _ _ _ (I.world hU hi hn ho hd (Mp.put_le (I.emb.kept g ob h9).1) (I.emb.late h9 hor) (below_alloc I.emb.base _) hvr ?_ ?_))
   ·intro g' ob' hg' hH'
    unfold Kdel;rw [if_neg (by rintro rfl; exact hH' h11)];exact hg'
   ·intro j oj hj
    unfold Kdel;rw [if_neg (by rintro rfl; rw [h10] at hj; cases hj)];exact I.k0 j oj hj
 ·rw [if_neg (by rw [gn h6]; simp)]
  exact ⟨fun _ _ => trivial, hKK _ _ _ _ (I.world hU hi hn ho hd (Mp.le_refl m) I.emb (Below.refl B w) (by rw [h7]; exact VR.flat undef rfl) (fun g ob hg _ => hg) I.k0)⟩
theorem ed_set (I : Inv P B ops Ti K0 m0 a0 w0 V T S D E H z L K m w a) {i : Nat} (hlt : i < ops.size) (j : Nat) : inL (E.setIfInBounds i true) j ↔ j ∈ i :: D := by
 rw [inL_set (by rw [I.se]; exact hlt), I.ed, List.mem_cons]
def Vput (V : Nat -> Value) (i : Nat) (v : Value) : Nat -> Value := fun j => if j = i then v else V j
theorem Vput_same (V : Nat -> Value) (i : Nat) (v : Value) : Vput V i v i = v := if_pos rfl
theorem Vput_ne {V : Nat -> Value} {i j : Nat} {v : Value} (h : j ≠ i) : Vput V i v j = V j := if_neg h
theorem tE_more (I : Inv P B ops Ti K0 m0 a0 w0 V T S D E H z L K m w a) (hU : Uniq P ops) {i : Nat} {o : Oper} (ho : ops[i]? = some o) (hn : ¬ i ∈ D) {T' : BT Value} {v : Value} (hT' : ∀ t, T'.get t = if o.dst = some t then some v else T.get t) (t : Nat) (x : Value) :
 T'.get t = some x ↔ View ops (Vput V i v) Ti (· ∈ i :: D) t x := by
 rw [View.more (p := (· ∈ D)) (V := V) hU ho (fun j => List.mem_cons) hn (fun j hj => Vput_ne (by rintro rfl; exact hn hj)), hT'];by_cases e : o.dst = some t
 ·rw [if_pos e, if_pos e, Vput_same]
  constructor
  ·intro h; cases h; rfl
  ·rintro rfl; rfl
 ·rw [if_neg e, if_neg e]
  exact I.tE t x
theorem sz_more (I : Inv P B ops Ti K0 m0 a0 w0 V T S D E H z L K m w a) {o : Oper} {T' : BT Value} {v : Value} (hT' : ∀ t, T'.get t = if o.dst = some t then some v else T.get t) (hsome : ∀ d, o.dst = some d -> (T.get d).isSome = true) (t : Nat) (x : Value) (hx : T'.get t = some x) : t < a.tmps.size := by
 rw [hT'] at hx;by_cases e : o.dst = some t
 ·obtain ⟨u, hu⟩ := Option.isSome_iff_exists.1 (hsome t e)
  exact I.sz t u hu
 ·rw [if_neg e] at hx
  exact I.sz t x hx
theorem T_at (I : Inv P B ops Ti K0 m0 a0 w0 V T S D E H z L K m w a) (hU : Uniq P ops) {i : Nat} {o : Oper} (ho : ops[i]? = some o) (hn : ¬ i ∈ D) (hd : ∀ k, Deps o k -> k ∈ D) : ∀ t ∈ readsT P ops o, ∀ v, T.get t = some v ↔ View ops V Ti (Deps o) t v :=
 fun t ht v => (I.tE t v).trans (View.at hU I.ord.closed ho hd hn ht)
theorem Inv.ahead (I : Inv P B ops Ti K0 m0 a0 w0 V T S D E H True L K m w a) (hU : Uniq P ops) {i : Nat} (hr : i ∈ Region.ready .any ops E) {x : Item} (hx : compItem P ops i = some x) (hcalm : ∀ o, ops[i]? = some o -> calm o.op = true) {k : BT Value -> St -> Bool} (hk : itemK P O x T S k = true) :
 ∃ V' T' S' K' H', k T' S' = true /\ Inv P B ops Ti K0 m0 a0 w0 V' T' S' (i :: D) (E.setIfInBounds i true) H' True L K' m w a := by
 obtain ⟨h0, o, ho, hd0⟩ := mem_ready.1 hr;obtain ⟨hlt, hn⟩ := getD_true.1 h0;rw [I.ed] at hn;have hlt' : i < ops.size := (Array.getElem?_eq_some_iff.1 ho).1;have hd' : ∀ e ∈ o.after, Region.binds .any e = true -> e.on ∈ D := fun e he hb => (I.ed _).1 (hd0 e he hb)
 have hd := deps_of (p := (· ∈ D)) hd';obtain ⟨o', ho', hxd, hxo, hg⟩ := compItem_inv hx;rw [ho] at ho'; cases ho';obtain ⟨g, d, op⟩ := x;simp only at hxd hxo hg;subst hxd hxo;have hgo : GuardOf ops o g := hg;have hnL : ¬ inL L i := fun h => hn (I.sub i h)
 have hTat := T_at I hU ho hn hd;have hVd : ∀ (v : Value) (k : Nat), k ∈ D -> Vput V i v k = V k := fun v k hk => Vput_ne (by rintro rfl; exact hn hk)
 have hTv : ∀ (v : Value), ∀ t ∈ readsT P ops o, ∀ x, T.get t = some x ↔ View ops (Vput V i v) Ti (Deps o) t x := fun v t ht x => (hTat t ht x).trans (View.val (fun k hk => hVd v k (hd k hk))).symm
 have done : ∀ (T' : BT Value) (v : Value) (S' : St) (K' : Kp) (H' : Nat -> Nat), (∀ t, T'.get t = if o.dst = some t then some v else T.get t) -> (∀ d, o.dst = some d -> (T.get d).isSome = true) -> S.ext S' -> Emb P K' B m S' w -> (∀ g ob, K g = some ob -> K' g = some ob /\ H' g = H g) ->
  Pend P ops (Vput V i v) Ti S' K0 K' H' True i -> Inv P B ops Ti K0 m0 a0 w0 (Vput V i v) T' S' (i :: D) (E.setIfInBounds i true) H' True L K' m w a := by
  intro T' v S' K' H' hT' hsome hS hE hK hp;refine ⟨by simp [I.se], I.sl, ed_set I hlt', ⟨hn, ⟨o, ho, hd'⟩, I.ord⟩, fun j hj => List.mem_cons_of_mem _ (I.sub j hj), I.closed, hE, tE_more I hU ho hn hT', fun t x hx => ?_, sz_more I hT' hsome, fun j hj hnj => ?_, fun j oj hj => (hK j oj (I.k0 j oj hj)).1, I.le, I.bel, I.df⟩
  ·exact I.tW t x ((View.val (fun k hk => hVd v k (I.sub k hk))).1 hx)
  ·rcases List.mem_cons.1 hj with rfl | hj
   ·exact hp
   ·exact (I.pend j hj hnj).keep (hVd v j hj) (fun oj hoj k hk => hVd v k (I.ord.closed j oj hj hoj k hk)) (fun _ => ⟨trivial, hS⟩) (fun g ob hg hH => ⟨(hK g ob hg).1, by rw [(hK g ob hg).2]; exact hH⟩)
 have hk0 : wantsK T g (runAnyK P O T S (orBad (compOp P o)) (fun v s => putTK T o.dst v (fun T => k T s))) (putTK T o.dst undef (fun T => k T S)) = true := hk;rcases wants_split hk0 with ⟨h1, h2⟩ | ⟨h1, h2⟩
 ·cases hc : compOp P o with
  | none => rw [hc] at h2; cases h2
  | some c =>
   rw [hc] at h2;have h2' : runAnyK P O T S c (fun v s => putTK T o.dst v (fun T => k T s)) = true := h2;obtain ⟨k1, _, k3⟩ := comp_kind (dst := o.dst) (op := o.op) (ty := o.type) (pos := o.pos) (af := o.after) (gd := o.guard) hc;have hq := k1 (hcalm o ho);rw [runAny_still hq] at h2';rcases hq with hq | hq
   ·obtain ⟨v, h3, h4⟩ := hands (R := fun s' => S.ext s') hq (fun _ _ h => h) _ h2'
    obtain ⟨T', h5, h6, h7⟩ := putT_inv h3;refine ⟨Vput V i v, T', S, K, H, h5, done T' v S K H h7 h6 (fun _ _ h => h) I.emb (fun g ob h => ⟨h, rfl⟩) ⟨⟨g, o.dst, orBad (compOp P o)⟩, o, T, hx, ho, rfl, rfl, hgo, hTv v, .inl ⟨h1, c, hc, .inl ⟨hq, fun _ k' hk' => ?_⟩⟩⟩⟩;rw [Vput_same] at hk';exact h4 T S k' (fun _ _ _ h => h) (fun _ _ h => h) hk'
   ·obtain ⟨v, ob, h', h3, h4, h5, h6⟩ := k3 hq h2'
    obtain ⟨T', h7, h8, h9⟩ := putT_inv h3;have hK0 : K0 S.n = none := by
     cases hK0 : K0 S.n with
     | none => rfl
     | some oj => exact absurd (I.emb.kept _ _ (I.k0 _ _ hK0)).2.2 (Nat.lt_irrefl _)
    refine ⟨Vput V i v, T', ⟨h', S.n + 1⟩, Kput K S.n ob, (fun j => if j = S.n then i else H j), h7, done T' v ⟨h', S.n + 1⟩ (Kput K S.n ob) _ h9 h8 (fun j oj hj => ?_) (I.emb.ahead h5) (fun g' ob' hg' => ?_) ⟨⟨g, o.dst, orBad (compOp P o)⟩, o, T, hx, ho, rfl, rfl, hgo, hTv v, .inl ⟨h1, c, hc, .inr ⟨S.n, ob, by simp [Kput], hK0, by simp, by rw [Vput_same]; exact h6⟩⟩⟩⟩
    ·show h'.get j = some oj
     rw [h5, if_neg (by rintro rfl; rw [h4] at hj; cases hj)];exact hj
    ·have hlt := (I.emb.kept g' ob' hg').2.2
     exact ⟨by unfold Kput; rw [if_neg (by omega)]; exact hg', by rw [if_neg (by omega)]⟩
 ·obtain ⟨T', h3, h4, h5⟩ := putT_inv h2
  exact ⟨Vput V i undef, T', S, K, H, h3, done T' undef S K H h5 h4 (fun _ _ h => h) I.emb (fun g ob h => ⟨h, rfl⟩) ⟨⟨g, o.dst, orBad (compOp P o)⟩, o, T, hx, ho, rfl, rfl, hgo, hTv undef, .inr ⟨h1, Vput_same V i undef⟩⟩⟩
theorem Inv.both (I : Inv P B ops Ti K0 m0 a0 w0 V T S D E H True L K m w a) (hU : Uniq P ops) (hO : ∀ K, CallOk P K B O) {i : Nat} (hi : ¬ i ∈ D) (hr : i ∈ Region.ready .any ops L) {x : Item} (hx : compItem P ops i = some x) {k : BT Value -> St -> Bool} (hk : itemK P O x T S k = true) {r : Option Nat} {n : Nat} {Q : Exit -> Act -> World -> Prop} {KK : Act -> World -> Prop}
 (hKK : ∀ V' T' S' m' w' a', k T' S' = true -> Inv P B ops Ti K0 m0 a0 w0 V' T' S' (i :: D) (E.setIfInBounds i true) H False (L.setIfInBounds i true) K m' w' a' -> KK a' w') : wpOpIn (Fr r) n P ops Q i KK a w := by
 obtain ⟨h0, o, ho, hd0⟩ := mem_ready.1 hr;obtain ⟨hlt, hn⟩ := getD_true.1 h0;have hlt' : i < ops.size := (Array.getElem?_eq_some_iff.1 ho).1;have hdL := deps_of (p := inL L) hd0;have hd' : ∀ e ∈ o.after, Region.binds .any e = true -> e.on ∈ D := fun e he hb => I.sub _ (hd0 e he hb)
 have hd := deps_of (p := (· ∈ D)) hd';have hat : ∀ t ∈ readsT P ops o, ∀ v, T.get t = some v -> ∃ u, a.tmps[t]? = some u /\ VR m v u := fun t ht v hv => I.at_ready hU ho hn hdL t ht v ((T_at I hU ho hi hd t ht v).1 hv)
 have hρ := Hρ_of (m := m) hat;obtain ⟨o', ho', hxd, hxo, hg⟩ := compItem_inv hx;rw [ho] at ho'; cases ho';obtain ⟨g, d, op⟩ := x;simp only at hxd hxo hg;subst hxd hxo;have hgo : GuardOf ops o g := hg;obtain ⟨gy, gn⟩ := guard_wanted (a := a) (m := m) (T := T) hgo (fun t w e v hv => hat t (reads_g hgo t w e) v hv);have hset := inL_set (L := L) (i := i) (by rw [I.sl]; exact hlt');have hVd : ∀ (v : Value) (k : Nat), k ∈ D -> Vput V i v k = V k := fun v k hk => Vput_ne (by rintro rfl; exact hi hk)
 have done : ∀ (T' : BT Value) (v u : Value) (S' : St) (m' : Mp) (w' : World), (∀ t, T'.get t = if o.dst = some t then some v else T.get t) -> (∀ d, o.dst = some d -> (T.get d).isSome = true) -> m.le m' -> Emb P K B m' S' w' -> Below B w w' -> VR m' v u ->
  Inv P B ops Ti K0 m0 a0 w0 (Vput V i v) T' S' (i :: D) (E.setIfInBounds i true) H False (L.setIfInBounds i true) K m' w' (a.put o.dst u) := by
  intro T' v u S' m' w' hT' hsome hle hE hB hv;refine ⟨by simp [I.se], by simp [I.sl], ed_set I hlt', ⟨hi, ⟨o, ho, hd'⟩, I.ord⟩, fun j hj => ?_, closed_more I.closed ho hdL hset, hE, tE_more I hU ho hi hT', fun t x hx => ?_, fun t x hx => ?_, fun j hj hnj => ?_, I.k0, I.le.trans hle, I.bel.trans hB, by rw [put_defers]; exact I.df⟩
  ·rcases (hset j).1 hj with rfl | hj
   ·exact List.mem_cons_self
   ·exact List.mem_cons_of_mem _ (I.sub j hj)
  ·have hx := (View.more (V := V) hU ho hset hn (fun k hk => hVd v k (I.sub k hk))).1 hx
   by_cases e : o.dst = some t
   ·rw [if_pos e, Vput_same] at hx
    subst hx;obtain ⟨u0, hu0⟩ := Option.isSome_iff_exists.1 (hsome t e);exact ⟨u, put_at.2.1 e (I.sz t u0 hu0), hv⟩
   ·rw [if_neg e] at hx
    obtain ⟨u', h1, h2⟩ := I.tW t x hx;exact ⟨u', by rw [put_at.2.2 e]; exact h1, h2.mono hle⟩
  ·rw [(put_at (a := a) (d := o.dst) (u := u) (t := t)).1]
   exact sz_more I hT' hsome t x hx
  ·have hji : j ≠ i := fun h => hnj ((hset j).2 (.inl h))
   have hjD : j ∈ D := by
    rcases List.mem_cons.1 hj with h | h
    ·exact absurd h hji
    ·exact h
   have hnjL : ¬ inL L j := fun h => hnj ((hset j).2 (.inr h))
   exact (I.pend j hjD hnjL).keep (hVd v j hjD) (fun oj hoj k hk => hVd v k (I.ord.closed j oj hjD hoj k hk)) (fun h => h.elim) (fun g ob hg hH => ⟨hg, hH⟩)
 unfold wpOpIn;rw [ho];simp only;have hk0 : wantsK T g (runAnyK P O T S (orBad (compOp P o)) (fun v s => putTK T o.dst v (fun T => k T s))) (putTK T o.dst undef (fun T => k T S)) = true := hk;rcases wants_split hk0 with ⟨h1, h2⟩ | ⟨h1, h2⟩
 ·rw [if_pos (gy h1)]
  cases hc : compOp P o with
  | none => rw [hc] at h2; cases h2
  | some c =>
   rw [hc] at h2;refine Oper.wpIn_mono ?_ (oper_val (hO K) hc I.emb hρ (k := fun v s => putTK T o.dst v (fun T => k T s)) h2);rintro a' w' ⟨v', u, s', m', hk, hle, hE, hB, hv, rfl⟩;obtain ⟨T', h5, h6, h7⟩ := putT_inv hk;exact hKK _ _ _ _ _ _ h5 (done T' v' u s' m' w' h7 h6 hle hE hB hv)
 ·rw [if_neg (by rw [gn h1]; simp)]
  obtain ⟨T', h5, h6, h7⟩ := putT_inv h2;exact ⟨fun _ _ => trivial, hKK _ _ _ _ _ _ h5 (done T' undef undef S m w h7 h6 (Mp.le_refl m) I.emb (Below.refl B w) (VR.flat undef rfl))⟩
end
end Go.Proofs.Ytoeklhdklcpllaa.Ev
