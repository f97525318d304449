import Derived.Test.YtoeklhdklcpllaaZc06
set_option linter.unusedVariables false
set_option linter.unusedSimpArgs false
namespace Go.Proofs.Ytoeklhdklcpllaa.Ev
open Go Go.RowKit
noncomputable section
inductive Ob where
 | row (b e : Nat) (op : Bool) (l : List Value)
 | loop (b : Nat) (st : LoopState) (pend : Out) (nt : Nat) (env : List (Nat × Value)) (ps : List Nat) (a c : CC) (q : Nat)   -- a loop over a function's calls
 | dfr (b : Nat)   -- what is deferred, and not yet done
 | imap (b : Nat) (es : List (Int × Value))   -- a small map
def Ob.b : Ob -> Nat
 | .row b _ _ _ => b
 | .loop b _ _ _ _ _ _ _ _ => b
 | .dfr b => b
 | .imap b _ => b
def Ob.Is (s : St) : Ob -> Prop
 | .row b e op l => Obj s b e op l
 | .loop b st pend nt env ps a c q => ∃ T, s.h.get b = some (.loop st pend T ps a c q) /\ Cov nt T env
 | .dfr b => s.h.get b = some (.deferred true)
 | .imap b es => s.h.get b = some (.imap es)
theorem Ob.Is.same {s s' : St} {x : Ob} (h : x.Is s) (hb : s'.h.get x.b = s.h.get x.b) : x.Is s' := by
 cases x with
 | row b e op l => exact Obj.same h hb
 | loop b st pend nt env ps a c q => obtain ⟨T, h1, h2⟩ := h; exact ⟨T, hb.trans h1, h2⟩
 | dfr b => exact hb.trans h
 | imap b es => exact hb.trans h
theorem Ob.Is.lt {s : St} (hw : Wf s) {x : Ob} (h : x.Is s) : x.b < s.n := by
 cases x with
 | row b e op l => exact Obj.lt hw h
 | loop b st pend nt env ps a c q => obtain ⟨T, h1, h2⟩ := h; exact Full.lt hw h1
 | dfr b => exact Full.lt hw h
 | imap b es => exact Full.lt hw h
theorem Ob.Is.ext {s s' : St} (hw : Wf s) {y : Ob} (h : y.Is s) (x : Ext s s') : y.Is s' := h.same (x.2.2 _ (h.lt hw))
theorem Ob.Is.mod {s s' : St} (hw : Wf s) {y : Ob} (h : y.Is s) {ch : List Nat} (x : Mod s s' ch) (hb : y.b ∉ ch) : y.Is s' := h.same (x.2.2 _ (h.lt hw) hb)
def AOk (base : Nat) (s : St) : List Ob -> Prop
 | [] => True
 | x :: A => base <= x.b /\ x.Is s /\ (∀ y ∈ A, y.b ≠ x.b) /\ AOk base s A
def Hld (s0 : St) (A : List Ob) (s : St) : Prop := Wf s0 /\ Ext s0 s /\ AOk s0.n s A
theorem AOk.lt {base : Nat} {s : St} (hw : Wf s) : ∀ {A : List Ob}, AOk base s A -> ∀ y ∈ A, y.b < s.n /\ base <= y.b
 | [], _, y, hy => by cases hy
 | x :: A, ⟨h1, h2, _, h4⟩, y, hy => by
  rcases List.mem_cons.1 hy with rfl | hy
  ·exact ⟨h2.lt hw, h1⟩
  ·exact h4.lt hw y hy
theorem AOk.ext {base : Nat} {s s' : St} (hw : Wf s) (x : Ext s s') : ∀ {A : List Ob}, AOk base s A -> AOk base s' A
 | [], _ => trivial
 | _ :: _, ⟨h1, h2, h3, h4⟩ => ⟨h1, h2.ext hw x, h3, h4.ext hw x⟩
theorem AOk.mod {base b : Nat} {s s' : St} (hw : Wf s) (x : Mod s s' [b]) : ∀ {A : List Ob}, AOk base s A -> (∀ y ∈ A, y.b ≠ b) -> AOk base s' A
 | [], _, _ => trivial
 | y :: _, ⟨h1, h2, h3, h4⟩, hb => ⟨h1, h2.mod hw x (by simpa using hb y (by simp)), h3, h4.mod hw x (fun z hz => hb z (by simp [hz]))⟩
theorem Hld.wf {s0 s : St} {A : List Ob} (h : Hld s0 A s) : Wf s := h.2.1.1
theorem Hld.start {s : St} (h : Wf s) : Hld s [] s := ⟨h, Ext.refl h, trivial⟩
theorem Hld.ext {s0 s s' : St} {A : List Ob} (h : Hld s0 A s) (x : Ext s s') : Hld s0 A s' := ⟨h.1, h.2.1.trans x, h.2.2.ext h.wf x⟩
theorem Hld.new {s0 s s' : St} {A : List Ob} (h : Hld s0 A s) (x : Ext s s') {e : Nat} {op : Bool} {l : List Value} (ho : Obj s' s.n e op l) : Hld s0 (.row s.n e op l :: A) s' :=
 ⟨h.1, h.2.1.trans x, h.2.1.2.1, ho, fun y hy => by have := (h.2.2.lt h.wf y hy).1; show y.b ≠ s.n; omega, h.2.2.ext h.wf x⟩
inductive Own : List Ob -> Nat -> Nat -> Bool -> List Value -> Prop where
 | here {b e : Nat} {op : Bool} {l : List Value} {A : List Ob} : Own (.row b e op l :: A) b e op l
 | next {x : Ob} {b e : Nat} {op : Bool} {l : List Value} {A : List Ob} (h : Own A b e op l) : Own (x :: A) b e op l
theorem Own.mem {A : List Ob} {b e : Nat} {op : Bool} {l : List Value} (h : Own A b e op l) : (.row b e op l : Ob) ∈ A := by
 induction h with
 | here => simp
 | next _ ih => simp [ih]
theorem AOk.own {base : Nat} {s : St} {A : List Ob} {b e : Nat} {op : Bool} {l : List Value} (h : Own A b e op l) : AOk base s A -> Obj s b e op l := by
 induction h with
 | here => exact fun h => h.2.1
 | next _ ih => exact fun h => ih h.2.2.2
theorem Hld.own {s0 s : St} {A : List Ob} {b e : Nat} {op : Bool} {l : List Value} (h : Hld s0 A s) (o : Own A b e op l) : Obj s b e op l := h.2.2.own o
inductive Upd : List Ob -> Nat -> Nat -> Bool -> List Value -> List Value -> List Ob -> Prop where
 | here {b e : Nat} {op : Bool} {l l' : List Value} {A : List Ob} : Upd (.row b e op l :: A) b e op l l' (.row b e op l' :: A)
 | next {x : Ob} {b e : Nat} {op : Bool} {l l' : List Value} {A A' : List Ob} (h : Upd A b e op l l' A') : Upd (x :: A) b e op l l' (x :: A')
theorem Upd.own {A A' : List Ob} {b e : Nat} {op : Bool} {l l' : List Value} (h : Upd A b e op l l' A') : Own A b e op l := by
 induction h with
 | here => exact .here
 | next _ ih => exact .next ih
theorem Upd.blocks {A A' : List Ob} {b e : Nat} {op : Bool} {l l' : List Value} (h : Upd A b e op l l' A') : A'.map (·.b) = A.map (·.b) := by
 induction h with
 | here => rfl
 | next _ ih => simp [ih]
theorem ne_of_map {A A' : List Ob} (h : A'.map (·.b) = A.map (·.b)) {c : Nat} (hA : ∀ y ∈ A, y.b ≠ c) : ∀ y ∈ A', y.b ≠ c := by
 intro y hy hc;have : c ∈ A'.map (·.b) := List.mem_map.2 ⟨y, hy, hc⟩;rw [h] at this;obtain ⟨z, hz, hzc⟩ := List.mem_map.1 this;exact hA z hz hzc
theorem AOk.upd {base : Nat} {s s' : St} (hw : Wf s) {A A' : List Ob} {b e : Nat} {op : Bool} {l l' : List Value} (h : Upd A b e op l l' A') (x : Mod s s' [b]) (ho : Obj s' b e op l') : AOk base s A -> AOk base s' A' := by
 induction h with
 | here => exact fun ⟨h1, h2, h3, h4⟩ => ⟨h1, ho, h3, h4.mod hw x h3⟩
 | next hu ih =>
  rintro ⟨h1, h2, h3, h4⟩;refine ⟨h1, h2.mod hw x ?_, ne_of_map hu.blocks h3, ih x ho h4⟩;have := h3 _ hu.own.mem;simpa [Ob.b] using Ne.symm this
theorem Hld.upd {s0 s s' : St} {A A' : List Ob} {b e : Nat} {op : Bool} {l l' : List Value} (h : Hld s0 A s) (u : Upd A b e op l l' A') (x : Mod s s' [b]) (ho : Obj s' b e op l') : Hld s0 A' s' :=
 ⟨h.1, h.2.1.mod x (by
  intro i hi; have : i = b := by simpa using hi
  subst this; exact (h.2.2.lt h.wf _ u.own.mem).2), h.2.2.upd h.wf u x ho⟩
theorem AOk.sub {base : Nat} {s : St} {A A' : List Ob} (h : A'.Sublist A) : AOk base s A -> AOk base s A' := by
 induction h with
 | slnil => exact id
 | cons _ _ ih => exact fun h => ih h.2.2.2
 | cons_cons _ hs ih => exact fun ⟨h1, h2, h3, h4⟩ => ⟨h1, h2, fun y hy => h3 y (hs.subset hy), ih h4⟩
theorem Hld.sub {s0 s : St} {A A' : List Ob} (h : Hld s0 A s) (x : A'.Sublist A) : Hld s0 A' s := ⟨h.1, h.2.1, h.2.2.sub x⟩
theorem AOk.append {base b2 : Nat} {s s' : St} (hw : Wf s) (x : Ext s s') {A : List Ob} (h : AOk base s A) (hb : base <= b2) (hs : s.n = b2) (hw' : Wf s') : ∀ {A' : List Ob}, AOk b2 s' A' -> AOk base s' (A' ++ A)
 | [], _ => h.ext hw x
 | y :: A', ⟨h1, h2, h3, h4⟩ => by
  refine ⟨by omega, h2, fun z hz => ?_, AOk.append hw x h hb hs hw' h4⟩;rcases List.mem_append.1 hz with hz | hz
  ·exact h3 z hz
  ·have := (h.lt hw z hz).1; omega
theorem Hld.call {s0 s s' : St} {A A' : List Ob} (h : Hld s0 A s) (k : Hld s A' s') : Hld s0 (A' ++ A) s' := ⟨h.1, h.2.1.trans k.2.1, h.2.2.append h.wf k.2.1 h.2.1.2.1 rfl k.wf k.2.2⟩
theorem Hld.at {s0 s : St} {A : List Ob} (h : Hld s0 A s) {b o : Nat} {v : Value} (a : At s0 b o v) : At s b o v := a.ext h.1 h.2.1
theorem Hld.ats {s0 s : St} {A : List Ob} (h : Hld s0 A s) {b o : Nat} {l : List Value} (a : Ats s0 b o l) : Ats s b o l := a.ext h.1 h.2.1
section
variable (P : Program) (C : Nat -> (CF -> Bool) -> Bool) (X : FuncId -> List Value -> St -> (Value -> St -> Bool) -> Bool) (s0 : St)
structure RunA (n nt : Nat) (r : Option Nat) (c : CC) (env : List (Nat × Value)) (D : List Nat) (A : List Ob) (Q : Out -> List (Nat × Value) -> List Nat -> List Ob -> Prop) : Prop where
 go : ∀ s, Hld s0 A s -> RunE P C X n nt r c env D s (fun x e D s' => ∃ A', Hld s0 A' s' /\ Q x e D A')
structure ItA (n nt : Nat) (l : List Item) (env : List (Nat × Value)) (A : List Ob) (Q : List (Nat × Value) -> List Ob -> Prop) : Prop where
 go : ∀ s, Hld s0 A s -> ItE P C X n nt l env s (fun e s' => ∃ A', Hld s0 A' s' /\ Q e A')
structure OpA (n nt : Nat) (c : COp) (env : List (Nat × Value)) (A : List Ob) (R : Value -> List Ob -> Prop) : Prop where
 go : ∀ s, Hld s0 A s -> OpE P C X n nt c env s (fun v s' => ∃ A', Hld s0 A' s' /\ R v A')
def Spec (n : Nat) (f : FuncId) (vs : List Value) (s : St) (Q : Value -> List Ob -> Prop) : Prop := CallQ P C X n f vs s (fun v s' => ∃ A, Hld s A s' /\ Q v A)
end
def thenA (N : List (Nat × Value) -> List Nat -> List Ob -> Prop) (Q : Out -> List (Nat × Value) -> List Nat -> List Ob -> Prop) : Out -> List (Nat × Value) -> List Nat -> List Ob -> Prop
 | .normal, e, D, s => N e D s
 | .ret, e, D, s => Q .ret e D s
 | .exit i, e, D, s => Q (.exit i) e D s
 | .goto i, e, D, s => Q (.goto i) e D s
def blockA (id : Nat) (Q : Out -> List (Nat × Value) -> List Nat -> List Ob -> Prop) : Out -> List (Nat × Value) -> List Nat -> List Ob -> Prop
 | .exit j, e, D, s => sel (Nat.beq j id) (Q .normal e D s) (Q (.exit j) e D s)
 | .normal, e, D, s => Q .normal e D s
 | .ret, e, D, s => Q .ret e D s
 | .goto i, e, D, s => Q (.goto i) e D s
section
variable {N : List (Nat × Value) -> List Nat -> List Ob -> Prop} {Q : Out -> List (Nat × Value) -> List Nat -> List Ob -> Prop} {e : List (Nat × Value)} {D : List Nat} {A : List Ob} {i j : Nat}
theorem W0 (h : N e D A) : thenA N Q .normal e D A := h
theorem U3 (h : Q .ret e D A) : thenA N Q .ret e D A := h
theorem Q3 (h : Q (.exit i) e D A) : thenA N Q (.exit i) e D A := h
theorem U1 (h : Q .normal e D A) : blockA i Q .normal e D A := h
theorem W7 (h : Q .ret e D A) : blockA i Q .ret e D A := h
theorem Z3 (h : Q .normal e D A) : blockA i Q (.exit i) e D A := by
 show sel (Nat.beq i i) _ _;rw [show Nat.beq i i = true from by rw [Nat.beq_eq]]; exact h
theorem block_miss (hj : Nat.beq j i = false) (h : Q (.exit j) e D A) : blockA i Q (.exit j) e D A := by
 show sel (Nat.beq j i) _ _;rw [hj]; exact h
end
section
variable {P : Program} {C : Nat -> (CF -> Bool) -> Bool} {X : FuncId -> List Value -> St -> (Value -> St -> Bool) -> Bool} {s0 : St} {n nt : Nat} {r : Option Nat} {env : List (Nat × Value)} {D : List Nat} {A : List Ob}
section
variable {Q : Out -> List (Nat × Value) -> List Nat -> List Ob -> Prop}
theorem Q1 (h : Q .normal env D A) : RunA P C X s0 (n + 1) nt r .skip env D A Q := .mk fun s hs => run_skip ⟨A, hs, h⟩
theorem Y3 (h : Q .ret env D A) : RunA P C X s0 (n + 1) nt r .ret env D A Q := .mk fun s hs => run_ret ⟨A, hs, h⟩
theorem Q5 {i : Nat} (h : Q (.exit i) env D A) : RunA P C X s0 (n + 1) nt r (.exit i) env D A Q := .mk fun s hs => run_exit ⟨A, hs, h⟩
theorem r_seq {a b : CC} (h : RunA P C X s0 n nt r a env D A (thenA (fun e D A => RunA P C X s0 n nt r b e D A Q) Q)) : RunA P C X s0 (n + 1) nt r (.seq a b) env D A Q := .mk fun s hs =>
 run_seq ((h.go s hs).mono (fun x e D s' hq => by
  obtain ⟨A', h1, h2⟩ := hq;cases x with
  | normal => exact h2.go s' h1
  | ret => exact ⟨A', h1, h2⟩
  | exit i => exact ⟨A', h1, h2⟩
  | goto i => exact ⟨A', h1, h2⟩))
theorem Y1 {id : Nat} {b : CC} (h : RunA P C X s0 n nt r b env D A (blockA id Q)) : RunA P C X s0 (n + 1) nt r (.block id b) env D A Q := .mk fun s hs =>
 run_block ((h.go s hs).mono (fun x e D s' hq => by
  obtain ⟨A', h1, h2⟩ := hq;cases x with
  | normal => exact ⟨A', h1, h2⟩
  | ret => exact ⟨A', h1, h2⟩
  | goto i => exact ⟨A', h1, h2⟩
  | exit j =>
   have h2' : sel (Nat.beq j id) (Q .normal e D A') (Q (.exit j) e D A') := h2;show sel (Nat.beq j id) (∃ A', Hld s0 A' s' /\ Q .normal e D A') (∃ A', Hld s0 A' s' /\ Q (.exit j) e D A');cases hb : Nat.beq j id with
   | true => rw [hb] at h2'; exact ⟨A', h1, h2'⟩
   | false => rw [hb] at h2'; exact ⟨A', h1, h2'⟩))
theorem Y0 {x : Ev.X} {a b : CC} (hx : xv env x = some (.bool true)) (h : RunA P C X s0 n nt r a env D A Q) : RunA P C X s0 (n + 1) nt r (.cond x a b) env D A Q := .mk fun s hs => run_cond_t hx (h.go s hs)
theorem Z0 {x : Ev.X} {a b : CC} (hx : xv env x = some (.bool false)) (h : RunA P C X s0 n nt r b env D A Q) : RunA P C X s0 (n + 1) nt r (.cond x a b) env D A Q := .mk fun s hs => run_cond_f hx (h.go s hs)
theorem r_items {l : List Item} (h : ItA P C X s0 n nt l env A (fun e A => Q .normal e D A)) : RunA P C X s0 (n + 1) nt r (.items l) env D A Q := .mk fun s hs => run_items (h.go s hs)
theorem Y5 {b : CC} (I : Nat -> List (Nat × Value) -> List Ob -> Prop) (c K L : Nat) (hb : ∀ n, K <= n -> ∀ j e A, I j e A -> RunA P C X s0 (n + c) nt r b e D A (thenA (fun e' D' A' => D' = D /\ ∃ j' e2 A2, j' < j /\ Less e' e2 /\ A2.Sublist A' /\ I j' e2 A2) Q))
 {j : Nat} {env2 : List (Nat × Value)} {A2 : List Ob} (hn : K + L <= n) (hj : j <= L) (hl : Less env env2) (ha : A2.Sublist A) (hI : I j env2 A2) : RunA P C X s0 (n + c + 1) nt r (.loop b) env D A Q := .mk fun s hs => by
 refine run_loop_in (env2 := env2) (fun j e s => ∃ A, Hld s0 A s /\ I j e A) c K L (fun n hK j e s hI => ?_) hn hj hl ⟨A2, hs.sub ha, hI⟩;obtain ⟨A1, h1, h2⟩ := hI;refine ((hb n hK j e A1 h2).go s h1).mono (fun x e D' s' hq => ?_);obtain ⟨A', h3, h4⟩ := hq;cases x with
 | normal =>
  obtain ⟨h5, j', e2, A2, h6, h7, h8, h9⟩ := h4;exact ⟨h5, j', e2, h6, h7, A2, h3.sub h8, h9⟩
 | ret => exact ⟨A', h3, h4⟩
 | exit i => exact ⟨A', h3, h4⟩
 | goto i => exact ⟨A', h3, h4⟩
end
section
variable {Q : List (Nat × Value) -> List Ob -> Prop}
theorem Q0 (h : Q env A) : ItA P C X s0 n nt [] env A Q := .mk fun s hs => it_nil ⟨A, hs, h⟩
theorem i_op {g : Option (Nat × Bool)} {d : Nat} {c : COp} {l : List Item} (h : OpA P C X s0 n nt c env A (fun v A' => ItA P C X s0 n nt l ((d, v) :: env) A' Q)) (hg : wants env g = some true) (hd : okD (some d) nt = true) : ItA P C X s0 n nt (⟨g, some d, c⟩ :: l) env A Q := .mk fun s hs =>
 it_op hg hd (fun T hT k hk => h.go s hs T hT k (fun v s' hq => hk v s' (by obtain ⟨A', h1, h2⟩ := hq; exact h2.go s' h1)))
theorem i_opn {g : Option (Nat × Bool)} {c : COp} {l : List Item} (h : OpA P C X s0 n nt c env A (fun _ A' => ItA P C X s0 n nt l env A' Q)) (hg : wants env g = some true) : ItA P C X s0 n nt (⟨g, none, c⟩ :: l) env A Q := .mk fun s hs =>
 it_opn hg (fun T hT k hk => h.go s hs T hT k (fun v s' hq => hk v s' (by obtain ⟨A', h1, h2⟩ := hq; exact h2.go s' h1)))
theorem U0 {g : Option (Nat × Bool)} {d : Nat} {c : COp} {l : List Item} (hg : wants env g = some false) (hd : okD (some d) nt = true) (h : ItA P C X s0 n nt l ((d, undef) :: env) A Q) : ItA P C X s0 n nt (⟨g, some d, c⟩ :: l) env A Q := .mk fun s hs => it_no hg hd (h.go s hs)
end
section
variable {R : Value -> List Ob -> Prop}
theorem W3 {x : Ev.X} {v : Value} (hx : xv env x = some v) (h : R v A) : OpA P C X s0 n nt (.mov x) env A R := .mk fun s hs => o_mov hx ⟨A, hs, h⟩
theorem V2 {c a b : Ev.X} {v u : Value} (hc : xv env c = some (.bool true)) (ha : xv env a = some v) (hb : xv env b = some u) (h : R v A) : OpA P C X s0 n nt (.pick c a b) env A R := .mk fun s hs => o_pick_t hc ha hb ⟨A, hs, h⟩
theorem V1 {c a b : Ev.X} {v u : Value} (hc : xv env c = some (.bool false)) (ha : xv env a = some v) (hb : xv env b = some u) (h : R u A) : OpA P C X s0 n nt (.pick c a b) env A R := .mk fun s hs => o_pick_f hc ha hb ⟨A, hs, h⟩
theorem a_new {e m : Nat} {z : BT Value} {l : List Value} (hf : fullB z m = true) (hz : firstN z 0 m = some l) (h : ∀ b, R (.pointer (some ⟨b, 0, none⟩)) (.row b e false l :: A)) : OpA P C X s0 n nt (.new e m z) env A R := .mk fun s hs =>
 o_new hs.wf hf hz (fun s' x _ ho => ⟨_, hs.new x ho, h s.n⟩)
theorem a_box {e : Nat} {x : Ev.X} {v : Value} {l : List Value} (hx : xv env x = some v) (hc : v.cells = ⟨l⟩) (h1 : allOne l = true) (h : ∀ b, R (.pointer (some ⟨b, 0, none⟩)) (.row b e false l :: A)) : OpA P C X s0 n nt (.box e x) env A R := .mk fun s hs =>
 o_box hs.wf hx hc h1 (fun s' x _ ho => ⟨_, hs.new x ho, h s.n⟩)
theorem Z1 {a : Ev.X} {b off e : Nat} {op : Bool} {l : List Value} {v : Value} (ha : xv env a = some (.pointer (some ⟨b, off, none⟩))) (ho : Own A b e op l) (hv : l[off]? = some v) (h : R v A) : OpA P C X s0 n nt (.ld a none) env A R := .mk fun s hs =>
 o_ld ha ((hs.own ho).at hv) ⟨A, hs, h⟩
theorem Q7 {a : Ev.X} {b off : Nat} {v : Value} (ha : xv env a = some (.pointer (some ⟨b, off, none⟩))) (hv : At s0 b off v) (h : R v A) : OpA P C X s0 n nt (.ld a none) env A R := .mk fun s hs =>
 o_ld ha (hs.at hv) ⟨A, hs, h⟩
def segL {α : Type} (l : List α) : Nat -> Nat -> Option (List α)
 | _, 0 => some []
 | i, n + 1 => match l[i]?, segL l (i + 1) n with
  | some v, some r => some (v :: r)
  | _, _ => none
theorem segL_eq {α : Type} {l : List α} : ∀ {n i : Nat} {r : List α}, segL l i n = some r -> r.length = n /\ ∀ j, j < r.length -> l[i + j]? = r[j]?
 | 0, i, r, h => by cases h; exact ⟨rfl, fun j hj => absurd hj (Nat.not_lt_zero j)⟩
 | n + 1, i, r, h => by
  simp only [segL] at h;split at h
  ·rename_i v r' h1 h2
   cases h;obtain ⟨h3, h4⟩ := segL_eq h2;refine ⟨by simp [h3], fun j hj => ?_⟩;cases j with
   | zero => exact h1
   | succ j => rw [List.getElem?_cons_succ, <- h4 j (by simp at hj; omega)]; congr 1; omega
  ·cases h
theorem Z5 {a : Ev.X} {b off e m : Nat} {op : Bool} {l r : List Value} (ha : xv env a = some (.pointer (some ⟨b, off, none⟩))) (h0 : m ≠ 0) (ho : Own A b e op l) (hv : segL l off m = some r) (h : R (.agg ⟨r⟩) A) : OpA P C X s0 n nt (.ld a (some m)) env A R := .mk fun s hs =>
 o_lda ha ((hs.own ho).ats (segL_eq hv).2) (segL_eq hv).1 h0 ⟨A, hs, h⟩
theorem a_ldar {a : Ev.X} {b off m : Nat} {l : List Value} (ha : xv env a = some (.pointer (some ⟨b, off, none⟩))) (h0 : m ≠ 0) (hv : Ats s0 b off l) (hm : l.length = m) (h : R (.agg ⟨l⟩) A) : OpA P C X s0 n nt (.ld a (some m)) env A R := .mk fun s hs =>
 o_lda ha (hs.ats hv) hm h0 ⟨A, hs, h⟩
theorem a_st {a x : Ev.X} {b off e : Nat} {op : Bool} {v : Value} {l : List Value} {A' : List Ob} (ha : xv env a = some (.pointer (some ⟨b, off, none⟩))) (hx : xv env x = some v) (hu : Upd A b e op l (l.set off v) A') (hlt : Nat.blt off l.length = true) (h1 : oneCell v = true) (h : R undef A') : OpA P C X s0 n nt (.st a x none) env A R := .mk fun s hs =>
 o_st hs.wf ha hx (hs.own hu.own) (by rw [Nat.blt_eq] at hlt; exact hlt) h1 (fun s' m _ ho => ⟨_, hs.upd hu m ho, h⟩)
def overL : List Value -> Nat -> List Value -> Option (List Value)
 | l, _, [] => some l
 | l, i, v :: r => match l[i]? with
  | some _ => overL (l.set i v) (i + 1) r
  | none => none
theorem overL_eq : ∀ {r l l' : List Value} {i : Nat}, overL l i r = some l' -> i <= l.length -> l' = over l i r /\ i + r.length <= l.length
 | [], l, l', i, h, hi => by
  cases h;refine ⟨?_, by simpa using hi⟩;unfold over; simp
 | v :: r, l, l', i, h, hi => by
  simp only [overL] at h;split at h
  ·rename_i u hu
   have hlt : i < l.length := (List.getElem?_eq_some_iff.1 hu).1;obtain ⟨h1, h2⟩ := overL_eq h (by rw [List.length_set]; omega);rw [List.length_set] at h2;refine ⟨?_, by simp; omega⟩;rw [h1];refine List.ext_getElem? (fun j => ?_);rw [over_get (by rw [List.length_set]; exact h2), over_get (by simp; omega)];by_cases h3 : i + 1 <= j /\ j < i + 1 + r.length
   ·rw [if_pos h3, if_pos (by simp; omega)]
    obtain ⟨q, hq⟩ : ∃ q, j - i = q + 1 := ⟨j - i - 1, by omega⟩;rw [hq, List.getElem?_cons_succ]; congr 1; omega
   ·rw [if_neg h3, List.getElem?_set]
    by_cases h4 : j = i
    ·subst h4; rw [if_pos rfl, if_pos hlt, if_pos (by simp)]; simp
    ·rw [if_neg (Ne.symm h4), if_neg (by simp; omega)]
  ·cases h
theorem V6 {a x : Ev.X} {b off e m : Nat} {op : Bool} {r l l' : List Value} {A' : List Ob} (ha : xv env a = some (.pointer (some ⟨b, off, none⟩))) (hx : xv env x = some (.agg ⟨r⟩)) (hu : Upd A b e op l l' A') (hv : overL l off r = some l') (hle : Nat.ble off l.length = true) (hm : Nat.beq r.length m = true) (h1 : allOne r = true) (h : R undef A') : OpA P C X s0 n nt (.st a x (some m)) env A R := .mk fun s hs => by
 obtain ⟨h2, h3⟩ := overL_eq hv (by simpa using hle);have hm' : r.length = m := by simpa using hm
 subst h2;exact o_sta hs.wf ha hx (hs.own hu.own) (by omega) hm' h1 (fun s' m _ ho => ⟨_, hs.upd hu m ho, h⟩)
theorem a_again {a : Ev.X} {d b off e : Nat} {op : Bool} {l : List Value} {v : Value} (ha : xv env a = some (.pointer (some ⟨b, off, none⟩))) (hd : look env d = some v) (ho : Own A b e op l) (hv : l[off]? = some v) (he : eqV v v = true) (h : R undef A) : OpA P C X s0 n nt (.again a none d) env A R := .mk fun s hs =>
 o_again ha hd ((hs.own ho).at hv) he ⟨A, hs, h⟩
theorem a_againa {a : Ev.X} {d b off e m : Nat} {op : Bool} {l r : List Value} (ha : xv env a = some (.pointer (some ⟨b, off, none⟩))) (hd : look env d = some (.agg ⟨r⟩)) (h0 : m ≠ 0) (ho : Own A b e op l) (hv : segL l off m = some r) (he : eqL r r = true) (h : R undef A) : OpA P C X s0 n nt (.again a (some m) d) env A R := .mk fun s hs =>
 o_againa ha hd ((hs.own ho).ats (segL_eq hv).2) (segL_eq hv).1 h0 he ⟨A, hs, h⟩
theorem Z2 {x : Ev.X} {b o off : Nat} (hx : xv env x = some (.pointer (some ⟨b, o, none⟩))) (h : R (.pointer (some ⟨b, o + off, none⟩)) A) : OpA P C X s0 n nt (.fa x off) env A R := .mk fun s hs => o_fa hx ⟨A, hs, h⟩
theorem W4 {x i : Ev.X} {b o m c j size : Nat} {ik : IntKind} {z : Int} (hx : xv env x = some (.slice (some ⟨b, o, none⟩) m c)) (hi : xv env i = some (.int ik z)) (hz : z = (j : Int)) (hj : j < m) (h : R (.pointer (some ⟨b, o + j * size, none⟩)) A) : OpA P C X s0 n nt (.ia x i size) env A R := .mk fun s hs => o_ia hx hi hz hj ⟨A, hs, h⟩
theorem a_iaa {x i : Ev.X} {b o m j size : Nat} {ik : IntKind} {z : Int} (hx : xv env x = some (.pointer (some ⟨b, o, none⟩))) (hi : xv env i = some (.int ik z)) (hz : z = (j : Int)) (hj : j < m) (h : R (.pointer (some ⟨b, o + j * size, none⟩)) A) : OpA P C X s0 n nt (.iaa x i m size) env A R := .mk fun s hs => o_iaa hx hi hz hj ⟨A, hs, h⟩
theorem V4 {x : Ev.X} {a : Addr} (hx : xv env x = some (.pointer (some a))) (h : R (.pointer (some a)) A) : OpA P C X s0 n nt (.nilc x) env A R := .mk fun s hs => o_nilc hx ⟨A, hs, h⟩
theorem a_len {x : Ev.X} {b o m c : Nat} (hx : xv env x = some (.slice (some ⟨b, o, none⟩) m c)) (h : R (.int .i64 (m : Int)) A) : OpA P C X s0 n nt (.len x) env A R := .mk fun s hs => o_len hx (fun b hb => by cases hb; rfl) ⟨A, hs, h⟩
theorem a_len0 {x : Ev.X} {m c : Nat} (hx : xv env x = some (.slice none m c)) (h : R (.int .i64 (m : Int)) A) : OpA P C X s0 n nt (.len x) env A R := .mk fun s hs => o_len hx (fun b hb => by cases hb) ⟨A, hs, h⟩
theorem a_lenx {x : Ev.X} {a : Option Addr} {m c : Nat} (hx : xv env x = some (.slice a m c)) (ha : ∀ b, a = some b -> b.spot = none) (h : R (.int .i64 (m : Int)) A) : OpA P C X s0 n nt (.len x) env A R := .mk fun s hs => o_len hx ha ⟨A, hs, h⟩
theorem Q2 {x : Ev.X} {l : List Value} {i : Nat} {v : Value} (hx : xv env x = some (.tuple ⟨l⟩)) (hi : l[i]? = some v) (h : R v A) : OpA P C X s0 n nt (.ext x i) env A R := .mk fun s hs => o_ext hx hi ⟨A, hs, h⟩
theorem a_fn {f : Nat} {p c : List Ev.X} {ps cs : List Value} (hp : xvs env p = some ps) (hc : xvs env c = some cs) (h : R (.func (.func f) ⟨ps⟩ ⟨cs⟩) A) : OpA P C X s0 n nt (.fn f p c) env A R := .mk fun s hs => o_fn hp hc ⟨A, hs, h⟩
theorem a_bin {b : BinOp} {t d : Nat} {x y : Ev.X} {u v r : Value} (hx : xv env x = some u) (hy : xv env y = some v) (hr : evBin P b t d u v = some r) (h : R r A) : OpA P C X s0 n nt (.bin b t d x y) env A R := .mk fun s hs => o_bin hx hy hr ⟨A, hs, h⟩
theorem V3 {t d : Nat} {x y : Ev.X} {a b : Int} (hx : xv env x = some (.int .i64 a)) (hy : xv env y = some (.int .i64 b)) (hr : -9223372036854775808 <= a + b /\ a + b < 9223372036854775808) (h : R (.int .i64 (a + b)) A) : OpA P C X s0 n nt (.bin .add t d x y) env A R := .mk fun s hs => o_add hx hy hr ⟨A, hs, h⟩
theorem a_sub {t d : Nat} {x y : Ev.X} {a b : Int} (hx : xv env x = some (.int .i64 a)) (hy : xv env y = some (.int .i64 b)) (hr : -9223372036854775808 <= a - b /\ a - b < 9223372036854775808) (h : R (.int .i64 (a - b)) A) : OpA P C X s0 n nt (.bin .sub t d x y) env A R := .mk fun s hs => o_sub hx hy hr ⟨A, hs, h⟩
theorem a_rem {t d : Nat} {x y : Ev.X} {a b : Int} (hx : xv env x = some (.int .i64 a)) (hy : xv env y = some (.int .i64 b)) (h0 : b ≠ 0) (h : R (.int .i64 (a.tmod b)) A) : OpA P C X s0 n nt (.bin .rem t d x y) env A R := .mk fun s hs => o_rem hx hy h0 ⟨A, hs, h⟩
theorem V5 {t d : Nat} {x y : Ev.X} {k : IntKind} {a b : Int} (hx : xv env x = some (.int k a)) (hy : xv env y = some (.int k b)) (h1 : a < b -> R (.bool true) A) (h2 : ¬ a < b -> R (.bool false) A) : OpA P C X s0 n nt (.bin .lss t d x y) env A R := .mk fun s hs => o_lss hx hy (fun h => ⟨A, hs, h1 h⟩) (fun h => ⟨A, hs, h2 h⟩)
theorem a_gtr {t d : Nat} {x y : Ev.X} {k : IntKind} {a b : Int} (hx : xv env x = some (.int k a)) (hy : xv env y = some (.int k b)) (h1 : b < a -> R (.bool true) A) (h2 : ¬ b < a -> R (.bool false) A) : OpA P C X s0 n nt (.bin .gtr t d x y) env A R := .mk fun s hs => o_gtr hx hy (fun h => ⟨A, hs, h1 h⟩) (fun h => ⟨A, hs, h2 h⟩)
theorem a_leq {t d : Nat} {x y : Ev.X} {k : IntKind} {a b : Int} (hx : xv env x = some (.int k a)) (hy : xv env y = some (.int k b)) (h1 : a <= b -> R (.bool true) A) (h2 : ¬ a <= b -> R (.bool false) A) : OpA P C X s0 n nt (.bin .leq t d x y) env A R := .mk fun s hs => o_leq hx hy (fun h => ⟨A, hs, h1 h⟩) (fun h => ⟨A, hs, h2 h⟩)
theorem a_geq {t d : Nat} {x y : Ev.X} {k : IntKind} {a b : Int} (hx : xv env x = some (.int k a)) (hy : xv env y = some (.int k b)) (h1 : b <= a -> R (.bool true) A) (h2 : ¬ b <= a -> R (.bool false) A) : OpA P C X s0 n nt (.bin .geq t d x y) env A R := .mk fun s hs => o_geq hx hy (fun h => ⟨A, hs, h1 h⟩) (fun h => ⟨A, hs, h2 h⟩)
theorem a_eql {t d : Nat} {x y : Ev.X} {k : IntKind} {a b : Int} (hx : xv env x = some (.int k a)) (hy : xv env y = some (.int k b)) (h1 : a = b -> R (.bool true) A) (h2 : ¬ a = b -> R (.bool false) A) : OpA P C X s0 n nt (.bin .eql t d x y) env A R := .mk fun s hs => o_eql hx hy (fun h => ⟨A, hs, h1 h⟩) (fun h => ⟨A, hs, h2 h⟩)
theorem Y4 {t d : Nat} {x y : Ev.X} {k : IntKind} {a b : Int} (hx : xv env x = some (.int k a)) (hy : xv env y = some (.int k b)) (h1 : ¬ a = b -> R (.bool true) A) (h2 : a = b -> R (.bool false) A) : OpA P C X s0 n nt (.bin .neq t d x y) env A R := .mk fun s hs => o_neq hx hy (fun h => ⟨A, hs, h1 h⟩) (fun h => ⟨A, hs, h2 h⟩)
theorem a_un {u : UnOp} {x : Ev.X} {v r : Value} (hx : xv env x = some v) (hr : ev1 P (Op.unary u) v = some r) (h : R r A) : OpA P C X s0 n nt (.un u x) env A R := .mk fun s hs => o_un hx hr ⟨A, hs, h⟩
theorem Z7 {x : Ev.X} {b : Bool} (hx : xv env x = some (.bool b)) (h : R (.bool (!b)) A) : OpA P C X s0 n nt (.un .not x) env A R := .mk fun s hs => o_un hx rfl ⟨A, hs, h⟩
theorem a_conv {a b : Nat} {x : Ev.X} {v r : Value} (hx : xv env x = some v) (hr : ev1 P (convert a b) v = some r) (h : R r A) : OpA P C X s0 n nt (.conv a b x) env A R := .mk fun s hs => o_conv hx hr ⟨A, hs, h⟩
theorem a_bi {b : Builtin} {ts : Array Nat} {t : Nat} {l : List Ev.X} {vs : List Value} {r : Value} (hx : xvs env l = some vs) (hr : evBi P b ts t vs = some r) (h : R r A) : OpA P C X s0 n nt (.bi b ts t l) env A R := .mk fun s hs => o_bi hx hr ⟨A, hs, h⟩
theorem W5 {f : Ev.X} {l : List Ev.X} {g : Nat} {p c vs : List Value} {Qg : Value -> List Ob -> Prop} (hf : xv env f = some (.func (.func g) ⟨p⟩ ⟨c⟩)) (hl : xvs env l = some vs) (hg : ∀ s, Hld s0 A s -> Spec P C X n g (p ++ (vs ++ c)) s Qg) (h : ∀ v A', Qg v A' -> R v (A' ++ A)) : OpA P C X s0 n nt (.call f l) env A R := .mk fun s hs =>
 o_call hf hl ((hg s hs).mono (fun v s' hq => by obtain ⟨A', h1, h2⟩ := hq; exact ⟨_, hs.call h1, h v A' h2⟩))
end
/-! Results. -/
def ResA (s0 : St) : List CRes -> List (Nat × Value) -> List Ob -> List Value -> Prop
 | [], _, _, vs => vs = []
 | .tmp t :: l, env, A, vs => ∃ v vs', vs = v :: vs' /\ look env t = some v /\ ResA s0 l env A vs'
 | .cell a none :: l, env, A, vs => ∃ b o v vs', vs = v :: vs' /\ look env a = some (.pointer (some ⟨b, o, none⟩)) /\ (∃ e op l, Own A b e op l /\ l[o]? = some v) /\ ResA s0 l env A vs'
 | .cell a (some n) :: l, env, A, vs => ∃ b o r vs', vs = .agg ⟨r⟩ :: vs' /\ look env a = some (.pointer (some ⟨b, o, none⟩)) /\ n ≠ 0 /\ (∃ e op l, Own A b e op l /\ segL l o n = some r) /\ ResA s0 l env A vs'
theorem ResA.e {s : St} (hs : Hld s0 A s) : ∀ {l : List CRes} {vs : List Value}, ResA s0 l env A vs -> ResE l env s vs
 | [], _, h => h
 | .tmp t :: l, _, h => by
  obtain ⟨v, vs', h1, h2, h3⟩ := h;exact ⟨v, vs', h1, h2, h3.e hs⟩
 | .cell a none :: l, _, h => by
  obtain ⟨b, o, v, vs', h1, h2, ⟨e, op, l', h4, h5⟩, h3⟩ := h;exact ⟨b, o, v, vs', h1, h2, (hs.own h4).at h5, h3.e hs⟩
 | .cell a (some n) :: l, _, h => by
  obtain ⟨b, o, v, vs', h1, h2, h0, ⟨e, op, l', h4, h5⟩, h3⟩ := h;exact ⟨b, o, v, vs', h1, h2, (segL_eq h5).1, h0, (hs.own h4).ats (segL_eq h5).2, h3.e hs⟩
def EndA (s0 : St) (res : List CRes) (Q : Value -> List Ob -> Prop) : Out -> List (Nat × Value) -> List Nat -> List Ob -> Prop
 | .normal, e, D, A => D = [] /\ ∃ vs A', ResA s0 res e A vs /\ A'.Sublist A /\ Q (one vs) A'
 | .ret, e, D, A => D = [] /\ ∃ vs A', ResA s0 res e A vs /\ A'.Sublist A /\ Q (one vs) A'
 | _, _, _, _ => False
theorem enter {f : FuncId} {vs : List Value} {s : St} {Q : Value -> List Ob -> Prop} {body : CC} {res : List CRes} (hC : ∀ k, k ⟨body, nt, res⟩ = true -> C f k = true) (hl : Nat.ble vs.length nt = true) (hw : Wf s)
 (h : RunA P C X s n nt none body (argsE 0 vs) [] [] (EndA s res Q)) : Spec P C X (n + 1) f vs s Q := by
 refine call_enter hC (by simpa using hl) ((h.go s (Hld.start hw)).mono (fun x e D s' hq => ?_));obtain ⟨A, h1, h2⟩ := hq;cases x with
 | normal => obtain ⟨hD, vs, A', h3, h4, h5⟩ := h2; exact ⟨hD, vs, h3.e h1, A', h1.sub h4, h5⟩
 | ret => obtain ⟨hD, vs, A', h3, h4, h5⟩ := h2; exact ⟨hD, vs, h3.e h1, A', h1.sub h4, h5⟩
 | exit i => exact h2
 | goto i => exact h2
theorem end1 {t : Nat} {Q : Value -> List Ob -> Prop} {v : Value} (ht : look env t = some v) (hq : Q v []) : EndA s0 [.tmp t] Q .ret env [] A := ⟨rfl, [v], [], ⟨v, [], rfl, ht, rfl⟩, List.nil_sublist _, hq⟩
theorem end2 {t u : Nat} {Q : Value -> List Ob -> Prop} {v w : Value} (ht : look env t = some v) (hu : look env u = some w) (hq : Q (.tuple #[v, w]) []) : EndA s0 [.tmp t, .tmp u] Q .ret env [] A := ⟨rfl, [v, w], [], ⟨v, [w], rfl, ht, w, [], rfl, hu, rfl⟩, List.nil_sublist _, hq⟩
end
end
end Go.Proofs.Ytoeklhdklcpllaa.Ev
