import Derived.Test.YtjkdkpckjgaplaaGreatZh07
import Derived.KernelRfl
import Derived.Test.YtjkdkpckjgaplaaGreatZh08
set_option linter.unusedVariables false
set_option linter.unusedSimpArgs false
namespace Go.Proofs.YtjkdkpckjgaplaaGreat.Ev
open Go Go.RowKit
noncomputable section
def BI : List Value -> List (Nat × Nat × Value) -> Option (List Value)
 | l, [] => some l
 | l, (o, n, v) :: ps => match v.cells with
  | ⟨r⟩ => sel (Nat.beq r.length n && dU r && Nat.ble o l.length) (match BF l o r with | some l' => BI l' ps | none => none) none
theorem xN {m : Nat} : ∀ {ps : List (Nat × Nat × Value)} {l l' : List Value} {c : BT Value} {k : BT Value -> Bool}, l.length = m -> dC c m -> (∀ j, c.get j = l[j]?) -> BI l ps = some l' -> (∀ c', dC c' m -> (∀ j, c'.get j = l'[j]?) -> l'.length = m -> k c' = true) -> lP c ps k = true
 | [], l, l', c, k, hm, hf, hc, h, hk => by cases h; exact hk c hf hc hm
 | (o, n, v) :: ps, l, l', c, k, hm, hf, hc, h, hk => by
  simp only [BI] at h;obtain ⟨h1, h2⟩ := bU h;simp only [Bool.and_eq_true] at h1;obtain ⟨⟨h3, h4⟩, h5⟩ := h1;obtain ⟨r, hr⟩ : ∃ r, v.cells = ⟨r⟩ := ⟨v.cells.toList, rfl⟩;have hr' : v.cells.toList = r := by rw [hr]
  split at h2
  ·rename_i l1 h6
   obtain ⟨h7, h8⟩ := xK h6 (by simpa using h5);show @Array.rec Value (fun _ => Bool) (fun l => ifB (Nat.beq (kN l) n) (ifB (dU l) (dT c o l (fun c => lP c ps k)) false) false) v.cells = true;rw [hr];show ifB (Nat.beq (kN r) n) (ifB (dU r) (dT c o r (fun c => lP c ps k)) false) false = true;rw [hr'] at h3 h4 h7 h8;rw [iL, h3, h4];refine kB hf oM (fun c' hf' hg => xN (l := l1) (by rw [h7, kC h8]; exact hm) hf' (fun j => ?_) h2 hk);rw [hg, h7, mI h8, hc]
  ·cases h2
theorem aH {P : Program} {C : Nat -> (CF -> Bool) -> Bool} {X : FuncId -> List Value -> St -> (Value -> St -> Bool) -> Bool} {s0 : St} {n nt : Nat} {env : List (Nat × Value)} {A : List Ob} {R : Value -> List Ob -> Prop} {f : Ev.X} {l : List Ev.X} {g : Nat} {p c vs : List Value} {u : Value}
 (hf : xv env f = some (.func (.func g) ⟨p⟩ ⟨c⟩)) (hl : xE env l = some vs) (hg : ∀ s, fY s0 A s -> bW P C X n g (p ++ (vs ++ c)) s (fun v A' => v = u /\ A' = [])) (h : R u A) : eH P C X s0 n nt (.call f l) env A R :=
 Z4 hf hl hg (fun v A' hq => by obtain ⟨rfl, rfl⟩ := hq; exact h)
theorem bH {P : Program} {C : Nat -> (CF -> Bool) -> Bool} {X : FuncId -> List Value -> St -> (Value -> St -> Bool) -> Bool} {s0 : St} {n nt : Nat} {env : List (Nat × Value)} {A : List Ob} {R : Value -> List Ob -> Prop} {f : Ev.X} {l : List Ev.X} {g : Nat} {pp c vs : List Value} {p : Prop} [Decidable p]
 (hf : xv env f = some (.func (.func g) ⟨pp⟩ ⟨c⟩)) (hl : xE env l = some vs) (hg : ∀ s, fY s0 A s -> bW P C X n g (pp ++ (vs ++ c)) s (fun v A' => v = .bool (decide p) /\ A' = [])) (h1 : p -> R (.bool true) A) (h2 : ¬ p -> R (.bool false) A) : eH P C X s0 n nt (.call f l) env A R :=
 Z4 hf hl hg (fun v A' hq => by
  obtain ⟨rfl, rfl⟩ := hq;by_cases h : p
  ·rw [decide_eq_true h]; exact h1 h
  ·rw [decide_eq_false h]; exact h2 h)
theorem gL {P : Program} {C : Nat -> (CF -> Bool) -> Bool} {X : FuncId -> List Value -> St -> (Value -> St -> Bool) -> Bool} {s0 : St} {n nt : Nat} {env : List (Nat × Value)} {A : List Ob} {R : Value -> List Ob -> Prop} {f : Ev.X} {l : List Ev.X} {g : Nat} {pp c vs : List Value} {p : Prop} [Decidable p] {x y : Int}
 (hf : xv env f = some (.func (.func g) ⟨pp⟩ ⟨c⟩)) (hl : xE env l = some vs) (hg : ∀ s, fY s0 A s -> bW P C X n g (pp ++ (vs ++ c)) s (fun v A' => v = .int .i64 (if p then x else y) /\ A' = [])) (h1 : p -> R (.int .i64 x) A) (h2 : ¬ p -> R (.int .i64 y) A) : eH P C X s0 n nt (.call f l) env A R :=
 Z4 hf hl hg (fun v A' hq => by
  obtain ⟨rfl, rfl⟩ := hq;by_cases h : p
  ·rw [if_pos h]; exact h1 h
  ·rw [if_neg h]; exact h2 h)
structure RowsE (s : St) (w : Nat) (a : Option Addr) (rs : List (List Int)) : Prop where
 spot : ∀ b, a = some b -> b.spot = none
 addr : rs ≠ [] -> ∃ b o, a = some ⟨b, o, none⟩
 cells : ∀ b o, a = some ⟨b, o, none⟩ -> ∀ i r, rs[i]? = some r -> oR s b (o + i * w) (r.map (.int .i64))
 width : ∀ r ∈ rs, r.length = w
 fit : ∀ r ∈ rs, ∀ x ∈ r, -9223372036854775808 <= x /\ x < 9223372036854775808
 len : rs.length < 140737488355328
theorem RowsE.row {s : St} {w : Nat} {a : Option Addr} {rs : List (List Int)} (h : RowsE s w a rs) {k : Nat} (hk : k < rs.length) : ∃ b o r, a = some ⟨b, o, none⟩ /\ rs[k]? = some r /\ r.length = w /\ oR s b (o + k * w) (r.map (.int .i64)) /\ ∀ x ∈ r, -9223372036854775808 <= x /\ x < 9223372036854775808 := by
 obtain ⟨b, o, ha⟩ := h.addr (by intro e; rw [e] at hk; simp at hk);have hm : rs[k] ∈ rs := List.getElem_mem hk;exact ⟨b, o, rs[k], ha, List.getElem?_eq_getElem hk, h.width _ hm, h.cells b o ha k _ (List.getElem?_eq_getElem hk), h.fit _ hm⟩
theorem RowsE.ext {s s' : St} {w : Nat} {a : Option Addr} {rs : List (List Int)} (h : RowsE s w a rs) (hw : Wf s) (x : qI s s') : RowsE s' w a rs :=
 ⟨h.spot, h.addr, fun b o ha i r hr => (h.cells b o ha i r hr).ext hw x, h.width, h.fit, h.len⟩
theorem aU {α : Type} {n : Nat} {l : List α} (h : l.length = n + 1) : ∃ x r, l = x :: r /\ r.length = n := by
 cases l with
 | nil => simp at h
 | cons x r => exact ⟨x, r, rfl, by simpa using h⟩
section
variable {P : Program} {C : Nat -> (CF -> Bool) -> Bool} {X : FuncId -> List Value -> St -> (Value -> St -> Bool) -> Bool} {s0 : St} {n nt : Nat} {env : List (Nat × Value)} {A : List Ob} {R : Value -> List Ob -> Prop}
theorem Z6 {z : List Value} {ps : List (Nat × Nat × Ev.X)} {vs : List (Nat × Nat × Value)} {l : List Value} (hp : Pn env ps = some vs) (hf : BI z vs = some l) (h : R (.agg ⟨l⟩) A) : eH P C X s0 n nt (.build z ps) env A R := .mk fun s hs T hT k hk => by
 refine tQ hT (k := fun ps => oU z ps (vK s k)) hp ?_;unfold oU;refine iA (fun c hc hg => xN rfl hc hg hf (fun c' hc' hg' hl => ?_));exact sD (k := fun l => vK s k (.agg ⟨l⟩)) (l := l) (by rw [hl, iL]) (fun j _ => by rw [Nat.zero_add]; exact hg' j) (hk _ _ ⟨A, hs, h⟩)
theorem bO {e len m : Nat} {z : List Value} {ps : List (Nat × Nat × Ev.X)} {vs : List (Nat × Nat × Value)} {l : List Value} (hp : Pn env ps = some vs) (hf : BI z vs = some l) (hm : Nat.beq z.length m = true) (h : ∀ b, R (.slice (some ⟨b, 0, none⟩) len len) (.row b e false l :: A)) : eH P C X s0 n nt (.lit e len m z ps) env A R := .mk fun s hs T hT k hk => by
 refine tQ hT (k := fun ps => Bc s e len m z ps k) hp ?_;unfold Bc;have hm' : z.length = m := by simpa using hm
 refine iA (fun c hc hg => xN rfl hc hg hf (fun c' hc' hg' hl => lF ?_));exact fX (l := l) (by rw [hl, hm']) hs.wf (by rw [hl]; exact hc') hg' (fun s' x _ ho => hk _ _ ⟨_, hs.new x ho, h s.n⟩)
theorem HR {ts : Array Nat} {t : Nat} {x y : Ev.X} {k : IntKind} {a b : Int} (hx : xE env [x, y] = some [.int k a, .int k b]) (h : R (.int k (max a b)) A) : eH P C X s0 n nt (.bi .max ts t [x, y]) env A R :=
 PN hx (r := .int k (max a b)) (by
  have : evBi P .max ts t [.int k a, .int k b] = some (.int k (if b > a then b else a)) := rfl;rw [this]; congr 2;by_cases hab : b > a
  ·rw [if_pos hab]; omega
  ·rw [if_neg hab]; omega) h
theorem sH {ts : Array Nat} {t : Nat} {x y : Ev.X} {k : IntKind} {a b : Int} (hx : xE env [x, y] = some [.int k a, .int k b]) (h : R (.int k (min a b)) A) : eH P C X s0 n nt (.bi .min ts t [x, y]) env A R :=
 PN hx (r := .int k (min a b)) (by
  have : evBi P .min ts t [.int k a, .int k b] = some (.int k (if b < a then b else a)) := rfl;rw [this]; congr 2;by_cases hab : b < a
  ·rw [if_pos hab]; omega
  ·rw [if_neg hab]; omega) h
theorem MT {x : Ev.X} {a : Int} (hx : xv env x = some (.int .i64 a)) (hr : -9223372036854775808 < a /\ a < 9223372036854775808) (h : R (.int .i64 (-a)) A) : eH P C X s0 n nt (.un .neg x) env A R :=
 QI hx (r := .int .i64 (-a)) (by
  have : ev1 P (Op.unary .neg) (.int .i64 a) = some (.int .i64 (IntKind.i64.wrap (0 - a))) := rfl;rw [this, IntWalk.i64_in _ oM]; congr 2; omega) h
theorem bJ {r : Option Nat} {D : List Nat} {b : CC} {Q : fT -> List (Nat × Value) -> List Nat -> List Ob -> Prop} (h : dS P C X s0 n nt r b env D A (uS (fun e D A => dS P C X s0 n nt r (.loop b) e D A Q) Q)) : dS P C X s0 (n + 1) nt r (.loop b) env D A Q := .mk fun s hs T hT k hk => by
 show (cJ P C X n).code r b T D s (fun x T D s => gV x ((cJ P C X n).code r (.loop b) T D s k) (k x T D s) (fun _ => k x T D s) (fun _ => k x T D s)) = true;refine h.go s hs T hT _ (fun x e T' D' s' hT' hq => ?_);obtain ⟨A', h1, h2⟩ := hq;cases x with
 | normal => exact h2.go s' h1 T' hT' k hk
 | ret => exact hk _ _ T' D' s' hT' ⟨A', h1, h2⟩
 | exit i => exact hk _ _ T' D' s' hT' ⟨A', h1, h2⟩
 | goto i => exact hk _ _ T' D' s' hT' ⟨A', h1, h2⟩
/-! Appends. -/
inductive tS : List Ob -> Nat -> Nat -> Bool -> List Value -> List Ob -> Prop where
 | here {b e : Nat} {op : Bool} {l : List Value} {A : List Ob} : tS (.row b e op l :: A) b e op l A
 | next {x : Ob} {b e : Nat} {op : Bool} {l : List Value} {A A' : List Ob} (h : tS A b e op l A') : tS (x :: A) b e op l (x :: A')
section
variable {x0 x1 x2 x3 x4 x5 x6 x7 x8 : Ob} {b e : Nat} {op : Bool} {l : List Value} {A : List Ob}
theorem tS.h1 : tS (x0 :: .row b e op l :: A) b e op l (x0 :: A) := .next .here
theorem tS.h2 : tS (x0 :: x1 :: .row b e op l :: A) b e op l (x0 :: x1 :: A) := .next .h1
theorem tS.h3 : tS (x0 :: x1 :: x2 :: .row b e op l :: A) b e op l (x0 :: x1 :: x2 :: A) := .next .h2
theorem tS.h4 : tS (x0 :: x1 :: x2 :: x3 :: .row b e op l :: A) b e op l (x0 :: x1 :: x2 :: x3 :: A) := .next .h3
theorem tS.h5 : tS (x0 :: x1 :: x2 :: x3 :: x4 :: .row b e op l :: A) b e op l (x0 :: x1 :: x2 :: x3 :: x4 :: A) := .next .h4
theorem tS.h6 : tS (x0 :: x1 :: x2 :: x3 :: x4 :: x5 :: .row b e op l :: A) b e op l (x0 :: x1 :: x2 :: x3 :: x4 :: x5 :: A) := .next .h5
theorem tS.h7 : tS (x0 :: x1 :: x2 :: x3 :: x4 :: x5 :: x6 :: .row b e op l :: A) b e op l (x0 :: x1 :: x2 :: x3 :: x4 :: x5 :: x6 :: A) := .next .h6
theorem tS.h8 : tS (x0 :: x1 :: x2 :: x3 :: x4 :: x5 :: x6 :: x7 :: .row b e op l :: A) b e op l (x0 :: x1 :: x2 :: x3 :: x4 :: x5 :: x6 :: x7 :: A) := .next .h7
theorem tS.h9 : tS (x0 :: x1 :: x2 :: x3 :: x4 :: x5 :: x6 :: x7 :: x8 :: .row b e op l :: A) b e op l (x0 :: x1 :: x2 :: x3 :: x4 :: x5 :: x6 :: x7 :: x8 :: A) := .next .h8
end
theorem tS.own {A A' : List Ob} {b e : Nat} {op : Bool} {l : List Value} (h : tS A b e op l A') : kI A b e op l := by
 induction h with
 | here => exact .here
 | next _ ih => exact .next ih
theorem tS.sub {A A' : List Ob} {b e : Nat} {op : Bool} {l : List Value} (h : tS A b e op l A') : A'.Sublist A := by
 induction h with
 | here => exact List.sublist_cons_self _ _
 | next _ ih => exact ih.cons_cons _
theorem oL.del {base : Nat} {s : St} {A A' : List Ob} {b e : Nat} {op : Bool} {l : List Value} (h : tS A b e op l A') : oL base s A -> ∀ y ∈ A', y.b ≠ b := by
 induction h with
 | here => exact fun h => h.2.2.1
 | next hd ih =>
  intro h y hy;rcases List.mem_cons.1 hy with rfl | hy
  ·exact Ne.symm (h.2.2.1 _ hd.own.mem)
  ·exact ih h.2.2.2 y hy
theorem HS {s : St} {e size len n : Nat} {more old : List Value} {k : Value -> St -> Bool} (hw : Wf s) (ho : old.length = len * size) (hm : more.length = n * size) (hk : ∀ s', qI s s' -> s'.n = s.n + 1 -> Obj s' s.n e true (old ++ more) -> k (.slice (some ⟨s.n, 0, none⟩) (len + n) OPEN) s' = true) : uH s e size len n more old k = true := by
 unfold uH;refine iA (fun c hc hg => ?_);refine sC (n := len * size) (by rw [<- ho]; exact hc) (fun c' hc' hg' => lF ?_);rw [bB];have hl : (old ++ more).length = (len + n) * size := by rw [List.length_append, ho, hm, Nat.add_mul]
 refine fX (l := old ++ more) hl.symm hw (by rw [List.length_append, ho]; exact hc') (fun j => ?_) (fun s' x hn hob => ?_)
 ·rw [hg']
  by_cases h1 : len * size <= j /\ j < len * size + more.length
  ·rw [if_pos h1, List.getElem?_append_right oM, ho]
  ·rw [if_neg h1, hg]
   by_cases h2 : j < old.length
   ·rw [List.getElem?_append_left h2]
   ·rw [List.getElem?_eq_none oM, List.getElem?_eq_none (by simp; omega)]
 ·rw [bB]; exact hk s' x hn hob
def iG (s0 : St) (A : List Ob) (size n : Nat) (more : List Value) (y : Value) : Prop :=
 ∃ b o c, y = .slice (some ⟨b, o, none⟩) n c /\ more.length = n * size /\ more ≠ [] /\ ((∃ e op l, kI A b e op l /\ iS l o more.length = some more) ∨ oR s0 b o more)
theorem pC {s : St} (hs : fY s0 A s) {size n' : Nat} {z more : List Value} {y : Value} {k : Nat -> List Value -> Bool} (h : iG s0 A size n' more y) (hk : k n' more = true) : Dh s size z false y k = true := by
 obtain ⟨b, o, c, rfl, h1, h0, h2⟩ := h;have ha : oR s b o more := by
  rcases h2 with ⟨e, op, l, h3, h4⟩ | h3
  ·exact (hs.own h3).ats (gK h4).2
  ·exact hs.ats h3
 obtain ⟨f, h5, h6⟩ := ha.see h0;have hn0 : n' ≠ 0 := fun e => h0 (List.eq_nil_of_length_eq_zero (by rw [h1, e, Nat.zero_mul]))
 show ifB (Nat.beq n' 0) (k 0 []) (qO s b (fun c => lN c o (Nat.mul n' size) (fun l => k n' l)) (fun g => eL g o (Nat.mul n' size) (fun l => k n' l))) = true;rw [xD hn0];show qO s b (fun c => lN c o (Nat.mul n' size) (fun l => k n' l)) (fun g => eL g o (Nat.mul n' size) (fun l => k n' l)) = true;refine Au h5 (fun c hc => ?_) ?_
 ·subst hc; exact sD (k := fun l => k n' l) h1 (fun j hj => h6 j (by rw [h1]; exact hj)) hk
 ·exact qU (k := fun l => k n' l) h1 (fun j hj => h6 j (by rw [h1]; exact hj)) hk
theorem jP {e size bytes m : Nat} {z more : List Value} {x y : Ev.X} {yv : Value} (hx : xv env x = some (.slice none 0 0)) (hy : xv env y = some yv) (hsrc : iG s0 A size m more yv) (hm : m ≠ 0) (hb1 : m <= 1048576) (hb2 : bytes * m <= 1073741824)
 (h : ∀ b, R (.slice (some ⟨b, 0, none⟩) m OPEN) (.row b e true more :: A)) : eH P C X s0 n nt (.app e size bytes z false x y) env A R := .mk fun s hs T hT k hk => by
 refine U5 hT (k := fun x => bF T y (fun y => jC s e size bytes z false x y k)) hx (U5 hT (k := fun y => jC s e size bytes z false _ y k) hy ?_);unfold jC;refine pC hs hsrc ?_;obtain ⟨_, _, _, _, hml, _⟩ := hsrc;show ifB (Nat.beq 0 0) (ifB (Nat.beq 0 0) (ifB (Nat.beq m 0) _ (ifB (Nat.ble m 1048576) (ifB (Nat.ble (Nat.mul bytes m) 1073741824) _ false) false)) false) false = true;rw [show Nat.beq 0 0 = true from rfl, xD hm, show Nat.ble m 1048576 = true from by rw [Nat.ble_eq]; exact hb1, show Nat.ble (Nat.mul bytes m) 1073741824 = true from by rw [Nat.ble_eq]; exact hb2];show eB .leaf 0 more _ = true;refine iA (fun c hc hg => lF ?_);rw [bB];exact fX (l := more) hml.symm hs.wf hc hg (fun s' xx _ ho => hk _ _ ⟨_, hs.new xx ho, h s.n⟩)
def zP (op : Bool) (len cap : Nat) : Prop := (op = true /\ cap = OPEN) ∨ (op = false /\ cap = len /\ len < OPEN)
theorem dI {e size bytes b len cap m : Nat} {op : Bool} {z more l : List Value} {x y : Ev.X} {yv : Value} {A' : List Ob} (hx : xv env x = some (.slice (some ⟨b, 0, none⟩) len cap)) (hy : xv env y = some yv) (hsrc : iG s0 A size m more yv) (hd : tS A b e op l A') (hl : l.length = len * size) (ht : zP op len cap) (hm : m ≠ 0) (hb1 : len + m <= 1048576) (hb2 : bytes * (len + m) <= 1073741824)
 (h : ∀ b, R (.slice (some ⟨b, 0, none⟩) (len + m) OPEN) (.row b e true (l ++ more) :: A')) : eH P C X s0 n nt (.app e size bytes z false x y) env A R := .mk fun s hs T hT k hk => by
 refine U5 hT (k := fun x => bF T y (fun y => jC s e size bytes z false x y k)) hx (U5 hT (k := fun y => jC s e size bytes z false _ y k) hy ?_);unfold jC;refine pC hs hsrc ?_;obtain ⟨_, _, _, _, hml, hm0, _⟩ := hsrc;have hsz : size ≠ 0 := by
  rintro rfl
  apply hm0; exact List.eq_nil_of_length_eq_zero (by simpa using hml)
 by_cases hc0 : cap = 0
 ·rcases ht with ⟨_, h1⟩ | ⟨h1, h2, h3⟩
  ·rw [hc0] at h1; cases h1
  ·subst h1
   subst h2;subst hc0;have hl0 : l = [] := List.eq_nil_of_length_eq_zero (by rw [hl, Nat.zero_mul]);subst hl0;show ifB (Nat.beq m 0) _ (ifB (Nat.ble m 1048576) (ifB (Nat.ble (Nat.mul bytes m) 1073741824) _ false) false) = true;rw [xD hm, show Nat.ble m 1048576 = true from by rw [Nat.ble_eq]; omega, show Nat.ble (Nat.mul bytes m) 1073741824 = true from by rw [Nat.ble_eq]; rw [Nat.zero_add] at hb2; exact hb2];show eB .leaf 0 more _ = true;rw [Nat.zero_add] at h;refine iA (fun c hc hg => lF ?_);rw [bB];exact fX (l := more) hml.symm hs.wf hc hg (fun s' xx _ ho => hk _ _ ⟨_, (hs.sub hd.sub).new xx ho, h s.n⟩)
 show ifB (Nat.beq cap 0) _ (ifB (Nat.ble (Nat.add len m) 1048576) (ifB (Nat.ble (Nat.mul bytes (Nat.add len m)) 1073741824) (eG s e size b 0 len cap m more k) false) false) = true;rw [xD hc0];show ifB (Nat.ble (Nat.add len m) 1048576) (ifB (Nat.ble (Nat.mul bytes (Nat.add len m)) 1073741824) (eG s e size b 0 len cap m more k) false) false = true;rw [show Nat.ble (Nat.add len m) 1048576 = true from by rw [Nat.ble_eq]; exact hb1, show Nat.ble (Nat.mul bytes (Nat.add len m)) 1073741824 = true from by rw [Nat.ble_eq]; exact hb2];show eG s e size b 0 len cap m more k = true;obtain ⟨c, hc, hf, hg⟩ := hs.own hd.own;unfold eG;refine eW (k := _) hc ?_;have hee : Nat.beq e e = true := by rw [Nat.beq_eq]
 rcases ht with ⟨rfl, rfl⟩ | ⟨rfl, rfl, hlt⟩
 ·show ifB (Nat.beq e e) (ifB (Nat.ble OPEN OPEN) (ifB true (ifB (Nat.beq 0 0) (ifB (Nat.beq OPEN OPEN) (ifB (Nat.ble (Nat.mul (Nat.add len m) size) l.length) _ (ifB (Nat.beq (Nat.mul len size) l.length) _ false)) false) false) false) _) false = true
  have hnot : Nat.ble (Nat.mul (Nat.add len m) size) l.length = false := by
   cases hb : Nat.ble (Nat.mul (Nat.add len m) size) l.length with
   | false => rfl
   | true =>
    have h1 : (len + m) * size <= l.length := by simpa using hb
    rw [hl, Nat.add_mul] at h1;have : 0 < m * size := Nat.mul_pos oM oM;omega
  rw [hee, hnot, show Nat.ble OPEN OPEN = true from by rw [Nat.ble_eq]; exact Nat.le_refl _, show Nat.beq 0 0 = true from rfl, show Nat.beq OPEN OPEN = true from by rw [Nat.beq_eq], show Nat.beq (Nat.mul len size) l.length = true from by rw [Nat.beq_eq]; exact hl.symm];show eB c (Nat.mul len size) more _ = true;refine sC (n := len * size) (by rw [<- hl]; exact hf) (fun c' hc' hg' => lF ?_);refine dX hs.wf (dC.lt hs.wf hc) (fun s1 hm1 hn1 hd1 => ?_);rw [bB];have hll : (l ++ more).length = (len + m) * size := by rw [List.length_append, hl, hml, Nat.add_mul]
  have hlow := (hs.2.2.lt hs.wf _ hd.own.mem).2;have hs1 : fY s0 A' s1 := ⟨hs.1, hs.2.1.mod hm1 (fun i hi => (List.mem_singleton.1 hi) ▸ hlow), (hs.2.2.sub hd.sub).mod hs.wf hm1 (oL.del hd hs.2.2)⟩;rw [show s.n = s1.n from hn1.symm];refine fX (l := l ++ more) hll.symm hm1.1 (by rw [List.length_append, hl]; exact hc') (fun j => ?_) (fun s2 x2 _ ho2 => ?_)
  ·rw [hg']
   by_cases h1 : len * size <= j /\ j < len * size + more.length
   ·rw [if_pos h1, List.getElem?_append_right oM, hl]
   ·rw [if_neg h1, hg]
    by_cases h2 : j < l.length
    ·rw [List.getElem?_append_left h2]
    ·rw [List.getElem?_eq_none oM, List.getElem?_eq_none (by simp; omega)]
  ·rw [bB]
   exact hk _ _ ⟨_, hs1.new x2 ho2, h s1.n⟩
 ·show ifB (Nat.beq e e) (ifB (Nat.ble OPEN cap) _ (ifB (Nat.ble (Nat.add cap m) cap) _ (lN c 0 (Nat.mul cap size) (fun old => uH s e size cap m more old k)))) false = true
  rw [hee, show Nat.ble OPEN cap = false from by
   cases hb : Nat.ble OPEN cap with
   | false => rfl
   | true => rw [Nat.ble_eq] at hb; omega, show Nat.ble (Nat.add cap m) cap = false from by
   cases hb : Nat.ble (Nat.add cap m) cap with
   | false => rfl
   | true => rw [Nat.ble_eq] at hb; have : cap + m <= cap := hb; omega]
  show lN c 0 (Nat.mul cap size) (fun old => uH s e size cap m more old k) = true;refine sD (l := l) hl (fun j _ => by rw [Nat.zero_add]; exact hg j) (HS hs.wf hl hml (fun s' x2 _ ho2 => hk _ _ ⟨_, (hs.sub hd.sub).new x2 ho2, h s.n⟩))
end
end
end Go.Proofs.YtjkdkpckjgaplaaGreat.Ev
namespace Go.Proofs.YtjkdkpckjgaplaaGreat.Ev
open Go Go.RowKit
noncomputable section
inductive gS : List Ob -> Ob -> Ob -> List Ob -> Prop where
 | here {x y : Ob} {A : List Ob} : gS (x :: A) x y (y :: A)
 | next {x y z : Ob} {A A' : List Ob} (h : gS A x y A') : gS (z :: A) x y (z :: A')
section
variable {x0 x1 x2 x3 x4 x5 x6 x7 x8 : Ob} {x y : Ob} {A : List Ob}
theorem gS.h1 : gS (x0 :: x :: A) x y (x0 :: y :: A) := .next .here
theorem gS.h2 : gS (x0 :: x1 :: x :: A) x y (x0 :: x1 :: y :: A) := .next .h1
theorem gS.h3 : gS (x0 :: x1 :: x2 :: x :: A) x y (x0 :: x1 :: x2 :: y :: A) := .next .h2
theorem gS.h4 : gS (x0 :: x1 :: x2 :: x3 :: x :: A) x y (x0 :: x1 :: x2 :: x3 :: y :: A) := .next .h3
theorem gS.h5 : gS (x0 :: x1 :: x2 :: x3 :: x4 :: x :: A) x y (x0 :: x1 :: x2 :: x3 :: x4 :: y :: A) := .next .h4
theorem gS.h6 : gS (x0 :: x1 :: x2 :: x3 :: x4 :: x5 :: x :: A) x y (x0 :: x1 :: x2 :: x3 :: x4 :: x5 :: y :: A) := .next .h5
theorem gS.h7 : gS (x0 :: x1 :: x2 :: x3 :: x4 :: x5 :: x6 :: x :: A) x y (x0 :: x1 :: x2 :: x3 :: x4 :: x5 :: x6 :: y :: A) := .next .h6
theorem gS.h8 : gS (x0 :: x1 :: x2 :: x3 :: x4 :: x5 :: x6 :: x7 :: x :: A) x y (x0 :: x1 :: x2 :: x3 :: x4 :: x5 :: x6 :: x7 :: y :: A) := .next .h7
theorem gS.h9 : gS (x0 :: x1 :: x2 :: x3 :: x4 :: x5 :: x6 :: x7 :: x8 :: x :: A) x y (x0 :: x1 :: x2 :: x3 :: x4 :: x5 :: x6 :: x7 :: x8 :: y :: A) := .next .h8
end
theorem gS.mem {A A' : List Ob} {x y : Ob} (h : gS A x y A') : x ∈ A := by
 induction h with
 | here => simp
 | next _ ih => simp [ih]
theorem gS.blocks {A A' : List Ob} {x y : Ob} (h : gS A x y A') (hb : y.b = x.b) : A'.map (·.b) = A.map (·.b) := by
 induction h with
 | here => simp [hb]
 | next _ ih => simp [ih hb]
theorem oL.is {base : Nat} {s : St} : ∀ {A : List Ob}, oL base s A -> ∀ {x : Ob}, x ∈ A -> x.Is s
 | [], _, _, h => by cases h
 | y :: A, ⟨_, h2, _, h4⟩, x, h => by
  rcases List.mem_cons.1 h with rfl | h
  ·exact h2
  ·exact h4.is h
theorem oL.putO {base : Nat} {s s' : St} (hw : Wf s) {A A' : List Ob} {x y : Ob} (h : gS A x y A') (hb : y.b = x.b) (m : FA s s' [x.b]) (ho : y.Is s') : oL base s A -> oL base s' A' := by
 induction h with
 | here => exact fun ⟨h1, h2, h3, h4⟩ => ⟨by rw [hb]; exact h1, ho, by rw [hb]; exact h3, h4.mod hw m h3⟩
 | next hu ih =>
  rintro ⟨h1, h2, h3, h4⟩;refine ⟨h1, h2.mod hw m ?_, zK (hu.blocks hb) h3, ih hb m ho h4⟩;have := h3 _ hu.mem;simpa using Ne.symm this
theorem fY.putO {s0 s s' : St} {A A' : List Ob} {x y : Ob} (h : fY s0 A s) (u : gS A x y A') (hb : y.b = x.b) (m : FA s s' [x.b]) (ho : y.Is s') : fY s0 A' s' :=
 ⟨h.1, h.2.1.mod m (by
  intro i hi; have : i = x.b := by simpa using hi
  subst this; exact (h.2.2.lt h.wf _ u.mem).2), h.2.2.putO h.wf u hb m ho⟩
inductive eJ : List Ob -> Ob -> List Ob -> Prop where
 | here {x : Ob} {A : List Ob} : eJ (x :: A) x A
 | next {x z : Ob} {A A' : List Ob} (h : eJ A x A') : eJ (z :: A) x (z :: A')
section
variable {x0 x1 x2 x3 x4 x5 x6 x7 x8 : Ob} {x : Ob} {A : List Ob}
theorem eJ.h1 : eJ (x0 :: x :: A) x (x0 :: A) := .next .here
theorem eJ.h2 : eJ (x0 :: x1 :: x :: A) x (x0 :: x1 :: A) := .next .h1
theorem eJ.h3 : eJ (x0 :: x1 :: x2 :: x :: A) x (x0 :: x1 :: x2 :: A) := .next .h2
theorem eJ.h4 : eJ (x0 :: x1 :: x2 :: x3 :: x :: A) x (x0 :: x1 :: x2 :: x3 :: A) := .next .h3
theorem eJ.h5 : eJ (x0 :: x1 :: x2 :: x3 :: x4 :: x :: A) x (x0 :: x1 :: x2 :: x3 :: x4 :: A) := .next .h4
theorem eJ.h6 : eJ (x0 :: x1 :: x2 :: x3 :: x4 :: x5 :: x :: A) x (x0 :: x1 :: x2 :: x3 :: x4 :: x5 :: A) := .next .h5
theorem eJ.h7 : eJ (x0 :: x1 :: x2 :: x3 :: x4 :: x5 :: x6 :: x :: A) x (x0 :: x1 :: x2 :: x3 :: x4 :: x5 :: x6 :: A) := .next .h6
theorem eJ.h8 : eJ (x0 :: x1 :: x2 :: x3 :: x4 :: x5 :: x6 :: x7 :: x :: A) x (x0 :: x1 :: x2 :: x3 :: x4 :: x5 :: x6 :: x7 :: A) := .next .h7
theorem eJ.h9 : eJ (x0 :: x1 :: x2 :: x3 :: x4 :: x5 :: x6 :: x7 :: x8 :: x :: A) x (x0 :: x1 :: x2 :: x3 :: x4 :: x5 :: x6 :: x7 :: x8 :: A) := .next .h8
end
theorem eJ.mem {A A' : List Ob} {x : Ob} (h : eJ A x A') : x ∈ A := by
 induction h with
 | here => simp
 | next _ ih => simp [ih]
theorem eJ.sub {A A' : List Ob} {x : Ob} (h : eJ A x A') : A'.Sublist A := by
 induction h with
 | here => exact List.sublist_cons_self _ _
 | next _ ih => exact ih.cons_cons _
theorem oL.delO {base : Nat} {s : St} {A A' : List Ob} {x : Ob} (h : eJ A x A') : oL base s A -> ∀ y ∈ A', y.b ≠ x.b := by
 induction h with
 | here => exact fun h => h.2.2.1
 | next hd ih =>
  intro h y hy;rcases List.mem_cons.1 hy with rfl | hy
  ·exact Ne.symm (h.2.2.1 _ hd.mem)
  ·exact ih h.2.2.2 y hy
theorem fY.delO {s0 s s' : St} {A A' : List Ob} {x : Ob} (h : fY s0 A s) (u : eJ A x A') (m : FA s s' [x.b]) : fY s0 A' s' :=
 ⟨h.1, h.2.1.mod m (by
  intro i hi; have : i = x.b := by simpa using hi
  subst this; exact (h.2.2.lt h.wf _ u.mem).2), (h.2.2.sub u.sub).mod h.wf m (oL.delO u h.2.2)⟩
inductive yL : List Ob -> List Nat -> List Ob -> Prop where
 | nil {A : List Ob} : yL A [] A
 | cons {q : Nat} {D : List Nat} {A A1 A2 : List Ob} (h : eJ A (.dfr q) A1) (k : yL A1 D A2) : yL A (q :: D) A2
theorem fY.add {s0 s s' : St} {A : List Ob} (h : fY s0 A s) (x : qI s s') {y : Ob} (hb : y.b = s.n) (ho : y.Is s') : fY s0 (y :: A) s' :=
 ⟨h.1, h.2.1.trans x, by rw [hb]; exact h.2.1.2.1, ho, fun z hz => by have := (h.2.2.lt h.wf z hz).1; omega, h.2.2.ext h.wf x⟩
section
variable {P : Program} {C : Nat -> (CF -> Bool) -> Bool} {X : FuncId -> List Value -> St -> (Value -> St -> Bool) -> Bool} {s0 : St} {n nt : Nat} {env : List (Nat × Value)} {D : List Nat} {A : List Ob}
def xO (s0 : St) (res : List CRes) (Q : Value -> List Ob -> Prop) : fT -> List (Nat × Value) -> List Nat -> List Ob -> Prop
 | .normal, e, D, A => ∃ A2 vs A', yL A D A2 /\ xL s0 res e A2 vs /\ A'.Sublist A2 /\ Q (one vs) A'
 | .ret, e, D, A => ∃ A2 vs A', yL A D A2 /\ xL s0 res e A2 vs /\ A'.Sublist A2 /\ Q (one vs) A'
 | _, _, _, _ => False
theorem CT {T : BT Value} {e : List (Nat × Value)} {res : List CRes} {A2 : List Ob} {vs : List Value} {k : Value -> St -> Bool} (hT : vB nt T e) (hd : yL A D A2) (hr : xL s0 res e A2 vs) (hk : ∀ s', fY s0 A2 s' -> k (one vs) s' = true) :
 ∀ {s : St}, fY s0 A s -> fA res T D s k = true := by
 induction hd with
 | nil => exact fun {s} hs => sE hT (k := fun l => Ad l (fun v => k v s)) (hr.e hs) (DD (hk _ hs))
 | @cons q D A A1 A2 h hk' ih =>
  intro s hs;have hq : s.h.get q = some (.deferred true) := hs.2.2.is h.mem;show qD s q _ = true;refine eW hq ?_;show cK s q (.deferred false) (fun s => fA res T D s k) = true;exact dX hs.wf (dC.lt hs.wf hq) (fun s1 hm _ _ => ih hr hk (hs.delO h hm))
theorem uT {f : FuncId} {vs : List Value} {s : St} {Q : Value -> List Ob -> Prop} {body : CC} {res : List CRes} (hC : ∀ k, k ⟨body, nt, res⟩ = true -> C f k = true) (hl : Nat.ble vs.length nt = true) (hs : fY s0 A s)
 (h : dS P C X s0 n nt none body (qJ 0 vs) [] A (xO s0 res Q)) : xG P C X (n + 1) f vs s (fun v s' => ∃ A', fY s0 A' s' /\ Q v A') := fun k hk => by
 have key : uJ C (cJ P C X n) f vs s k = true := by
  refine hC _ ?_;show ifB (Nat.ble (kN vs) nt) (dT (full nt) 0 vs (fun T => (cJ P C X n).code none body T [] s (fun x T D s => gV x (fA res T D s k) (fA res T D s k) (fun _ => false) (fun _ => false)))) false = true;rw [iL, hl];have hl' : vs.length <= nt := by simpa using hl
  refine kB (zH nt) oM (fun T hf hg => (h.go s hs) T ⟨hf, fun t v hv => ?_⟩ _ (fun x e T' D' s' hT' hq => ?_))
  ·obtain ⟨h1, h2, h3⟩ := zF hv
   rw [hg, if_pos ⟨h1, h2⟩]; exact h3
  ·obtain ⟨A1, hs1, hq⟩ := hq
   have fin : (∃ A2 vs A', yL A1 D' A2 /\ xL s0 res e A2 vs /\ A'.Sublist A2 /\ Q (one vs) A') -> fA res T' D' s' k = true := by
    rintro ⟨A2, vs, A', h1, h2, h3, h4⟩;exact CT hT' h1 h2 (fun s2 hs2 => hk _ _ ⟨A', hs2.sub h3, h4⟩) hs1
   cases x with
   | normal => exact fin hq
   | ret => exact fin hq
   | exit i => exact hq.elim
   | goto i => exact hq.elim
 show (X f vs s k || uJ C (cJ P C X n) f vs s k) = true;rw [key, Bool.or_true]
theorem bN {R : Value -> List Ob -> Prop} {f : Ev.X} {l : List Ev.X} {g ng : Nat} {p c vs : List Value} {body : CC} {res : List CRes} (hf : xv env f = some (.func (.func g) ⟨p⟩ ⟨c⟩)) (hl : xE env l = some vs) (hC : ∀ k, k ⟨body, ng, res⟩ = true -> C g k = true) (hn : Nat.ble (p ++ (vs ++ c)).length ng = true)
 (h : dS P C X s0 n ng none body (qJ 0 (p ++ (vs ++ c))) [] A (xO s0 res R)) : eH P C X s0 (n + 1) nt (.call f l) env A R := .mk fun s hs => Ax hf hl (uT hC hn hs h)
theorem lR {t : Nat} {Q : Value -> List Ob -> Prop} {v : Value} {A2 : List Ob} (ht : look env t = some v) (hd : yL A D A2) (hq : Q v A2) : xO s0 [.tmp t] Q .ret env D A := ⟨A2, [v], A2, hd, ⟨v, [], rfl, ht, rfl⟩, List.Sublist.refl _, hq⟩
theorem aZ {Q : Value -> List Ob -> Prop} {A2 : List Ob} (hd : yL A D A2) (hq : Q (.tuple ⟨[]⟩) A2) : xO s0 [] Q .normal env D A := ⟨A2, [], A2, hd, rfl, List.Sublist.refl _, hq⟩
theorem oL.front {base : Nat} {s : St} {A A' : List Ob} {x : Ob} (h : eJ A x A') (hA : oL base s A) : oL base s (x :: A') := by
 refine ⟨?_, hA.is h.mem, oL.delO h hA, hA.sub h.sub⟩
 induction h with
 | here => exact hA.1
 | next hd ih => exact ih hA.2.2.2
theorem fY.front {s0 s : St} {A A' : List Ob} {x : Ob} (h : eJ A x A') (hs : fY s0 A s) : fY s0 (x :: A') s := ⟨hs.1, hs.2.1, hs.2.2.front h⟩
theorem nP {r : Option Nat} {c : CC} {Q : fT -> List (Nat × Value) -> List Nat -> List Ob -> Prop} {A' : List Ob} {x : Ob} (hd : eJ A x A') (h : dS P C X s0 n nt r c env D (x :: A') Q) : dS P C X s0 n nt r c env D A Q := .mk fun s hs => h.go s (hs.front hd)
/-! Small maps. -/
/-! Loops over a function's calls. -/
def En (Q : fT -> List (Nat × Value) -> List Nat -> List Ob -> Prop) (nt : Nat) (env : List (Nat × Value)) (D : List Nat) (ps : List Nat) (a b : CC) (q l : Nat) : Value -> List Ob -> Prop := fun _ A' =>
 ∃ st pend A'', eJ A' (.loop l st pend nt env ps a b q) A'' /\ st ≠ .busy /\ Q pend env D A''
theorem BJ {T : BT Value} {ps : List Nat} {a b : CC} {q l : Nat} {Q : fT -> List (Nat × Value) -> List Nat -> List Ob -> Prop} {k : fT -> BT Value -> List Nat -> St -> Bool} {v : Value} {s : St} (hT : vB nt T env) (hs : fY s0 A s) (h : En Q nt env D ps a b q l v A)
 (hk : ∀ x env' T' D' s', vB nt T' env' -> (∃ A', fY s0 A' s' /\ Q x env' D' A') -> k x T' D' s' = true) : pQ l T D s k = true := by
 obtain ⟨st, pend, A'', h1, h2, h3⟩ := h;obtain ⟨T', h4, h5⟩ := hs.2.2.is h1.mem;have fin : cK s l (.loop .exhausted pend T' ps a b q) (k pend T D) = true := dX hs.wf (dC.lt hs.wf h4) (fun s1 hm _ _ => hk _ _ _ _ _ hT ⟨A'', hs.delO h1 hm, h3⟩);show qD s l _ = true;refine eW h4 ?_;cases st with
 | busy => exact absurd rfl h2
 | ready => exact fin
 | done => exact fin
 | exhausted => exact fin
theorem CV {T : BT Value} {ps : List Nat} {a b : CC} {q g ng : Nat} {p c : List Value} {body : CC} {res : List CRes} {Q : fT -> List (Nat × Value) -> List Nat -> List Ob -> Prop} {k : fT -> BT Value -> List Nat -> St -> Bool} {s : St} (hT : vB nt T env) (hs : fY s0 A s)
 (hC : ∀ k, k ⟨body, ng, res⟩ = true -> C g k = true) (hn : ∀ l, Nat.ble (p ++ (.func (.yield l) ⟨[]⟩ ⟨[]⟩ :: c)).length ng = true)
 (h : ∀ l, dS P C X s0 n ng none body (qJ 0 (p ++ (.func (.yield l) ⟨[]⟩ ⟨[]⟩ :: c))) [] (.loop l .ready .normal nt env ps a b q :: A) (xO s0 res (En Q nt env D ps a b q l)))
 (hk : ∀ x env' T' D' s', vB nt T' env' -> (∃ A', fY s0 A' s' /\ Q x env' D' A') -> k x T' D' s' = true) : jU (cJ P C X (n + 1)) (.func (.func g) ⟨p⟩ ⟨c⟩) ps a b T D q s k = true := by
 refine lF ?_;show iH s (.loop .ready .normal T ps a b q) (fun s' => (cJ P C X (n + 1)).call g (yI p (.func (.yield s.n) #[] #[] :: c)) s' (fun _ s' => pQ s.n T D s' k)) = true;refine As hs.wf (fun s1 hx _ hg => ?_);have ha : ∀ l r : List Value, yI l r = l ++ r := fun l r => by
  induction l with
  | nil => rfl
  | cons v l ih => exact congrArg (v :: ·) ih
 rw [ha];exact uT hC (hn s.n) (hs.add hx (y := .loop s.n .ready .normal nt env ps a b q) J ⟨T, hg, hT⟩) (h s.n) _ (fun v s2 ⟨A2, hs2, hq⟩ => BJ hT hs2 hq hk)
theorem L9 {f : Ev.X} {ps : List Nat} {a b : CC} {g ng : Nat} {p c : List Value} {body : CC} {res : List CRes} {Q : fT -> List (Nat × Value) -> List Nat -> List Ob -> Prop} (hf : xv env f = some (.func (.func g) ⟨p⟩ ⟨c⟩)) (hC : ∀ k, k ⟨body, ng, res⟩ = true -> C g k = true) (hn : Nat.ble (p.length + 1 + c.length) ng = true)
 (h : ∀ q l, dS P C X s0 n ng none body (qJ 0 (p ++ (.func (.yield l) ⟨[]⟩ ⟨[]⟩ :: c))) [] (.loop l .ready .normal nt env ps a b q :: .dfr q :: A) (xO s0 res (En Q nt env (q :: D) ps a b q l))) : dS P C X s0 (n + 2) nt none (.range f ps a b) env D A Q := .mk fun s hs T hT k hk => by
 refine U5 hT (k := fun f => Ac (cJ P C X (n + 1)) none f ps a b T D s k) hf ?_;show A9 s (fun q => iH s (.deferred true) (fun s' => jU (cJ P C X (n + 1)) (.func (.func g) ⟨p⟩ ⟨c⟩) ps a b T (q :: D) q s' k)) = true;refine lF ?_;show iH s (.deferred true) (fun s' => jU (cJ P C X (n + 1)) _ ps a b T (s.n :: D) s.n s' k) = true;refine As hs.wf (fun s1 hx _ hg => ?_);exact CV hT (hs.add hx (y := .dfr s.n) J hg) hC (fun l => by rw [<- hn]; congr 1; simp; omega) (h s.n) hk
def Az (Q : fT -> List (Nat × Value) -> List Nat -> List Ob -> Prop) (nt : Nat) (env : List (Nat × Value)) (D : List Nat) (ps : List Nat) (a b : CC) (q l : Nat) (LO : Ob) : Value -> List Ob -> Prop := fun _ A' =>
 (∃ A'', eJ A' LO A'' /\ Q .normal env D A'') ∨ ∃ x A'', eJ A' (.loop l .done x nt env ps a b q) A'' /\ Q x env D A''
theorem xO.mono {res : List CRes} {Q Q' : Value -> List Ob -> Prop} (h : ∀ v A, Q' v A -> Q v A) : ∀ {x : fT} {e : List (Nat × Value)} {D : List Nat} {A : List Ob}, xO s0 res Q' x e D A -> xO s0 res Q x e D A := by
 intro x e D A hq;cases x with
 | normal => obtain ⟨A2, vs, A', h1, h2, h3, h4⟩ := hq; exact ⟨A2, vs, A', h1, h2, h3, h _ _ h4⟩
 | ret => obtain ⟨A2, vs, A', h1, h2, h3, h4⟩ := hq; exact ⟨A2, vs, A', h1, h2, h3, h _ _ h4⟩
 | exit i => exact hq
 | goto i => exact hq
theorem dS.mono {r : Option Nat} {c : CC} {Q Q' : fT -> List (Nat × Value) -> List Nat -> List Ob -> Prop} (h : dS P C X s0 n nt r c env D A Q') (hq : ∀ x e D A, Q' x e D A -> Q x e D A) : dS P C X s0 n nt r c env D A Q := .mk fun s hs =>
 (h.go s hs).mono (fun x e D s' hh => by obtain ⟨A', h1, h2⟩ := hh; exact ⟨A', h1, hq _ _ _ _ h2⟩)
theorem Az.to {Q : fT -> List (Nat × Value) -> List Nat -> List Ob -> Prop} {ps : List Nat} {a b : CC} {q l : Nat} {v : Value} (h : Az Q nt env D ps a b q l (.loop l .ready .normal nt env ps a b q) v A) : En Q nt env D ps a b q l v A := by
 rcases h with ⟨A', h1, h2⟩ | ⟨x, A', h1, h2⟩
 ·exact ⟨_, _, A', h1, (fun h => by cases h), h2⟩
 ·exact ⟨_, _, A', h1, (fun h => by cases h), h2⟩
theorem mO {f : Ev.X} {ps : List Nat} {a b : CC} {g ng : Nat} {p c : List Value} {body : CC} {res : List CRes} {Q : fT -> List (Nat × Value) -> List Nat -> List Ob -> Prop} (hf : xv env f = some (.func (.func g) ⟨p⟩ ⟨c⟩)) (hC : ∀ k, k ⟨body, ng, res⟩ = true -> C g k = true) (hn : Nat.ble (p.length + 1 + c.length) ng = true)
 (h : ∀ q l LO BO, LO = Ob.loop l .ready .normal nt env ps a b q -> BO = Ob.loop l .busy .normal nt env ps a b q -> dS P C X s0 n ng none body (qJ 0 (p ++ (.func (.yield l) ⟨[]⟩ ⟨[]⟩ :: c))) [] (LO :: .dfr q :: A) (xO s0 res (Az Q nt env (q :: D) ps a b q l LO))) : dS P C X s0 (n + 2) nt none (.range f ps a b) env D A Q :=
 L9 hf hC hn (fun q l => (h q l _ _ rfl rfl).mono (fun _ _ _ _ hq => hq.mono (fun _ _ => Az.to)))
def N3 : List Nat -> List Value -> List (Nat × Value) -> Option (List (Nat × Value))
 | [], [], e => some e
 | t :: ps, v :: vs, e => N3 ps vs ((t, v) :: e)
 | _, _, _ => none
theorem BK : ∀ {ps : List Nat} {vs : List Value} {T : BT Value} {env env' : List (Nat × Value)} {k : BT Value -> Bool}, vB nt T env -> N3 ps vs env = some env' -> ps.all (fun t => Nat.blt t nt) = true -> (∀ T', vB nt T' env' -> k T' = true) -> qP T ps vs k = true
 | [], [], T, env, env', k, hT, hz, _, hk => by cases hz; exact hk T hT
 | [], _ :: _, _, _, _, _, _, hz, _, _ => by cases hz
 | _ :: _, [], _, _, _, _, _, hz, _, _ => by cases hz
 | t :: ps, v :: vs, T, env, env', k, hT, hz, hp, hk => by
  rw [List.all_cons, Bool.and_eq_true] at hp;exact xF (k := fun T => qP T ps vs k) hT (d := some t) (v := v) hp.1 (fun T' hT' => BK hT' hz hp.2 hk)
def QJ (R : Value -> List Ob -> Prop) (LO BO : Ob) (DN : fT -> Ob) : fT -> List (Nat × Value) -> List Nat -> List Ob -> Prop
 | .normal, _, _, A => ∃ A', gS A BO LO A' /\ R (.bool true) A'
 | x, _, _, A => ∃ A', gS A BO (DN x) A' /\ R (.bool false) A'
def QK (P : Program) (C : Nat -> (CF -> Bool) -> Bool) (X : FuncId -> List Value -> St -> (Value -> St -> Bool) -> Bool) (s0 : St) (n : Nat) (R : Value -> List Ob -> Prop) (l nt : Nat) (c : CC) (LO BO : Ob) (DN : fT -> Ob) : fT -> List (Nat × Value) -> List Nat -> List Ob -> Prop
 | .normal, e, D, A => ∃ A', gS A LO BO A' /\ dS P C X s0 n nt (some l) c e D A' (QJ R LO BO DN)
 | _, _, _, _ => False
theorem gI {R : Value -> List Ob -> Prop} {f : Ev.X} {x : List Ev.X} {l ny q : Nat} {vs : List Value} {LO BO : Ob} {e0 e1 : List (Nat × Value)} {ps : List Nat} {a c : CC} (hf : xv env f = some (.func (.yield l) ⟨[]⟩ ⟨[]⟩)) (hl : xE env x = some vs) (hLO : LO = .loop l .ready .normal ny e0 ps a c q) (hBO : BO = .loop l .busy .normal ny e0 ps a c q) (h0 : LO ∈ A) (hz : N3 ps vs e0 = some e1) (hp : ps.all (fun t => Nat.blt t ny) = true)
 (h : dS P C X s0 n ny (some l) a e1 [] A (QK P C X s0 n R l ny c LO BO (fun x => .loop l .done x ny e0 ps a c q))) : eH P C X s0 n nt (.call f x) env A R := .mk fun s hs T hT k hk => by
 subst hLO hBO;refine U5 hT (k := fun f => gF T x (fun l => oV (cJ P C X n) s l f k)) hf (mJ hT (k := fun l => oV (cJ P C X n) s l _ k) hl ?_);obtain ⟨T0, h1, h2⟩ := hs.2.2.is h0;show qD s l _ = true;refine eW h1 ?_;show qP T0 ps vs (fun T => (cJ P C X n).code (some l) a T [] s (fun x T D s => gV x (Dl (cJ P C X n) l c T D s k) false (fun _ => false) (fun _ => false))) = true;refine BK h2 hz hp (fun T1 hT1 => (h.go s hs) T1 hT1 _ (fun x e T2 D2 s2 hT2 hq => ?_));obtain ⟨A2, hs2, hq⟩ := hq;cases x with
 | ret => exact hq.elim
 | exit i => exact hq.elim
 | goto i => exact hq.elim
 | normal =>
  obtain ⟨A3, hp3, hr⟩ := hq;obtain ⟨T3, h3, h4⟩ := hs2.2.2.is hp3.mem;show qD s2 l _ = true;refine eW h3 ?_;show cK s2 l (.loop .busy .normal T3 ps a c q) (fun s => (cJ P C X n).code (some l) c T2 D2 s (fun x _ _ s => I8 l x s k)) = true;refine dX hs2.wf (dC.lt hs2.wf h3) (fun s3 hm3 _ hg3 => ?_);refine (hr.go s3 (hs2.putO hp3 rfl hm3 ⟨T3, hg3, h4⟩)) T2 hT2 _ (fun x e T4 D4 s4 _ hq => ?_);obtain ⟨A4, hs4, hq⟩ := hq;have fin : ∀ {st : LoopState} {y : fT} {v : Bool}, (∃ A', gS A4 (.loop l .busy .normal ny e0 ps a c q) (.loop l st y ny e0 ps a c q) A' /\ R (.bool v) A') -> ∀ {T : BT Value}, s4.h.get l = some (.loop .busy .normal T ps a c q) -> vB ny T e0 -> cK s4 l (.loop st y T ps a c q) (k (.bool v)) = true := by
   rintro st y v ⟨A5, hp5, hr5⟩ T hg hc;exact dX hs4.wf (dC.lt hs4.wf hg) (fun s5 hm5 _ hg5 => hk _ _ ⟨A5, hs4.putO hp5 rfl hm5 ⟨T, hg5, hc⟩, hr5⟩)
  show qD s4 l _ = true;cases x with
  | normal =>
   have hq' := hq;obtain ⟨A5, hp5, _⟩ := hq';obtain ⟨T5, h5, h6⟩ := hs4.2.2.is hp5.mem;exact eW h5 (fin hq h5 h6)
  | ret =>
   have hq' := hq;obtain ⟨A5, hp5, _⟩ := hq';obtain ⟨T5, h5, h6⟩ := hs4.2.2.is hp5.mem;exact eW h5 (fin hq h5 h6)
  | exit i =>
   have hq' := hq;obtain ⟨A5, hp5, _⟩ := hq';obtain ⟨T5, h5, h6⟩ := hs4.2.2.is hp5.mem;exact eW h5 (fin hq h5 h6)
  | goto i =>
   have hq' := hq;obtain ⟨A5, hp5, _⟩ := hq';obtain ⟨T5, h5, h6⟩ := hs4.2.2.is hp5.mem;exact eW h5 (fin hq h5 h6)
end
end
end Go.Proofs.YtjkdkpckjgaplaaGreat.Ev
namespace Go.Proofs.YtjkdkpckjgaplaaGreat.Ev
open Go Go.RowKit
theorem fH {P : Program} {α β : Type} : ∀ (x : Sem α) (f : α -> Sem β), pureVal P (x >>= f) = (pureVal P x).bind fun a => pureVal P (f a) := by
 intro x f;show pureVal P (Sem.bind x f) = _
 induction x with
 | pure a => rfl
 | program k ih => simpa [Sem.bind, pureVal] using ih P
 | mark m k ih => simpa [Sem.bind, pureVal] using ih
 | _ => simp [Sem.bind, pureVal]
theorem lT {P : Program} {α : Type} (a : α) : pureVal P (pure a : Sem α) = some a := rfl
theorem AA {P : Program} : pureVal P (program : Sem Program) = some P := rfl
theorem HT {P : Program} {t : TypeId} {d : TypeDesc} (h : P.underlying t = some d) : pureVal P (underlying t) = some d := by
 unfold underlying;rw [fH, AA];show pureVal P (match P.underlying t with | some d => pure d | none => stuck "no such type") = some d;rw [h]; rfl
theorem V5 {a : Option Addr} {n c : Nat} (h : ∀ b, a = some b -> b.spot = none) : eqV (.slice a n c) (.slice a n c) = true := by
 rcases a with _ | ⟨b, o, sp⟩
 ·simp [eqV]
 ·have : sp = none := h _ rfl
  subst this; simp [eqV]
theorem FE {P : Program} {t : Nat} {x y : List Value} {r : Bool} (hf : (flatL x && flatL y) = true) (h : pureVal P (Op.equal t (.agg ⟨x⟩) (.agg ⟨y⟩)) = some r) : evBin P .eql t 5 (.agg ⟨x⟩) (.agg ⟨y⟩) = some (.bool r) := by
 have h1 : pureVal P (binOp .eql t (.agg ⟨x⟩) (.agg ⟨y⟩)) = some (.bool r) := by
  show pureVal P (Op.equal t (.agg ⟨x⟩) (.agg ⟨y⟩) >>= fun b => (pure (Value.bool b) : Sem Value)) = _;rw [fH, h]; rfl
 show evBin2 P .eql t 5 (.agg ⟨x⟩) (.agg ⟨y⟩) = _;unfold evBin2;have h2 : (flat (.agg ⟨x⟩) && flat (.agg ⟨y⟩) && noGuard 5 (.agg ⟨x⟩)) = true := by
  simp only [flat, flatA, noGuard];simp only [Bool.and_eq_true] at hf ⊢;exact ⟨hf, rfl⟩
 rw [h2, h1]; rfl
theorem BL {P : Program} {C : Nat -> (CF -> Bool) -> Bool} {X : FuncId -> List Value -> St -> (Value -> St -> Bool) -> Bool} {s0 : St} {n nt : Nat} {env : List (Nat × Value)} {A : List Ob} {R : Value -> List Ob -> Prop} {t : Nat} {x y : Ev.X} {u v : List Value} {r : Bool}
 (hx : xv env x = some (.agg ⟨u⟩)) (hy : xv env y = some (.agg ⟨v⟩)) (h : pureVal P (Op.equal t (.agg ⟨u⟩) (.agg ⟨v⟩)) = some r /\ (flatL u && flatL v) = true) (h1 : r = true -> R (.bool true) A) (h2 : r = false -> R (.bool false) A) : eH P C X s0 n nt (.bin .eql t 5 x y) env A R := by
 refine PM hx hy (FE h.2 h.1) ?_;cases r with
 | true => exact h1 rfl
 | false => exact h2 rfl
theorem fI {s0 : St} {env : List (Nat × Value)} {A A' : List Ob} {t : Nat} {Q : Value -> List Ob -> Prop} {v : Value} (ht : look env t = some v) (hs : A'.Sublist A) (hq : Q v A') : FD s0 [.tmp t] Q .ret env [] A := ⟨rfl, [v], A', ⟨v, [], rfl, ht, rfl⟩, hs, hq⟩
theorem fC {s0 : St} {env : List (Nat × Value)} {A A' : List Ob} {t u : Nat} {Q : Value -> List Ob -> Prop} {v w : Value} (ht : look env t = some v) (hu : look env u = some w) (hs : A'.Sublist A) (hq : Q (.tuple #[v, w]) A') : FD s0 [.tmp t, .tmp u] Q .ret env [] A := ⟨rfl, [v, w], A', ⟨v, [w], rfl, ht, w, [], rfl, hu, rfl⟩, hs, hq⟩
theorem pD {l : List Value} : iS l 0 l.length = some l := by
 have key : ∀ (m : List Value) (i : Nat), (∀ j, j < m.length -> l[i + j]? = m[j]?) -> iS l i m.length = some m := by
  intro m
  induction m with
  | nil => intro i _; rfl
  | cons v m ih =>
   intro i h;have h0 : l[i]? = some v := by simpa using h 0 sM
   have h1 := ih (i + 1) (fun j hj => by have := h (j + 1) (by simp; omega); rw [List.getElem?_cons_succ] at this; rw [<- this]; congr 1; omega);simp only [List.length_cons, iS, h0, h1]
 exact key l 0 (fun j _ => by rw [Nat.zero_add])
theorem iG.own {s0 : St} {A : List Ob} {size n b e : Nat} {op : Bool} {l : List Value} {c : Nat} (h : kI A b e op l) (hl : Nat.beq l.length (n * size) = true) (h0 : l ≠ []) : iG s0 A size n l (.slice (some ⟨b, 0, none⟩) n c) :=
 ⟨b, 0, c, rfl, by simpa using hl, h0, .inl ⟨e, op, l, h, pD⟩⟩
end Go.Proofs.YtjkdkpckjgaplaaGreat.Ev
namespace Go.Proofs.YtjkdkpckjgaplaaGreat.Ev
open Go Go.RowKit
noncomputable section
def ints (l : List Int) : List Value := l.map (.int .i64)
theorem bZ {l : List Int} : (ints l).length = l.length := by simp [ints]
theorem BM {l : List Int} {j : Nat} (h : j < l.length) : (ints l)[0 + j * 1]? = some (.int .i64 (l.getD j 0)) := by
 rw [Nat.zero_add, Nat.mul_one];simp [ints, List.getD_eq_getElem?_getD, h]
theorem HU {l : List Int} {j : Nat} {v : Int} : (ints l).set (0 + j * 1) (.int .i64 v) = ints (l.set j v) := by
 rw [Nat.zero_add, Nat.mul_one]; simp [ints, List.map_set]
theorem oR.get {s : St} {b : Nat} : ∀ {l : List Value} {off j : Nat} {v : Value}, oR s b off l -> l[j]? = some v -> At s b (off + j) v
 | [], _, _, _, _, h => by simp at h
 | u :: l, off, 0, v, ⟨h1, _⟩, h => by simp at h; subst h; exact h1
 | u :: l, off, j + 1, v, ⟨_, h2⟩, h => by
  have := oR.get (j := j) h2 (by simpa using h)
  rwa [show off + 1 + j = off + (j + 1) by omega] at this
structure aI (s : St) (a : Option Addr) (l : List Int) : Prop where
 spot : ∀ b, a = some b -> b.spot = none
 addr : l ≠ [] -> ∃ b o, a = some ⟨b, o, none⟩
 cells : ∀ b o, a = some ⟨b, o, none⟩ -> oR s b o (ints l)
 fit : ∀ x ∈ l, -9223372036854775808 <= x /\ x < 9223372036854775808
 len : l.length < 140737488355328
theorem aI.ext {s s' : St} {a : Option Addr} {l : List Int} (h : aI s a l) (hw : Wf s) (x : qI s s') : aI s' a l := ⟨h.spot, h.addr, fun b o ha => (h.cells b o ha).ext hw x, h.fit, h.len⟩
theorem aI.at {s : St} {a : Option Addr} {l : List Int} (h : aI s a l) {b o : Nat} (ha : a = some ⟨b, o, none⟩) {j : Nat} (hj : j < l.length) : At s b (o + j * 1) (.int .i64 (l.getD j 0)) := by
 have := BM hj;rw [Nat.zero_add] at this;exact (h.cells b o ha).get this
theorem HV {l : List Int} {j : Nat} (h : j < l.length) : l.getD j 0 ∈ l := by
 simp [List.getD_eq_getElem?_getD, h]
theorem aI.own {s : St} {b e : Nat} {op : Bool} {l : List Int} (h : Obj s b e op (ints l)) (hf : ∀ x ∈ l, -9223372036854775808 <= x /\ x < 9223372036854775808) (hl : l.length < 140737488355328) : aI s (some ⟨b, 0, none⟩) l :=
 ⟨fun c hc => by cases hc; rfl, fun _ => ⟨b, 0, rfl⟩, fun c o hc => by cases hc; exact h.all, hf, hl⟩
theorem aI.nil {s : St} : aI s none [] := ⟨fun c hc => (by cases hc), fun h => absurd rfl h, fun c o hc => (by cases hc), fun x hx => (by cases hx), sM⟩
theorem aI.take {s : St} {a : Option Addr} {l : List Int} (h : aI s a l) (k : Nat) : aI s a (l.take k) := by
 refine ⟨h.spot, fun hn => h.addr (by rintro rfl; simp at hn), fun b o ha => ?_, fun x hx => h.fit x (List.mem_of_mem_take hx), (by have := h.len; rw [List.length_take]; omega)⟩;have key : ∀ {l : List Value} {off k : Nat}, oR s b off l -> oR s b off (l.take k) := by
  intro l
  induction l with
  | nil => intro off k h; simpa using h
  | cons v l ih =>
   intro off k h;cases k with
   | zero => exact trivial
   | succ k => exact ⟨h.1, ih h.2⟩
 have := key (k := k) (h.cells b o ha);simpa [ints, List.map_take] using this
section
variable {P : Program} {C : Nat -> (CF -> Bool) -> Bool} {X : FuncId -> List Value -> St -> (Value -> St -> Bool) -> Bool} {s0 : St} {n nt : Nat} {env : List (Nat × Value)} {A : List Ob} {R : Value -> List Ob -> Prop}
theorem Q7 {x i : Ev.X} {a : Option Addr} {l : List Int} {m c j : Nat} {ik : IntKind} {z : Int} (hl : aI s0 a l) (hx : xv env x = some (.slice a m c)) (hi : xv env i = some (.int ik z)) (hz : z = (j : Int)) (hm : m = l.length) (hj : j < l.length) (h : ∀ b o, a = some ⟨b, o, none⟩ -> R (.pointer (some ⟨b, o + j * 1, none⟩)) A) : eH P C X s0 n nt (.ia x i 1) env A R := by
 obtain ⟨b, o, ha⟩ := hl.addr (by rintro rfl; simp at hj);subst ha;exact Z3 hx hi hz oM (h b o rfl)
theorem mP {a : Ev.X} {b e j : Nat} {op : Bool} {l : List Int} (ha : xv env a = some (.pointer (some ⟨b, 0 + j * 1, none⟩))) (ho : kI A b e op (ints l)) (hj : j < l.length) (h : R (.int .i64 (l.getD j 0)) A) : eH P C X s0 n nt (.ld a none) env A R := Y1 ha ho (BM hj) h
theorem Q5 {a : Ev.X} {b e j : Nat} {op : Bool} {l : List Int} {x : Int} (ha : xv env a = some (.pointer (some ⟨b, 0 + j * 1, none⟩))) (ho : kI A b e op (ints l)) (hj : j < l.length) (hx : l.getD j 0 = x) (h : R (.int .i64 x) A) : eH P C X s0 n nt (.ld a none) env A R := mP ha ho hj (by rw [hx]; exact h)
theorem getD_set_ne {l : List Int} {i j : Nat} {v : Int} (h : i ≠ j) : (l.set i v).getD j 0 = l.getD j 0 := by
 simp [List.getD_eq_getElem?_getD, List.getElem?_set, h]
theorem W7 {a x : Ev.X} {b e j : Nat} {op : Bool} {l : List Int} {v : Int} {A' : List Ob} (ha : xv env a = some (.pointer (some ⟨b, 0 + j * 1, none⟩))) (hx : xv env x = some (.int .i64 v)) (hu : mL A b e op (ints l) (ints (l.set j v)) A') (hj : j < l.length) (h : R undef A') : eH P C X s0 n nt (.st a x none) env A R :=
 cX ha hx (by rw [HU]; exact hu) (by rw [bZ, Nat.zero_add, Nat.mul_one]; simpa using hj) J h
theorem MU {v : Value} : ∀ {n : Nat}, repeatN [v] n = List.replicate n v
 | 0 => rfl
 | n + 1 => by
  show [v] ++ repeatN [v] n = _;rw [MU]; rfl
theorem AB {f : Ev.X} {ls : List Ev.X} {g : Nat} {pp c vs : List Value} {t : Bool} (hf : xv env f = some (.func (.func g) ⟨pp⟩ ⟨c⟩)) (hl : xE env ls = some vs) (hg : ∀ s, fY s0 A s -> bW P C X n g (pp ++ (vs ++ c)) s (fun v A' => v = .bool t /\ A' = [])) (h1 : t = true -> R (.bool true) A) (h2 : t = false -> R (.bool false) A) : eH P C X s0 n nt (.call f ls) env A R :=
 Z4 hf hl hg (fun v A' hq => by
  obtain ⟨rfl, rfl⟩ := hq;cases t with
  | true => exact h1 rfl
  | false => exact h2 rfl)
theorem CW {t d : Nat} {x y : Ev.X} {a b q : Int} (hx : xv env x = some (.int .i64 a)) (hy : xv env y = some (.int .i64 b)) (h0 : b ≠ 0) (hq : a.tdiv b = q) (hr : -9223372036854775808 <= q /\ q < 9223372036854775808) (h : R (.int .i64 q) A) : eH P C X s0 n nt (.bin .quo t d x y) env A R :=
 qK hx hy h0 (by rw [hq]; exact hr) (by rw [hq]; exact h)
theorem FF {rw : Nat -> Option (Nat × Nat × Bool)} {e b o m c h : Nat} (hh : h <= c) (hc : c < OPEN) : evSlc rw e 1 (.slice (some ⟨b, o, none⟩) m c) none (some (.int .i64 (h : Int))) none = some (.slice (some ⟨b, o, none⟩) h c) := by
 show sel (Nat.ble OPEN c) _ (sel (Nat.ble h c) (evSlcAt b o m c 1 0 h none) none) = _;rw [show Nat.ble OPEN c = false from by
  cases hb : Nat.ble OPEN c with
  | false => rfl
  | true => rw [Nat.ble_eq] at hb; omega, show Nat.ble h c = true from by rw [Nat.ble_eq]; exact hh]
 show sel (Nat.ble 0 h) (some (Value.slice (some ⟨b, sel (Nat.beq c 0) o (o + 0 * 1), none⟩) (h - 0) (c - 0))) none = _;rw [show Nat.ble 0 h = true from by rw [Nat.ble_eq]; exact Nat.zero_le _];cases Nat.beq c 0 <;> simp [sel]
theorem CX {e bytes m c : Nat} {v : Value} {x y : Ev.X} (hx : xv env x = some (.int .i64 (m : Int))) (hy : xv env y = some (.int .i64 (c : Int))) (hc : m <= c) (hb1 : c <= 1048576) (hb2 : bytes * c <= 1073741824)
 (h : ∀ b, R (.slice (some ⟨b, 0, none⟩) m c) (.row b e false (List.replicate c v) :: A)) : eH P C X s0 n nt (.mks e 1 bytes [v] x y) env A R := .mk fun s hs T hT k hk => by
 refine U5 hT (k := fun l => bF T y (fun c => Be s e 1 bytes [v] l c k)) hx (U5 hT (k := fun c => Be s e 1 bytes [v] _ c k) hy ?_);show ifB true (ifB true (ifB (Nat.ble m c) (ifB (Nat.ble c 1048576) (ifB (Nat.ble (Nat.mul bytes c) 1073741824) (eB .leaf 0 (repeatN [v] c) _) false) false) false) false) false = true;rw [show Nat.ble m c = true from by rw [Nat.ble_eq]; exact hc, show Nat.ble c 1048576 = true from by rw [Nat.ble_eq]; exact hb1, show Nat.ble (Nat.mul bytes c) 1073741824 = true from by rw [Nat.ble_eq]; exact hb2];show eB .leaf 0 (repeatN [v] c) _ = true;rw [MU];refine iA (fun t ht hg => lF ?_);rw [bB];exact fX (l := List.replicate c v) sM hs.wf ht hg (fun s' xx _ ho => hk _ _ ⟨_, hs.new xx ho, h s.n⟩)
theorem HW {c : Nat} : List.replicate c (Value.int .i64 0) = ints (List.replicate c 0) := by simp [ints]
theorem CY {e bytes m c : Nat} {x y : Ev.X} (hx : xv env x = some (.int .i64 (m : Int))) (hy : xv env y = some (.int .i64 (c : Int))) (hc : m <= c) (hb1 : c <= 1048576) (hb2 : bytes * c <= 1073741824)
 (h : ∀ b, R (.slice (some ⟨b, 0, none⟩) m c) (.row b e false (ints (List.replicate c 0)) :: A)) : eH P C X s0 n nt (.mks e 1 bytes [.int .i64 0] x y) env A R :=
 CX hx hy hc hb1 hb2 (by rw [HW]; exact h)
theorem HX {e size bytes b len cap m : Nat} {z more l : List Value} {x y : Ev.X} {yv : Value} {A' : List Ob} (hx : xv env x = some (.slice (some ⟨b, 0, none⟩) len cap)) (hy : xv env y = some yv) (hsrc : iG s0 A size m more yv) (hu : mL A b e false l (over l (len * size) more) A') (hl : l.length = cap * size) (hle : len + m <= cap) (hcap : cap < OPEN) (hb1 : len + m <= 1048576) (hb2 : bytes * (len + m) <= 1073741824)
 (h : R (.slice (some ⟨b, 0, none⟩) (len + m) cap) A') : eH P C X s0 n nt (.app e size bytes z false x y) env A R := .mk fun s hs T hT k hk => by
 refine U5 hT (k := fun x => bF T y (fun y => jC s e size bytes z false x y k)) hx (U5 hT (k := fun y => jC s e size bytes z false _ y k) hy ?_);unfold jC;refine pC hs hsrc ?_;obtain ⟨_, _, _, _, hml, hm0, _⟩ := hsrc;have hm00 : m ≠ 0 := fun e => hm0 (List.eq_nil_of_length_eq_zero (by rw [hml, e, Nat.zero_mul]))
 show ifB (Nat.beq cap 0) _ (ifB (Nat.ble (Nat.add len m) 1048576) (ifB (Nat.ble (Nat.mul bytes (Nat.add len m)) 1073741824) (eG s e size b 0 len cap m more k) false) false) = true;rw [xD (show cap ≠ 0 from oM)];show ifB (Nat.ble (Nat.add len m) 1048576) (ifB (Nat.ble (Nat.mul bytes (Nat.add len m)) 1073741824) (eG s e size b 0 len cap m more k) false) false = true;rw [show Nat.ble (Nat.add len m) 1048576 = true from by rw [Nat.ble_eq]; exact hb1, show Nat.ble (Nat.mul bytes (Nat.add len m)) 1073741824 = true from by rw [Nat.ble_eq]; exact hb2];show eG s e size b 0 len cap m more k = true;obtain ⟨c, hc, hf, hg⟩ := hs.own hu.own;unfold eG;refine eW (k := _) hc ?_;have hfit : (len + m) * size <= l.length := by rw [hl]; exact Nat.mul_le_mul_right _ hle
 have hfit2 : len * size + more.length <= l.length := by rw [hml, <- Nat.add_mul]; exact hfit
 show ifB (Nat.beq e e) (ifB (Nat.ble OPEN cap) _ (ifB (Nat.ble (Nat.add len m) cap) (ifB (Nat.ble (Nat.add 0 (Nat.mul (Nat.add len m) size)) l.length) (dT c (Nat.add 0 (Nat.mul len size)) more _) false) _)) false = true;rw [show Nat.beq e e = true from by rw [Nat.beq_eq], show Nat.ble OPEN cap = false from by
  cases hb : Nat.ble OPEN cap with
  | false => rfl
  | true => rw [Nat.ble_eq] at hb; omega, show Nat.ble (Nat.add len m) cap = true from by rw [Nat.ble_eq]; exact hle, show Nat.ble (Nat.add 0 (Nat.mul (Nat.add len m) size)) l.length = true from by rw [Nat.ble_eq]; show 0 + (len + m) * size <= l.length; omega]
 show dT c (Nat.add 0 (Nat.mul len size)) more _ = true;rw [show Nat.add 0 (Nat.mul len size) = len * size from Nat.zero_add _];refine kB hf hfit2 (fun c' hc' hg' => dX hs.wf (dC.lt hs.wf hc) (fun s1 hm1 hn1 hd1 => ?_));rw [bB];have hol : (over l (len * size) more).length = l.length := kC hfit2;refine hk _ _ ⟨_, hs.upd hu hm1 ⟨c', by rw [hol]; exact hd1, by rw [hol]; exact hc', fun j => ?_⟩, h⟩;rw [hg', mI hfit2];by_cases h1 : len * size <= j /\ j < len * size + more.length
 ·rw [if_pos h1, if_pos h1]
 ·rw [if_neg h1, if_neg h1, hg]
end
theorem kI.app {T A : List Ob} {b e : Nat} {op : Bool} {l : List Value} (h : kI A b e op l) : kI (T ++ A) b e op l := by
 induction T with
 | nil => exact h
 | cons x T ih => exact .next ih
theorem mL.app {T A A' : List Ob} {b e : Nat} {op : Bool} {l l' : List Value} (h : mL A b e op l l' A') : mL (T ++ A) b e op l l' (T ++ A') := by
 induction T with
 | nil => exact h
 | cons x T ih => exact .next ih
end
end Go.Proofs.YtjkdkpckjgaplaaGreat.Ev
namespace Go.Proofs.YtjkdkpckjgaplaaGreat.Ev
open Go Go.RowKit
section
variable {P : Program} {C : Nat -> (CF -> Bool) -> Bool} {X : FuncId -> List Value -> St -> (Value -> St -> Bool) -> Bool} {s0 : St} {n nt : Nat} {r : Option Nat} {env : List (Nat × Value)} {D : List Nat} {A : List Ob}
section
variable {Q : List (Nat × Value) -> List Ob -> Prop} {d : Nat} {l : List Item}
theorem kO {c : COp} (hd : JG (some d) nt = true) (h : eH P C X s0 n nt c env A (fun v A' => zM P C X s0 n nt l ((d, v) :: env) A' Q)) : zM P C X s0 n nt (⟨none, some d, c⟩ :: l) env A Q := NU h rfl hd
theorem kM {x : Ev.X} {v : Value} (hx : xv env x = some v) (hd : JG (some d) nt = true) (h : zM P C X s0 n nt l ((d, v) :: env) A Q) : zM P C X s0 n nt (⟨none, some d, .mov x⟩ :: l) env A Q := NU (U2 hx h) J hd
theorem kG {g : Option (Nat × Bool)} {c : COp} (hg : mK env g = some true) (hd : JG (some d) nt = true) (h : eH P C X s0 n nt c env A (fun v A' => zM P C X s0 n nt l ((d, v) :: env) A' Q)) : zM P C X s0 n nt (⟨g, some d, c⟩ :: l) env A Q := NU h hg hd
theorem kZ {g : Option (Nat × Bool)} {c : COp} (hg : mK env g = some true) (h : eH P C X s0 n nt c env A (fun _ A' => zM P C X s0 n nt l env A' Q)) : zM P C X s0 n nt (⟨g, none, c⟩ :: l) env A Q := PL h hg
end
variable {Q : fT -> List (Nat × Value) -> List Nat -> List Ob -> Prop}
theorem rS {l : List Item} {b : CC} (h : zM P C X s0 n nt l env A (fun e A => dS P C X s0 (n + 1) nt r b e D A Q)) : dS P C X s0 (n + 2) nt r (.seq (.items l) b) env D A Q := MQ (DF h)
theorem rI {l : List Item} (h : zM P C X s0 n nt l env A (fun e A => Q .normal e D A)) : dS P C X s0 (n + 1) nt r (.items l) env D A Q := DF h
theorem rQ {a b : CC} (h : dS P C X s0 n nt r a env D A (uS (fun e D A => dS P C X s0 n nt r b e D A Q) Q)) : dS P C X s0 (n + 1) nt r (.seq a b) env D A Q := MQ h
theorem lc {env' : List (Nat × Value)} (t : Nat) {v : Value} (h1 : look env t = some v) (h : gH env env') : gH env ((t, v) :: env') := gH.cons h1 h
def QL (e : List (Nat × Value)) : List (Nat × Value) -> List (Option Value)
 | [] => []
 | p :: r => look e p.1 :: QL e r
def QM : List (Nat × Value) -> List (Option Value)
 | [] => []
 | p :: r => some p.2 :: QM r
theorem Rc {e : List (Nat × Value)} : ∀ {r : List (Nat × Value)}, QL e r = QM r -> gH e r
 | [], _ => gH.nil
 | (_, _) :: _, h => gH.cons (List.cons.inj h).1 (Rc (List.cons.inj h).2)
theorem lL {e r : List (Nat × Value)} (h : QL e r = QM r := by exact rfl) : gH e r := Rc h
def qL (s : St) (a : Option Addr) (n c : Nat) : Prop := (c < OPEN /\ n <= c) ∨ (c = OPEN /\ ∃ b t m, a = some ⟨b, 0, none⟩ /\ s.h.get b = some (.cells m t 3 true) /\ n <= m)
theorem qL.ext {s s' : St} {a : Option Addr} {n c : Nat} (h : qL s a n c) (hw : Wf s) (x : qI s s') : qL s' a n c := by
 rcases h with h | ⟨h1, b, t, m, h2, h3, h4⟩
 ·exact .inl h
 ·exact .inr ⟨h1, b, t, m, h2, by rw [x.2.2 b (dC.lt hw h3)]; exact h3, h4⟩
theorem qL.own {s : St} {b n : Nat} {l : List Value} (h : Obj s b 3 true l) (hn : n <= l.length) : qL s (some ⟨b, 0, none⟩) n OPEN := by
 obtain ⟨c, h1, _⟩ := h;exact .inr ⟨rfl, b, c, l.length, rfl, h1, hn⟩
theorem BN {rw : Nat -> Option (Nat × Nat × Bool)} {b n h k : Nat} (hr : rw b = some (k, 3, true)) (hk : h <= k) : evSlc rw 3 1 (.slice (some ⟨b, 0, none⟩) n OPEN) none (some (.int .i64 (h : Int))) none = some (.slice (some ⟨b, 0, none⟩) h OPEN) := by
 show sel (Nat.ble OPEN OPEN) (match rw b with
  | some (k, e', op) => sel (op && Nat.beq 3 e' && Nat.beq 0 ((OPEN - OPEN) * 1) && !Nat.beq 1 0 && (Nat.beq OPEN OPEN || !Nat.beq n 0)) (evSlcOpen b 1 0 h k (OPEN - OPEN) none) none
  | none => none) (sel (Nat.ble h OPEN) (evSlcAt b 0 n OPEN 1 0 h none) none) = _
 rw [hr, show Nat.ble OPEN OPEN = true from by rw [Nat.ble_eq]; exact Nat.le_refl _];show sel (true && Nat.beq 3 3 && Nat.beq 0 ((OPEN - OPEN) * 1) && !Nat.beq 1 0 && (Nat.beq OPEN OPEN || !Nat.beq n 0)) (evSlcOpen b 1 0 h k (OPEN - OPEN) none) none = _;rw [Nat.sub_self, show Nat.beq OPEN OPEN = true from by rw [Nat.beq_eq]];show sel (Nat.ble 0 h && Nat.ble ((0 + h) * 1) k) (some (Value.slice (some ⟨b, (0 + 0) * 1, none⟩) (h - 0) (OPEN + (0 + 0)))) none = _;rw [show Nat.ble 0 h = true from by rw [Nat.ble_eq]; exact Nat.zero_le _, show Nat.ble ((0 + h) * 1) k = true from by rw [Nat.ble_eq]; omega];rfl
theorem Ma {s0 s : St} {a : Option Addr} {b o n c h : Nat} (hw : Wf s0) (x : qI s0 s) (ha : a = some ⟨b, o, none⟩) (hc : qL s0 a n c) (hh : h <= n) : evSlc (iI s) 3 1 (.slice (some ⟨b, o, none⟩) n c) none (some (.int .i64 (h : Int))) none = some (.slice (some ⟨b, o, none⟩) h c) := by
 rcases hc with ⟨h1, h2⟩ | ⟨h1, b', t, m, h2, h3, h4⟩
 ·exact FF oM h1
 ·subst h1
  rw [ha] at h2;cases h2;refine BN (k := m) ?_ oM;unfold iI;rw [x.2.2 b (dC.lt hw h3), h3]
theorem N4 {R : Value -> List Ob -> Prop} {x hi : Ev.X} {a : Option Addr} {l : List Int} {c h : Nat} {z : Int} (hl : aI s0 a l) (hx : xv env x = some (.slice a l.length c)) (hi' : xv env hi = some (.int .i64 z)) (hz : z = (h : Int)) (h0 : 0 < l.length) (hh : h <= l.length) (hc : qL s0 a l.length c) (hR : R (.slice a h c) A) : eH P C X s0 n nt (.slc 3 1 x none (some hi) none) env A R := .mk fun s hs T hT k hk => by
 subst hz;obtain ⟨b, o, ha⟩ := hl.addr (by rintro rfl; simp at h0);have e := Ma hs.1 hs.2.1 ha hc hh;subst ha;refine U5 hT (k := fun x => dJ T none (fun lo => dJ T (some hi) (fun hi => dJ T none (fun mx => kE s 3 1 x lo hi mx (vK s k))))) hx ?_;refine U5 hT (k := fun v => kE s 3 1 _ none (some v) none (vK s k)) hi' ?_;unfold kE;rw [e];show dV (Value.slice (some ⟨b, o, none⟩) h c) (vK s k) = true;rw [cL];exact hk _ _ ⟨A, hs, hR⟩
theorem bK {R : Value -> List Ob -> Prop} {x i : Ev.X} {a : Option Addr} {b o m c j size : Nat} {ik : IntKind} {z : Int} (ha : a = some ⟨b, o, none⟩) (hx : xv env x = some (.slice a m c)) (hi : xv env i = some (.int ik z)) (hz : z = (j : Int)) (hj : j < m) (h : R (.pointer (some ⟨b, o + j * size, none⟩)) A) : eH P C X s0 n nt (.ia x i size) env A R := by
 subst ha; exact Z3 hx hi hz hj h
theorem HY {R : Value -> List Ob -> Prop} {e size bytes b len : Nat} {z l : List Value} {x y : Ev.X} {A' : List Ob} (hx : xv env x = some (.slice (some ⟨b, 0, none⟩) len OPEN)) (hy : xv env y = some (.slice none 0 0)) (hu : mL A b e true l l A') (hl : l.length = len * size) (hb1 : len <= 1048576) (hb2 : bytes * len <= 1073741824)
 (h : R (.slice (some ⟨b, 0, none⟩) len OPEN) A') : eH P C X s0 n nt (.app e size bytes z false x y) env A R := .mk fun s hs T hT k hk => by
 refine U5 hT (k := fun x => bF T y (fun y => jC s e size bytes z false x y k)) hx (U5 hT (k := fun y => jC s e size bytes z false _ y k) hy ?_);unfold jC;show ifB (Nat.ble (Nat.add len 0) 1048576) (ifB (Nat.ble (Nat.mul bytes (Nat.add len 0)) 1073741824) (eG s e size b 0 len OPEN 0 [] k) false) false = true;rw [show Nat.ble (Nat.add len 0) 1048576 = true from by rw [Nat.ble_eq]; exact hb1, show Nat.ble (Nat.mul bytes (Nat.add len 0)) 1073741824 = true from by rw [Nat.ble_eq]; exact hb2];show eG s e size b 0 len OPEN 0 [] k = true;obtain ⟨c, hc, hf, hg⟩ := hs.own hu.own;unfold eG;refine eW (k := _) hc ?_;show ifB (Nat.beq e e) (ifB (Nat.ble OPEN OPEN) (ifB true (ifB (Nat.beq 0 0) (ifB (Nat.beq OPEN OPEN) (ifB (Nat.ble (Nat.mul (Nat.add len 0) size) l.length) _ _) false) false) false) _) false = true;rw [show Nat.beq e e = true from by rw [Nat.beq_eq], show Nat.ble OPEN OPEN = true from by rw [Nat.ble_eq]; exact Nat.le_refl _, show Nat.beq 0 0 = true from rfl, show Nat.beq OPEN OPEN = true from by rw [Nat.beq_eq], show Nat.ble (Nat.mul (Nat.add len 0) size) l.length = true from by rw [Nat.ble_eq, hl]; exact Nat.le_refl _];show cK s b (dK.cells l.length c e true) (fun s => cI (Nat.add len 0) (fun l => k (Value.slice (some ⟨b, 0, none⟩) l OPEN) s)) = true;refine dX hs.wf (dC.lt hs.wf hc) (fun s1 hm hn1 hd1 => ?_);rw [bB];exact hk _ _ ⟨_, hs.upd hu hm ⟨c, hd1, hf, hg⟩, h⟩
def HZ (s : St) (e : Nat) (a : Option Addr) (n c : Nat) : Prop := (a = none /\ n = 0 /\ c = 0) ∨ ∃ b o, a = some ⟨b, o, none⟩ /\ (c < OPEN ∨ (c = OPEN /\ o = 0 /\ ∃ t m, s.h.get b = some (.cells m t e true)))
theorem HZ.ext {s s' : St} {e : Nat} {a : Option Addr} {n c : Nat} (h : HZ s e a n c) (hw : Wf s) (x : qI s s') : HZ s' e a n c := by
 rcases h with h | ⟨b, o, h1, h2⟩
 ·exact .inl h
 ·refine .inr ⟨b, o, h1, ?_⟩
  rcases h2 with h2 | ⟨h2, h3, t, m, h4⟩
  ·exact .inl h2
  ·exact .inr ⟨h2, h3, t, m, by rw [x.2.2 b (dC.lt hw h4)]; exact h4⟩
theorem H0 {R : Value -> List Ob -> Prop} {e size bytes m : Nat} {z more : List Value} {x y : Ev.X} {a : Option Addr} {yv : Value} (hx : xv env x = some (.slice a 0 0)) (hsp : ∀ b, a = some b -> b.spot = none) (hy : xv env y = some yv) (hsrc : iG s0 A size m more yv) (hm : m ≠ 0) (hb1 : m <= 1048576) (hb2 : bytes * m <= 1073741824)
 (h : ∀ b, R (.slice (some ⟨b, 0, none⟩) m OPEN) (.row b e true more :: A)) : eH P C X s0 n nt (.app e size bytes z false x y) env A R := by
 cases a with
 | none => exact jP hx hy hsrc hm hb1 hb2 h
 | some a =>
  obtain ⟨b, o, sp⟩ := a;have : sp = none := hsp _ rfl;subst this;refine .mk fun s hs T hT k hk => ?_
  refine U5 hT (k := fun x => bF T y (fun y => jC s e size bytes z false x y k)) hx (U5 hT (k := fun y => jC s e size bytes z false _ y k) hy ?_);unfold jC;refine pC hs hsrc ?_;obtain ⟨_, _, _, _, hml, _⟩ := hsrc;show ifB (Nat.beq m 0) _ (ifB (Nat.ble m 1048576) (ifB (Nat.ble (Nat.mul bytes m) 1073741824) _ false) false) = true;rw [xD hm, show Nat.ble m 1048576 = true from by rw [Nat.ble_eq]; exact hb1, show Nat.ble (Nat.mul bytes m) 1073741824 = true from by rw [Nat.ble_eq]; exact hb2];show eB .leaf 0 more _ = true;refine iA (fun c hc hg => lF ?_);rw [bB];exact fX (l := more) hml.symm hs.wf hc hg (fun s' xx _ ho => hk _ _ ⟨_, hs.new xx ho, h s.n⟩)
theorem Mb {R : Value -> List Ob -> Prop} {e size bytes c : Nat} {z : List Value} {x y : Ev.X} {a a' : Option Addr} (hx : xv env x = some (.slice a 0 0)) (hsp : ∀ b, a = some b -> b.spot = none) (hy : xv env y = some (.slice a' 0 c)) (hsp' : ∀ b, a' = some b -> b.spot = none)
 (h : R (.slice a 0 0) A) : eH P C X s0 n nt (.app e size bytes z false x y) env A R := .mk fun s hs T hT k hk => by
 refine U5 hT (k := fun x => bF T y (fun y => jC s e size bytes z false x y k)) hx (U5 hT (k := fun y => jC s e size bytes z false _ y k) hy ?_);unfold jC;have hmore : ∀ K' : Nat -> List Value -> Bool, Dh s size z false (.slice a' 0 c) K' = K' 0 [] := fun K' => by
  cases a' with
  | none => rfl
  | some q =>
   obtain ⟨b, o, sp⟩ := q;have : sp = none := hsp' _ rfl;subst this;rfl
 rw [hmore];cases a with
 | none => exact hk _ _ ⟨A, hs, h⟩
 | some q =>
  obtain ⟨b, o, sp⟩ := q;have : sp = none := hsp _ rfl;subst this;exact hk _ _ ⟨A, hs, h⟩
end
end Go.Proofs.YtjkdkpckjgaplaaGreat.Ev
namespace Go.Proofs.YtjkdkpckjgaplaaGreat
open Go Go.RowKit
namespace Ev
def sI (lo hi : Int) (l : List Int) : Bool := l.all fun x => decide (lo <= x /\ x <= hi)
theorem Eo {lo hi : Int} {l : List Int} {k : Nat} (hk : k < l.length) : sI lo hi (l.drop k) = (decide (lo <= l.getD k 0 /\ l.getD k 0 <= hi) && sI lo hi (l.drop (k + 1))) := by
 rw [List.drop_eq_getElem_cons hk, List.getD_eq_getElem?_getD, List.getElem?_eq_getElem hk]; rfl
theorem nQ {lo hi : Int} {l : List Int} {k : Nat} (hk : k < l.length) (hi' : sI lo hi l = sI lo hi (l.drop k)) (h : ¬ (lo <= l.getD k 0 /\ l.getD k 0 <= hi)) : sI lo hi l = false := by
 rw [hi', Eo hk, decide_eq_false h]; rfl
theorem AC {lo hi : Int} {l : List Int} {k : Nat} (hk : k < l.length) (hi' : sI lo hi l = sI lo hi (l.drop k)) (h : lo <= l.getD k 0 /\ l.getD k 0 <= hi) : sI lo hi l = sI lo hi (l.drop (k + 1)) := by
 rw [hi', Eo hk, decide_eq_true h]; rfl
theorem nS {lo hi : Int} {l : List Int} {k : Nat} (hi' : sI lo hi l = sI lo hi (l.drop k)) (hk : l.length <= k) : sI lo hi l = true := by
 rw [hi', List.drop_eq_nil_of_le hk]; rfl
theorem N5 {lo hi : Int} {l : List Int} (h : sI lo hi l = true) {k : Nat} (hk : k < l.length) : lo <= l.getD k 0 /\ l.getD k 0 <= hi := by
 have := List.all_eq_true.1 h _ (HV hk);simpa using this
def jD : List Int -> Bool
 | a :: b :: l => decide (a < b) && jD (b :: l)
 | _ => true
theorem pE {l : List Int} {k : Nat} (hk : k + 1 < l.length) : jD (l.drop k) = (decide (l.getD k 0 < l.getD (k + 1) 0) && jD (l.drop (k + 1))) := by
 rw [List.drop_eq_getElem_cons (show k < l.length from oM), List.drop_eq_getElem_cons hk, List.getD_eq_getElem?_getD, List.getD_eq_getElem?_getD, List.getElem?_eq_getElem (show k < l.length from oM), List.getElem?_eq_getElem hk]; rfl
theorem iU {l : List Int} {k : Nat} (hk : k + 1 < l.length) (hi : jD l = jD (l.drop k)) (h : ¬ l.getD k 0 < l.getD (k + 1) 0) : jD l = false := by
 rw [hi, pE hk, decide_eq_false h]; rfl
theorem xP {l : List Int} {k : Nat} (hk : k + 1 < l.length) (hi : jD l = jD (l.drop k)) (h : l.getD k 0 < l.getD (k + 1) 0) : jD l = jD (l.drop (k + 1)) := by
 rw [hi, pE hk, decide_eq_true h]; rfl
theorem iV {l : List Int} {k : Nat} (hi : jD l = jD (l.drop k)) (hk : l.length <= k + 1) : jD l = true := by
 rw [hi];by_cases h : k < l.length
 ·rw [List.drop_eq_getElem_cons h, List.drop_eq_nil_of_le oM]; rfl
 ·rw [List.drop_eq_nil_of_le oM]; rfl
theorem Ep {l : List Int} (h : jD l = true) : ∀ {k : Nat}, k + 1 < l.length -> jD (l.drop k) = true /\ l.getD k 0 < l.getD (k + 1) 0
 | 0, hk => by
  have h0 : jD (l.drop 0) = true := h;refine ⟨h0, ?_⟩;rw [pE hk, Bool.and_eq_true] at h0;exact of_decide_eq_true h0.1
 | k + 1, hk => by
  have h1 := (Ep h (k := k) oM).1;rw [pE oM, Bool.and_eq_true] at h1;have h2 := h1.2;refine ⟨h2, ?_⟩;rw [pE hk, Bool.and_eq_true] at h2;exact of_decide_eq_true h2.1
def eX (m : Int) (hi : Int) (l : List Int) : Bool := decide (2 <= (l.length : Int) /\ (l.length : Int) <= m) && sI 0 hi l && jD l
theorem gM {m hi : Int} {l : List Int} (h : ¬ (2 <= (l.length : Int) /\ (l.length : Int) <= m)) : eX m hi l = false := by
 unfold eX; rw [decide_eq_false h]; rfl
theorem gN {m hi : Int} {l : List Int} (h : sI 0 hi l = false) : eX m hi l = false := by
 unfold eX; rw [h]; simp
theorem iW {m hi : Int} {l : List Int} (h : jD l = false) : eX m hi l = false := by
 unfold eX; rw [h]; simp
theorem gO {m hi : Int} {l : List Int} (h : 2 <= (l.length : Int) /\ (l.length : Int) <= m) (h2 : sI 0 hi l = true) (h3 : jD l = true) : eX m hi l = true := by
 unfold eX; rw [decide_eq_true h, h2, h3]; rfl
structure FY (m : Int) (hi : Int) (l : List Int) : Prop where
 h2 : 2 <= l.length
 hm : (l.length : Int) <= m
 lo : ∀ k, 0 <= l.getD k 0 /\ l.getD k 0 <= hi
 rise : ∀ k, k + 1 < l.length -> l.getD k 0 < l.getD (k + 1) 0
theorem AD {m hi : Int} {l : List Int} (h0 : 0 <= hi) (h : eX m hi l = true) : FY m hi l := by
 unfold eX at h;rw [Bool.and_eq_true, Bool.and_eq_true] at h;obtain ⟨⟨h1, h2⟩, h3⟩ := h;have h1 := of_decide_eq_true h1;refine ⟨oM, h1.2, fun k => ?_, fun k hk => (Ep h3 hk).2⟩;by_cases hk : k < l.length
 ·exact N5 h2 hk
 ·rw [List.getD_eq_getElem?_getD, List.getElem?_eq_none oM]; exact ⟨Int.le_refl _, h0⟩
section
variable {X : FuncId -> List Value -> St -> (Value -> St -> Bool) -> Bool}
theorem fR (n : Nat) (x lo hi : Int) (s : St) (hs : Wf s) : bW Tryz.prog (cA cH) X (n + 20) 52 [.int .i64 x, .int .i64 lo, .int .i64 hi] s (fun v A => v = .bool (decide (lo <= x /\ x <= hi)) /\ A = []) := by
 refine enter LK rfl hs ?_;unfold KC;refine rS (kM J J (Q0 (rS (kM J J (kM J J (kO J (fG J J (fun h1 => ?_) (fun h1 => ?_))))))))
 ·refine kM J J (kG J J (U2 J (kG J J (U2 J (kG J J (fG J J (fun h2 => ?_) (fun h2 => ?_)))))))
  ·refine kO J (W2 J J J (kM J J (Q0 (V2 (aV J ⟨congrArg Value.bool ?_, rfl⟩)))))
   first | exact (decide_eq_true oM).symm | exact (decide_eq_false oM).symm
  ·refine kO J (W2 J J J (kM J J (Q0 (V2 (aV J ⟨congrArg Value.bool ?_, rfl⟩)))))
   first | exact (decide_eq_true oM).symm | exact (decide_eq_false oM).symm
 ·refine kM J J (V0 J J (V0 J J (V0 J J (kO J (U1 J J J (kM J J (Q0 (V2 (aV J ⟨congrArg Value.bool ?_, rfl⟩)))))))))
  first | exact (decide_eq_true oM).symm | exact (decide_eq_false oM).symm
theorem qW (n : Nat) (x lo hi : Int) (s : St) (hs : Wf s) : bW Tryz.prog (cA cH) X (n + 20) 48 [.int .i64 x, .int .i64 lo, .int .i64 hi] s (fun v A => v = .bool (decide (lo <= x /\ x <= hi)) /\ A = []) := by
 refine enter LG rfl hs ?_;unfold Ku;refine rS (kM J J (Q0 (rS (kM J J (kM J J (kO J (zO J J (fun h1 => ?_) (fun h1 => ?_))))))))
 ·refine kM J J (kG J J (U2 J (kG J J (U2 J (kG J J (fG J J (fun h2 => ?_) (fun h2 => ?_)))))))
  ·refine kO J (W2 J J J (kM J J (Q0 (V2 (aV J ⟨congrArg Value.bool ?_, rfl⟩)))))
   first | exact (decide_eq_true oM).symm | exact (decide_eq_false oM).symm
  ·refine kO J (W2 J J J (kM J J (Q0 (V2 (aV J ⟨congrArg Value.bool ?_, rfl⟩)))))
   first | exact (decide_eq_true oM).symm | exact (decide_eq_false oM).symm
 ·refine kM J J (V0 J J (V0 J J (V0 J J (kO J (U1 J J J (kM J J (Q0 (V2 (aV J ⟨congrArg Value.bool ?_, rfl⟩)))))))))
  first | exact (decide_eq_true oM).symm | exact (decide_eq_false oM).symm
theorem nT (n : Nat) (x : Int) (s : St) (hs : Wf s) : bW Tryz.prog (cA cH) X (n + 30) 51 [.int .i64 x] s (fun v A => v = .bool (decide (1 <= x /\ x <= 99999)) /\ A = []) := by
 refine enter LJ rfl hs ?_;unfold KA;refine rS (kM J J (Q0 (rS (kM J J (kO J (bH J J (fun s1 h1 => fR _ _ _ _ s1 h1.wf) (fun h1 => ?_) (fun h1 => ?_)))))))
 ·refine kM J J (Q0 (V2 (aV J ⟨congrArg Value.bool ?_, rfl⟩)))
  first | exact (decide_eq_true oM).symm | exact (decide_eq_false oM).symm
 ·refine kM J J (Q0 (V2 (aV J ⟨congrArg Value.bool ?_, rfl⟩)))
  first | exact (decide_eq_true oM).symm | exact (decide_eq_false oM).symm
theorem BP (n : Nat) (a : Option Addr) (cap : Nat) (l : List Int) (lo hi : Int) (s : St) (hs : Wf s) (hn : 281474976710656 <= n) (hl : aI s a l) : bW Tryz.prog (cA cH) X (n + 100) 150 [.slice a l.length cap, .int .i64 lo, .int .i64 hi] s (fun v A => v = .bool (sI lo hi l) /\ A = []) := by
 refine enter HE rfl hs ?_;unfold DZ;have hlen := hl.len;refine rS (kM J J (Q0 (rQ (rS (kM J J (kO J (aJ J hl.spot (kM J J (Q0 (W1 (U4 (fun j e A => ∃ (k : Nat), e = [(9, .slice a l.length cap), (10, .int .i64 (l.length : Int)), (11, .int .i64 (k : Int)), (1, .int .i64 lo), (2, .int .i64 hi)] /\ A = [] /\ j = l.length - k /\ k <= l.length /\ sI lo hi l = sI lo hi (l.drop k)) 60 0 281474976710656 ?_ (j := _) (env2 := _) (A2 := _) ?_ ?_ ?_ ?_ ⟨0, rfl, rfl, rfl, Nat.zero_le _, rfl⟩)))))))))))
 rotate_left
 ·omega
 ·omega
 ·exact lL
 ·exact .slnil
 rintro n hn j _ _ ⟨k, rfl, rfl, rfl, hk, hi'⟩;refine rS (kO J (W5 J J (fun h1 => ?_) (fun h1 => ?_)))
 ·refine Q0 (rQ (Y0 J (Q1 (W0 (rQ (W1 (rS (kO J (Q7 (j := k) hl rfl rfl oM (by first | rfl | omega) oM (fun _ _ a2 => (kO J (W6 J (hl.at a2 oM) (kM J J (Q0 (rS (kM J J (kM J J (kO J (W5 J J (fun h3 => ?_) (fun h3 => ?_))))))))))))))))))))
  ·refine kM J J (V0 J J (V0 J J (V0 J J (kO J (W2 J J J (Q0 (Y0 J (rS (kM J J (Q0 (V2 (Y6 (W3 (W3 (Y6 (W3 (aV J ⟨congrArg Value.bool ?_, rfl⟩)))))))))))))))))
   first
    | exact (nQ oM hi' oM).symm
    | exact (nS hi' oM).symm
  ·refine kM J J (kG J J (U2 J (kG J J (U2 J (kG J J (fP J J (fun h4 => ?_) (fun h4 => ?_)))))))
   ·refine kO J (U1 J J J (Q0 (Y0 J (rS (kM J J (Q0 (V2 (Y6 (W3 (W3 (Y6 (W3 (aV J ⟨congrArg Value.bool ?_, rfl⟩)))))))))))))
    first
     | exact (nQ oM hi' oM).symm
     | exact (nS hi' oM).symm
   ·refine kO J (U1 J J J (Q0 (U0 J (Q1 (Z1 (W0 (rI (kO J (Y3 J J oM (kM J J (Q0 (W0 ?_))))))))))))
    exact ⟨rfl, _, _, _, (show l.length - (k + 1) < l.length - k from oM), lL, .slnil, ⟨k + 1, rfl, rfl, rfl, oM, AC oM hi' oM⟩⟩
 ·refine Q0 (rQ (U0 J (Y4 (Z2 (Z2 (Q3 (W0 (rS (kM J J (Q0 (V2 (aV J ⟨congrArg Value.bool ?_, rfl⟩))))))))))))
  first
   | exact (nQ oM hi' oM).symm
   | exact (nS hi' oM).symm
theorem qM (n : Nat) (a : Option Addr) (cap : Nat) (l : List Int) (s : St) (hs : Wf s) (hn : 562949953421312 <= n) (hl : aI s a l) : bW Tryz.prog (cA cH) X (n + 200) 149 [.slice a l.length cap] s (fun v A => v = .int .i64 (if eX 9 100000 l = true then 0 else 12) /\ A = []) := by
 refine enter HD rfl hs ?_;unfold DY;have hlen := hl.len;refine rS (kM J J (Q0 (rQ (rS (kM J J (kO J (aJ J hl.spot (kO J (W5 J J (fun h1 => ?_) (fun h1 => ?_))))))))))
 ·refine kM J J (V0 J J (V0 J J (V0 J J (kO J (W2 J J J (kM J J (V0 J J (V0 J J (V0 J J (kO J (W2 J J J (Q0 (Y0 J (rS (kM J J (Q0 (V2 (W3 (aV J ⟨congrArg (Value.int .i64) ?_, rfl⟩)))))))))))))))))))
  first
   | (rw [gM oM]; rfl)
   | (rw [gN aM]; rfl)
   | (rw [iW (iU oM hi' oM)]; rfl)
   | (rw [gO oM aM (iV hi' oM)]; rfl)
 ·refine kM J J (kG J J (U2 J (kG J J (aJ J hl.spot (kG J J (fP J J (fun h2 => ?_) (fun h2 => ?_)))))))
  ·refine kO J (U1 J J J (kM J J (V0 J J (V0 J J (V0 J J (kO J (W2 J J J (Q0 (Y0 J (rS (kM J J (Q0 (V2 (W3 (aV J ⟨congrArg (Value.int .i64) ?_, rfl⟩)))))))))))))))
   first
    | (rw [gM oM]; rfl)
    | (rw [gN aM]; rfl)
    | (rw [iW (iU oM hi' oM)]; rfl)
    | (rw [gO oM aM (iV hi' oM)]; rfl)
  ·refine kO J (U1 J J J (kM J J (kG J J (U2 J (kG J J (AB J J (fun s1 h1 => BP _ _ _ _ _ _ s1 h1.wf oM (hl.ext hs h1.2.1)) (fun h3 => ?_) (fun h3 => ?_)))))))
   ·refine kG J J (U6 J (kO J (U1 J J J (Q0 (U0 J (Q1 (W0 (rQ (rS (kM J J (kO J (aJ J hl.spot (kO J (bX J J oM (kM J J (Q0 (W1 (U4 (fun j e A => ∃ (k : Nat), e = [(0, .slice a l.length cap), (19, .int .i64 ((l.length : Int) - 1)), (20, .int .i64 (k : Int))] /\ A = [] /\ j = l.length - k /\ k + 1 <= l.length /\ jD l = jD (l.drop k)) 90 0 281474976710656 ?_ (j := _) (env2 := _) (A2 := _) ?_ ?_ ?_ ?_ ⟨0, rfl, rfl, rfl, oM, rfl⟩))))))))))))))))))
    rotate_left
    ·omega
    ·omega
    ·exact lL
    ·exact .slnil
    rintro n hn j _ _ ⟨k, rfl, rfl, rfl, hk, hi'⟩;refine rS (kO J (W5 J J (fun h4 => ?_) (fun h4 => ?_)))
    ·refine Q0 (rQ (Y0 J (Q1 (W0 (rQ (W1 (rS (kM J J (kM J J (Q0 (rS (kM J J (kM J J (kO J (Q7 (j := k) hl rfl rfl oM (by first | rfl | omega) oM (fun _ _ a5 => (kO J (W6 J (hl.at a5 oM) (kM J J (kM J J (kO J (Y3 J J oM (kO J (Q7 (j := k + 1) hl rfl rfl oM (by first | rfl | omega) oM (fun _ _ a6 => (kO J (W6 J (hl.at a6 oM) (kO J (zO J J (fun h7 => ?_) (fun h7 => ?_))))))))))))))))))))))))))))))
     ·refine Q0 (Y0 J (rS (kM J J (Q0 (V2 (Y6 (W3 (W3 (Y6 (W3 (aV J ⟨congrArg (Value.int .i64) ?_, rfl⟩)))))))))))
      first
       | (rw [gM oM]; rfl)
       | (rw [gN aM]; rfl)
       | (rw [iW (iU oM hi' oM)]; rfl)
       | (rw [gO oM aM (iV hi' oM)]; rfl)
     ·refine Q0 (U0 J (Q1 (Z1 (W0 (rI (kO J (Y3 J J oM (kM J J (Q0 (W0 ?_))))))))))
      exact ⟨rfl, _, _, _, (show l.length - (k + 1) < l.length - k from oM), lL, .slnil, ⟨k + 1, rfl, rfl, rfl, oM, xP oM hi' oM⟩⟩
    ·refine Q0 (rQ (U0 J (Y4 (Z2 (Z2 (Q3 (W0 (rS (kM J J (Q0 (V2 (aV J ⟨congrArg (Value.int .i64) ?_, rfl⟩))))))))))))
     first
      | (rw [gM oM]; rfl)
      | (rw [gN aM]; rfl)
      | (rw [iW (iU oM hi' oM)]; rfl)
      | (rw [gO oM aM (iV hi' oM)]; rfl)
   ·refine kG J J (U6 J (kO J (U1 J J J (Q0 (Y0 J (rS (kM J J (Q0 (V2 (W3 (aV J ⟨congrArg (Value.int .i64) ?_, rfl⟩)))))))))))
    first
     | (rw [gM oM]; rfl)
     | (rw [gN aM]; rfl)
     | (rw [iW (iU oM hi' oM)]; rfl)
     | (rw [gO oM aM (iV hi' oM)]; rfl)
theorem H1 (n : Nat) (a : Option Addr) (cap : Nat) (l : List Int) (m hi : Int) (s : St) (hs : Wf s) (hn : 281474976710656 <= n) (hm : 2 <= m) (hl : aI s a l) : bW Tryz.prog (cA cH) X (n + 200) 103 [.slice a l.length cap, .int .i64 m, .int .i64 hi] s (fun v A => v = .bool (eX m hi l) /\ A = []) := by
 refine enter Hq rfl hs ?_;unfold DI;have hlen := hl.len;refine rS (kM J J (Q0 (rQ (rS (kM J J (kO J (aJ J hl.spot (kO J (W5 J J (fun h1 => ?_) (fun h1 => ?_))))))))))
 ·refine kM J J (V0 J J (V0 J J (V0 J J (V0 J J (kO J (W2 J J J (Q0 (Y0 J (rS (kM J J (Q0 (V2 (W3 (aV J ⟨congrArg Value.bool ?_, rfl⟩))))))))))))))
  first
   | exact (gM oM).symm
   | exact (gN (nQ oM hi' oM)).symm
   | exact (iW (iU (k := k - 1) oM hr' (by rw [Nat.sub_add_cancel oM]; omega))).symm
   | exact (gO oM (nS hi' oM) (iV hr' oM)).symm
 ·refine kM J J (kG J J (U2 J (kG J J (aJ J hl.spot (kG J J (U2 J (kG J J (fP J J (fun h2 => ?_) (fun h2 => ?_)))))))))
  ·refine kO J (U1 J J J (Q0 (Y0 J (rS (kM J J (Q0 (V2 (W3 (aV J ⟨congrArg Value.bool ?_, rfl⟩)))))))))
   first
    | exact (gM oM).symm
    | exact (gN (nQ oM hi' oM)).symm
    | exact (iW (iU (k := k - 1) oM hr' (by rw [Nat.sub_add_cancel oM]; omega))).symm
    | exact (gO oM (nS hi' oM) (iV hr' oM)).symm
  ·refine kO J (U1 J J J (Q0 (U0 J (Q1 (W0 (rQ (rS (kM J J (Q0 (W1 (U4 (fun j e A => ∃ (k : Nat), e = [(0, .slice a l.length cap), (7, .int .i64 (k : Int)), (1, .int .i64 m), (2, .int .i64 hi)] /\ A = [] /\ j = l.length - k /\ k <= l.length /\ sI 0 hi l = sI 0 hi (l.drop k) /\ jD l = jD (l.drop (k - 1))) 140 0 281474976710656 ?_ (j := _) (env2 := _) (A2 := _) ?_ ?_ ?_ ?_ ⟨0, rfl, rfl, rfl, oM, rfl, rfl⟩)))))))))))
   rotate_left
   ·omega
   ·omega
   ·exact lL
   ·exact .slnil
   rintro n hn j _ _ ⟨k, rfl, rfl, rfl, hk, hi', hr'⟩;refine rQ (rS (kM J J (kM J J (kO J (aJ J hl.spot (kO J (W5 J J (fun h3 => ?_) (fun h3 => ?_))))))))
   ·refine Q0 (Y0 J (Q1 (W0 (rQ (W1 (rS (kM J J (kM J J (kO J (Q7 (j := k) hl rfl rfl oM (by first | rfl | omega) oM (fun _ _ a4 => (kO J (W6 J (hl.at a4 oM) (kO J (W5 J J (fun h5 => ?_) (fun h5 => ?_))))))))))))))))
    ·refine kM J J (V0 J J (V0 J J (V0 J J (V0 J J (V0 J J (V0 J J (kO J (W2 J J J (kM J J (V0 J J (V0 J J (V0 J J (V0 J J (V0 J J (V0 J J (V0 J J (V0 J J (V0 J J (V0 J J (V0 J J (V0 J J (V0 J J (V0 J J (kO J (W2 J J J ?_)))))))))))))))))))))))))
     refine Q0 (Y0 J (rS (kM J J (Q0 (V2 (Y6 (W3 (W3 (Y6 (W3 (aV J ⟨congrArg Value.bool ?_, rfl⟩)))))))))))
     first
      | exact (gM oM).symm
      | exact (gN (nQ oM hi' oM)).symm
      | exact (iW (iU (k := k - 1) oM hr' (by rw [Nat.sub_add_cancel oM]; omega))).symm
      | exact (gO oM (nS hi' oM) (iV hr' oM)).symm
    ·refine kM J J (kG J J (U2 J (kG J J (U2 J (kG J J (Q7 (j := k) hl rfl rfl oM (by first | rfl | omega) oM (fun _ _ a6 => (kG J J (W6 J (hl.at a6 oM) (kG J J (U2 J (kG J J (fP J J (fun h7 => ?_) (fun h7 => ?_))))))))))))))
     ·refine kO J (U1 J J J (kM J J (V0 J J (V0 J J (V0 J J (V0 J J (V0 J J (V0 J J (V0 J J (V0 J J (V0 J J (V0 J J (V0 J J (V0 J J (V0 J J (V0 J J (kO J (W2 J J J (Q0 (Y0 J (rS (kM J J (Q0 (V2 (Y6 ?_)))))))))))))))))))))))))
      refine W3 (W3 (Y6 (W3 (aV J ⟨congrArg Value.bool ?_, rfl⟩))))
      first
       | exact (gM oM).symm
       | exact (gN (nQ oM hi' oM)).symm
       | exact (iW (iU (k := k - 1) oM hr' (by rw [Nat.sub_add_cancel oM]; omega))).symm
       | exact (gO oM (nS hi' oM) (iV hr' oM)).symm
     ·refine kO J (U1 J J J (kM J J (kG J J (U2 J (kG J J (fP J J (fun h8 => ?_) (fun h8 => ?_)))))))
      ·refine kG J J (U2 J (kG J J (U2 J (kG J J (U2 J (kG J J (bX J J oM (kG J J (Q7 (j := k - 1) hl rfl rfl oM sM oM (fun _ _ a99 => (kG J J (W6 J (hl.at a99 oM) (kG J J (U2 J (kG J J (U2 J (kG J J (Q7 (j := k) hl rfl rfl oM (by first | rfl | omega) oM (fun _ _ a10 => (kG J J (W6 J (hl.at a10 oM) (kG J J (zO J J (fun h11 => ?_) (fun h11 => ?_))))))))))))))))))))))))
       ·refine kG J J (W2 J J J (kO J (U1 J J J (Q0 (Y0 J (rS (kM J J (Q0 (V2 (Y6 (W3 (W3 (Y6 (W3 (aV J ⟨congrArg Value.bool ?_, rfl⟩)))))))))))))))
        first
         | exact (gM oM).symm
         | exact (gN (nQ oM hi' oM)).symm
         | exact (iW (iU (k := k - 1) oM hr' (by rw [Nat.sub_add_cancel oM]; omega))).symm
         | exact (gO oM (nS hi' oM) (iV hr' oM)).symm
       ·refine kG J J (W2 J J J (kO J (U1 J J J (Q0 (U0 J (Q1 (Z1 (W0 (rI (kM J J (kO J (Y3 J J oM (kM J J (Q0 (W0 ?_)))))))))))))))
        exact ⟨rfl, _, _, _, (show l.length - (k + 1) < l.length - k from oM), lL, .slnil, ⟨k + 1, rfl, rfl, rfl, oM, AC oM hi' oM, (by rcases Nat.eq_zero_or_pos k with hk0 | hk0; (rw [hk0] at hr'; rw [hk0]; exact hr'); (have q := xP (k := k - 1) oM hr' (by rw [Nat.sub_add_cancel oM]; omega); rw [Nat.sub_add_cancel oM] at q; exact q))⟩⟩
      ·refine kG J J (U2 J (V0 J J (V0 J J (V0 J J (V0 J J (V0 J J (V0 J J (V0 J J (V0 J J (V0 J J (V0 J J (kG J J (U1 J J J (kO J (U1 J J J (Q0 (U0 J (Q1 (Z1 (W0 (rI (kM J J (kO J (Y3 J J oM (kM J J (Q0 (W0 ?_)))))))))))))))))))))))))))
       exact ⟨rfl, _, _, _, (show l.length - (k + 1) < l.length - k from oM), lL, .slnil, ⟨k + 1, rfl, rfl, rfl, oM, AC oM hi' oM, (by rcases Nat.eq_zero_or_pos k with hk0 | hk0; (rw [hk0] at hr'; rw [hk0]; exact hr'); (have q := xP (k := k - 1) oM hr' (by rw [Nat.sub_add_cancel oM]; omega); rw [Nat.sub_add_cancel oM] at q; exact q))⟩⟩
   ·refine Q0 (U0 J (Y4 (Z2 (Z2 (Q3 (W0 (rS (kM J J (Q0 (V2 (aV J ⟨congrArg Value.bool ?_, rfl⟩)))))))))))
    first
     | exact (gM oM).symm
     | exact (gN (nQ oM hi' oM)).symm
     | exact (iW (iU (k := k - 1) oM hr' (by rw [Nat.sub_add_cancel oM]; omega))).symm
     | exact (gO oM (nS hi' oM) (iV hr' oM)).symm
end
end Ev
end Go.Proofs.YtjkdkpckjgaplaaGreat
