import Derived.Test.YtoeklhdklcpllaaZc07
import Derived.KernelRfl
import Derived.ProofKit
import Derived.OpenShut
import Derived.Lib.SmallJoins
import Derived.Deep.Slices
import Derived.Deep.Strs
import Derived.Test.YtoeklhdklcpllaaZc08
set_option linter.unusedVariables false
set_option linter.unusedSimpArgs false
namespace Go.Proofs.Ytoeklhdklcpllaa.Ev
open Go Go.RowKit
noncomputable section
def fillL : List Value -> List (Nat × Nat × Value) -> Option (List Value)
 | l, [] => some l
 | l, (o, n, v) :: ps => match v.cells with
  | ⟨r⟩ => sel (Nat.beq r.length n && allOne r && Nat.ble o l.length) (match overL l o r with | some l' => fillL l' ps | none => none) none
theorem fillK_of {m : Nat} : ∀ {ps : List (Nat × Nat × Value)} {l l' : List Value} {c : BT Value} {k : BT Value -> Bool}, l.length = m -> Full c m -> (∀ j, c.get j = l[j]?) -> fillL l ps = some l' -> (∀ c', Full c' m -> (∀ j, c'.get j = l'[j]?) -> l'.length = m -> k c' = true) -> fillK c ps k = true
 | [], l, l', c, k, hm, hf, hc, h, hk => by cases h; exact hk c hf hc hm
 | (o, n, v) :: ps, l, l', c, k, hm, hf, hc, h, hk => by
  simp only [fillL] at h;obtain ⟨h1, h2⟩ := sel_inv h;simp only [Bool.and_eq_true] at h1;obtain ⟨⟨h3, h4⟩, h5⟩ := h1;obtain ⟨r, hr⟩ : ∃ r, v.cells = ⟨r⟩ := ⟨v.cells.toList, rfl⟩;have hr' : v.cells.toList = r := by rw [hr]
  split at h2
  ·rename_i l1 h6
   obtain ⟨h7, h8⟩ := overL_eq h6 (by simpa using h5);show @Array.rec Value (fun _ => Bool) (fun l => ifB (Nat.beq (lenL l) n) (ifB (allOne l) (putsK c o l (fun c => fillK c ps k)) false) false) v.cells = true;rw [hr];show ifB (Nat.beq (lenL r) n) (ifB (allOne r) (putsK c o r (fun c => fillK c ps k)) false) false = true;rw [hr'] at h3 h4 h7 h8;rw [lenL_eq, h3, h4];refine putsK_of hf (by omega) (fun c' hf' hg => fillK_of (l := l1) (by rw [h7, over_length h8]; exact hm) hf' (fun j => ?_) h2 hk);rw [hg, h7, over_get h8, hc]
  ·cases h2
theorem a_callV {P : Program} {C : Nat -> (CF -> Bool) -> Bool} {X : FuncId -> List Value -> St -> (Value -> St -> Bool) -> Bool} {s0 : St} {n nt : Nat} {env : List (Nat × Value)} {A : List Ob} {R : Value -> List Ob -> Prop} {f : Ev.X} {l : List Ev.X} {g : Nat} {p c vs : List Value} {u : Value}
 (hf : xv env f = some (.func (.func g) ⟨p⟩ ⟨c⟩)) (hl : xvs env l = some vs) (hg : ∀ s, Hld s0 A s -> Spec P C X n g (p ++ (vs ++ c)) s (fun v A' => v = u /\ A' = [])) (h : R u A) : OpA P C X s0 n nt (.call f l) env A R :=
 W5 hf hl hg (fun v A' hq => by obtain ⟨rfl, rfl⟩ := hq; exact h)
theorem a_callB {P : Program} {C : Nat -> (CF -> Bool) -> Bool} {X : FuncId -> List Value -> St -> (Value -> St -> Bool) -> Bool} {s0 : St} {n nt : Nat} {env : List (Nat × Value)} {A : List Ob} {R : Value -> List Ob -> Prop} {f : Ev.X} {l : List Ev.X} {g : Nat} {pp c vs : List Value} {p : Prop} [Decidable p]
 (hf : xv env f = some (.func (.func g) ⟨pp⟩ ⟨c⟩)) (hl : xvs env l = some vs) (hg : ∀ s, Hld s0 A s -> Spec P C X n g (pp ++ (vs ++ c)) s (fun v A' => v = .bool (decide p) /\ A' = [])) (h1 : p -> R (.bool true) A) (h2 : ¬ p -> R (.bool false) A) : OpA P C X s0 n nt (.call f l) env A R :=
 W5 hf hl hg (fun v A' hq => by
  obtain ⟨rfl, rfl⟩ := hq;by_cases h : p
  ·rw [decide_eq_true h]; exact h1 h
  ·rw [decide_eq_false h]; exact h2 h)
theorem a_callE {P : Program} {C : Nat -> (CF -> Bool) -> Bool} {X : FuncId -> List Value -> St -> (Value -> St -> Bool) -> Bool} {s0 : St} {n nt : Nat} {env : List (Nat × Value)} {A : List Ob} {R : Value -> List Ob -> Prop} {f : Ev.X} {l : List Ev.X} {g : Nat} {pp c vs : List Value} {p : Prop} [Decidable p] {x y : Int}
 (hf : xv env f = some (.func (.func g) ⟨pp⟩ ⟨c⟩)) (hl : xvs env l = some vs) (hg : ∀ s, Hld s0 A s -> Spec P C X n g (pp ++ (vs ++ c)) s (fun v A' => v = .int .i64 (if p then x else y) /\ A' = [])) (h1 : p -> R (.int .i64 x) A) (h2 : ¬ p -> R (.int .i64 y) A) : OpA P C X s0 n nt (.call f l) env A R :=
 W5 hf hl hg (fun v A' hq => by
  obtain ⟨rfl, rfl⟩ := hq;by_cases h : p
  ·rw [if_pos h]; exact h1 h
  ·rw [if_neg h]; exact h2 h)
structure RowsE (s : St) (w : Nat) (a : Option Addr) (rs : List (List Int)) : Prop where
 spot : ∀ b, a = some b -> b.spot = none
 addr : rs ≠ [] -> ∃ b o, a = some ⟨b, o, none⟩
 cells : ∀ b o, a = some ⟨b, o, none⟩ -> ∀ i r, rs[i]? = some r -> Ats s b (o + i * w) (r.map (.int .i64))
 width : ∀ r ∈ rs, r.length = w
 fit : ∀ r ∈ rs, ∀ x ∈ r, -9223372036854775808 <= x /\ x < 9223372036854775808
 len : rs.length < 140737488355328
theorem RowsE.row {s : St} {w : Nat} {a : Option Addr} {rs : List (List Int)} (h : RowsE s w a rs) {k : Nat} (hk : k < rs.length) : ∃ b o r, a = some ⟨b, o, none⟩ /\ rs[k]? = some r /\ r.length = w /\ Ats s b (o + k * w) (r.map (.int .i64)) /\ ∀ x ∈ r, -9223372036854775808 <= x /\ x < 9223372036854775808 := by
 obtain ⟨b, o, ha⟩ := h.addr (by intro e; rw [e] at hk; simp at hk);have hm : rs[k] ∈ rs := List.getElem_mem hk;exact ⟨b, o, rs[k], ha, List.getElem?_eq_getElem hk, h.width _ hm, h.cells b o ha k _ (List.getElem?_eq_getElem hk), h.fit _ hm⟩
theorem RowsE.ext {s s' : St} {w : Nat} {a : Option Addr} {rs : List (List Int)} (h : RowsE s w a rs) (hw : Wf s) (x : Ext s s') : RowsE s' w a rs :=
 ⟨h.spot, h.addr, fun b o ha i r hr => (h.cells b o ha i r hr).ext hw x, h.width, h.fit, h.len⟩
theorem list_len_succ {α : Type} {n : Nat} {l : List α} (h : l.length = n + 1) : ∃ x r, l = x :: r /\ r.length = n := by
 cases l with
 | nil => simp at h
 | cons x r => exact ⟨x, r, rfl, by simpa using h⟩
section
variable {P : Program} {C : Nat -> (CF -> Bool) -> Bool} {X : FuncId -> List Value -> St -> (Value -> St -> Bool) -> Bool} {s0 : St} {n nt : Nat} {env : List (Nat × Value)} {A : List Ob} {R : Value -> List Ob -> Prop}
theorem Y7 {z : List Value} {ps : List (Nat × Nat × Ev.X)} {vs : List (Nat × Nat × Value)} {l : List Value} (hp : xps env ps = some vs) (hf : fillL z vs = some l) (h : R (.agg ⟨l⟩) A) : OpA P C X s0 n nt (.build z ps) env A R := .mk fun s hs T hT k hk => by
 refine partsE_of hT (k := fun ps => buildK z ps (vK s k)) hp ?_;unfold buildK;refine rowOfList (fun c hc hg => fillK_of rfl hc hg hf (fun c' hc' hg' hl => ?_));exact segK_of (k := fun l => vK s k (.agg ⟨l⟩)) (l := l) (by rw [hl, lenL_eq]) (fun j _ => by rw [Nat.zero_add]; exact hg' j) (hk _ _ ⟨A, hs, h⟩)
theorem a_lit {e len m : Nat} {z : List Value} {ps : List (Nat × Nat × Ev.X)} {vs : List (Nat × Nat × Value)} {l : List Value} (hp : xps env ps = some vs) (hf : fillL z vs = some l) (hm : Nat.beq z.length m = true) (h : ∀ b, R (.slice (some ⟨b, 0, none⟩) len len) (.row b e false l :: A)) : OpA P C X s0 n nt (.lit e len m z ps) env A R := .mk fun s hs T hT k hk => by
 refine partsE_of hT (k := fun ps => litK s e len m z ps k) hp ?_;unfold litK;have hm' : z.length = m := by simpa using hm
 refine rowOfList (fun c hc hg => fillK_of rfl hc hg hf (fun c' hc' hg' hl => nOf_of ?_));exact newRow_of (l := l) (by rw [hl, hm']) hs.wf (by rw [hl]; exact hc') hg' (fun s' x _ ho => hk _ _ ⟨_, hs.new x ho, h s.n⟩)
theorem a_max {ts : Array Nat} {t : Nat} {x y : Ev.X} {k : IntKind} {a b : Int} (hx : xvs env [x, y] = some [.int k a, .int k b]) (h : R (.int k (max a b)) A) : OpA P C X s0 n nt (.bi .max ts t [x, y]) env A R :=
 a_bi hx (r := .int k (max a b)) (by
  have : evBi P .max ts t [.int k a, .int k b] = some (.int k (if b > a then b else a)) := rfl;rw [this]; congr 2;by_cases hab : b > a
  ·rw [if_pos hab]; omega
  ·rw [if_neg hab]; omega) h
theorem a_min {ts : Array Nat} {t : Nat} {x y : Ev.X} {k : IntKind} {a b : Int} (hx : xvs env [x, y] = some [.int k a, .int k b]) (h : R (.int k (min a b)) A) : OpA P C X s0 n nt (.bi .min ts t [x, y]) env A R :=
 a_bi hx (r := .int k (min a b)) (by
  have : evBi P .min ts t [.int k a, .int k b] = some (.int k (if b < a then b else a)) := rfl;rw [this]; congr 2;by_cases hab : b < a
  ·rw [if_pos hab]; omega
  ·rw [if_neg hab]; omega) h
theorem a_neg {x : Ev.X} {a : Int} (hx : xv env x = some (.int .i64 a)) (hr : -9223372036854775808 < a /\ a < 9223372036854775808) (h : R (.int .i64 (-a)) A) : OpA P C X s0 n nt (.un .neg x) env A R :=
 a_un hx (r := .int .i64 (-a)) (by
  have : ev1 P (Op.unary .neg) (.int .i64 a) = some (.int .i64 (IntKind.i64.wrap (0 - a))) := rfl;rw [this, IntWalk.i64_in _ (by omega)]; congr 2; omega) h
/-! Appends. -/
inductive Del : List Ob -> Nat -> Nat -> Bool -> List Value -> List Ob -> Prop where
 | here {b e : Nat} {op : Bool} {l : List Value} {A : List Ob} : Del (.row b e op l :: A) b e op l A
 | next {x : Ob} {b e : Nat} {op : Bool} {l : List Value} {A A' : List Ob} (h : Del A b e op l A') : Del (x :: A) b e op l (x :: A')
theorem Del.own {A A' : List Ob} {b e : Nat} {op : Bool} {l : List Value} (h : Del A b e op l A') : Own A b e op l := by
 induction h with
 | here => exact .here
 | next _ ih => exact .next ih
theorem Del.sub {A A' : List Ob} {b e : Nat} {op : Bool} {l : List Value} (h : Del A b e op l A') : A'.Sublist A := by
 induction h with
 | here => exact List.sublist_cons_self _ _
 | next _ ih => exact ih.cons_cons _
theorem AOk.del {base : Nat} {s : St} {A A' : List Ob} {b e : Nat} {op : Bool} {l : List Value} (h : Del A b e op l A') : AOk base s A -> ∀ y ∈ A', y.b ≠ b := by
 induction h with
 | here => exact fun h => h.2.2.1
 | next hd ih =>
  intro h y hy;rcases List.mem_cons.1 hy with rfl | hy
  ·exact Ne.symm (h.2.2.1 _ hd.own.mem)
  ·exact ih h.2.2.2 y hy
theorem growK_of {s : St} {e size len n : Nat} {more old : List Value} {k : Value -> St -> Bool} (hw : Wf s) (ho : old.length = len * size) (hm : more.length = n * size) (hk : ∀ s', Ext s s' -> s'.n = s.n + 1 -> Obj s' s.n e true (old ++ more) -> k (.slice (some ⟨s.n, 0, none⟩) (len + n) OPEN) s' = true) : growK s e size len n more old k = true := by
 unfold growK;refine rowOfList (fun c hc hg => ?_);refine addsK_of (n := len * size) (by rw [<- ho]; exact hc) (fun c' hc' hg' => nOf_of ?_);rw [forceN_eq];have hl : (old ++ more).length = (len + n) * size := by rw [List.length_append, ho, hm, Nat.add_mul]
 refine newRow_of (l := old ++ more) hl.symm hw (by rw [List.length_append, ho]; exact hc') (fun j => ?_) (fun s' x hn hob => ?_)
 ·rw [hg']
  by_cases h1 : len * size <= j /\ j < len * size + more.length
  ·rw [if_pos h1, List.getElem?_append_right (by omega), ho]
  ·rw [if_neg h1, hg]
   by_cases h2 : j < old.length
   ·rw [List.getElem?_append_left h2]
   ·rw [List.getElem?_eq_none (by omega), List.getElem?_eq_none (by simp; omega)]
 ·rw [forceN_eq]; exact hk s' x hn hob
def Src (s0 : St) (A : List Ob) (size n : Nat) (more : List Value) (y : Value) : Prop :=
 ∃ b o c, y = .slice (some ⟨b, o, none⟩) n c /\ more.length = n * size /\ more ≠ [] /\ ((∃ e op l, Own A b e op l /\ segL l o more.length = some more) ∨ Ats s0 b o more)
theorem moreK_of {s : St} (hs : Hld s0 A s) {size n' : Nat} {z more : List Value} {y : Value} {k : Nat -> List Value -> Bool} (h : Src s0 A size n' more y) (hk : k n' more = true) : moreK s size z false y k = true := by
 obtain ⟨b, o, c, rfl, h1, h0, h2⟩ := h;have ha : Ats s b o more := by
  rcases h2 with ⟨e, op, l, h3, h4⟩ | h3
  ·exact (hs.own h3).ats (segL_eq h4).2
  ·exact hs.ats h3
 obtain ⟨f, h5, h6⟩ := ha.see h0;have hn0 : n' ≠ 0 := fun e => h0 (List.eq_nil_of_length_eq_zero (by rw [h1, e, Nat.zero_mul]))
 show ifB (Nat.beq n' 0) (k 0 []) (seeK s b (fun c => segK c o (Nat.mul n' size) (fun l => k n' l)) (fun g => romSegK g o (Nat.mul n' size) (fun l => k n' l))) = true;rw [beqF hn0];show seeK s b (fun c => segK c o (Nat.mul n' size) (fun l => k n' l)) (fun g => romSegK g o (Nat.mul n' size) (fun l => k n' l)) = true;refine seeK_of h5 (fun c hc => ?_) ?_
 ·subst hc; exact segK_of (k := fun l => k n' l) h1 (fun j hj => h6 j (by rw [h1]; exact hj)) hk
 ·exact romSegK_of (k := fun l => k n' l) h1 (fun j hj => h6 j (by rw [h1]; exact hj)) hk
theorem a_appn {e size bytes m : Nat} {z more : List Value} {x y : Ev.X} {yv : Value} (hx : xv env x = some (.slice none 0 0)) (hy : xv env y = some yv) (hsrc : Src s0 A size m more yv) (hm : m ≠ 0) (hb1 : m <= 1048576) (hb2 : bytes * m <= 1073741824)
 (h : ∀ b, R (.slice (some ⟨b, 0, none⟩) m OPEN) (.row b e true more :: A)) : OpA P C X s0 n nt (.app e size bytes z false x y) env A R := .mk fun s hs T hT k hk => by
 refine Y6 hT (k := fun x => valK T y (fun y => appK s e size bytes z false x y k)) hx (Y6 hT (k := fun y => appK s e size bytes z false _ y k) hy ?_);unfold appK;refine moreK_of hs hsrc ?_;obtain ⟨_, _, _, _, hml, _⟩ := hsrc;show ifB (Nat.beq 0 0) (ifB (Nat.beq 0 0) (ifB (Nat.beq m 0) _ (ifB (Nat.ble m 1048576) (ifB (Nat.ble (Nat.mul bytes m) 1073741824) _ false) false)) false) false = true;rw [show Nat.beq 0 0 = true from rfl, beqF hm, show Nat.ble m 1048576 = true from by rw [Nat.ble_eq]; exact hb1, show Nat.ble (Nat.mul bytes m) 1073741824 = true from by rw [Nat.ble_eq]; exact hb2];show addsK .leaf 0 more _ = true;refine rowOfList (fun c hc hg => nOf_of ?_);rw [forceN_eq];exact newRow_of (l := more) hml.symm hs.wf hc hg (fun s' xx _ ho => hk _ _ ⟨_, hs.new xx ho, h s.n⟩)
def Tight (op : Bool) (len cap : Nat) : Prop := (op = true /\ cap = OPEN) ∨ (op = false /\ cap = len /\ len < OPEN)
theorem a_app {e size bytes b len cap m : Nat} {op : Bool} {z more l : List Value} {x y : Ev.X} {yv : Value} {A' : List Ob} (hx : xv env x = some (.slice (some ⟨b, 0, none⟩) len cap)) (hy : xv env y = some yv) (hsrc : Src s0 A size m more yv) (hd : Del A b e op l A') (hl : l.length = len * size) (ht : Tight op len cap) (hm : m ≠ 0) (hb1 : len + m <= 1048576) (hb2 : bytes * (len + m) <= 1073741824)
 (h : ∀ b, R (.slice (some ⟨b, 0, none⟩) (len + m) OPEN) (.row b e true (l ++ more) :: A')) : OpA P C X s0 n nt (.app e size bytes z false x y) env A R := .mk fun s hs T hT k hk => by
 refine Y6 hT (k := fun x => valK T y (fun y => appK s e size bytes z false x y k)) hx (Y6 hT (k := fun y => appK s e size bytes z false _ y k) hy ?_);unfold appK;refine moreK_of hs hsrc ?_;obtain ⟨_, _, _, _, hml, hm0, _⟩ := hsrc;have hsz : size ≠ 0 := by
  rintro rfl
  apply hm0; exact List.eq_nil_of_length_eq_zero (by simpa using hml)
 by_cases hc0 : cap = 0
 ·rcases ht with ⟨_, h1⟩ | ⟨h1, h2, h3⟩
  ·rw [hc0] at h1; cases h1
  ·subst h1
   subst h2;subst hc0;have hl0 : l = [] := List.eq_nil_of_length_eq_zero (by rw [hl, Nat.zero_mul]);subst hl0;show ifB (Nat.beq m 0) _ (ifB (Nat.ble m 1048576) (ifB (Nat.ble (Nat.mul bytes m) 1073741824) _ false) false) = true;rw [beqF hm, show Nat.ble m 1048576 = true from by rw [Nat.ble_eq]; omega, show Nat.ble (Nat.mul bytes m) 1073741824 = true from by rw [Nat.ble_eq]; rw [Nat.zero_add] at hb2; exact hb2];show addsK .leaf 0 more _ = true;rw [Nat.zero_add] at h;refine rowOfList (fun c hc hg => nOf_of ?_);rw [forceN_eq];exact newRow_of (l := more) hml.symm hs.wf hc hg (fun s' xx _ ho => hk _ _ ⟨_, (hs.sub hd.sub).new xx ho, h s.n⟩)
 show ifB (Nat.beq cap 0) _ (ifB (Nat.ble (Nat.add len m) 1048576) (ifB (Nat.ble (Nat.mul bytes (Nat.add len m)) 1073741824) (appAtK s e size b 0 len cap m more k) false) false) = true;rw [beqF hc0];show ifB (Nat.ble (Nat.add len m) 1048576) (ifB (Nat.ble (Nat.mul bytes (Nat.add len m)) 1073741824) (appAtK s e size b 0 len cap m more k) false) false = true;rw [show Nat.ble (Nat.add len m) 1048576 = true from by rw [Nat.ble_eq]; exact hb1, show Nat.ble (Nat.mul bytes (Nat.add len m)) 1073741824 = true from by rw [Nat.ble_eq]; exact hb2];show appAtK s e size b 0 len cap m more k = true;obtain ⟨c, hc, hf, hg⟩ := hs.own hd.own;unfold appAtK;refine objK_of (k := _) hc ?_;have hee : Nat.beq e e = true := by rw [Nat.beq_eq]
 rcases ht with ⟨rfl, rfl⟩ | ⟨rfl, rfl, hlt⟩
 ·show ifB (Nat.beq e e) (ifB (Nat.ble OPEN OPEN) (ifB true (ifB (Nat.beq 0 0) (ifB (Nat.beq OPEN OPEN) (ifB (Nat.ble (Nat.mul (Nat.add len m) size) l.length) _ (ifB (Nat.beq (Nat.mul len size) l.length) _ false)) false) false) false) _) false = true
  have hnot : Nat.ble (Nat.mul (Nat.add len m) size) l.length = false := by
   cases hb : Nat.ble (Nat.mul (Nat.add len m) size) l.length with
   | false => rfl
   | true =>
    have h1 : (len + m) * size <= l.length := by simpa using hb
    rw [hl, Nat.add_mul] at h1;have : 0 < m * size := Nat.mul_pos (by omega) (by omega);omega
  rw [hee, hnot, show Nat.ble OPEN OPEN = true from by rw [Nat.ble_eq]; exact Nat.le_refl _, show Nat.beq 0 0 = true from rfl, show Nat.beq OPEN OPEN = true from by rw [Nat.beq_eq], show Nat.beq (Nat.mul len size) l.length = true from by rw [Nat.beq_eq]; exact hl.symm];show addsK c (Nat.mul len size) more _ = true;refine addsK_of (n := len * size) (by rw [<- hl]; exact hf) (fun c' hc' hg' => nOf_of ?_);refine storeK_of hs.wf (Full.lt hs.wf hc) (fun s1 hm1 hn1 hd1 => ?_);rw [forceN_eq];have hll : (l ++ more).length = (len + m) * size := by rw [List.length_append, hl, hml, Nat.add_mul]
  have hlow := (hs.2.2.lt hs.wf _ hd.own.mem).2;have hs1 : Hld s0 A' s1 := ⟨hs.1, hs.2.1.mod hm1 (fun i hi => (List.mem_singleton.1 hi) ▸ hlow), (hs.2.2.sub hd.sub).mod hs.wf hm1 (AOk.del hd hs.2.2)⟩;rw [show s.n = s1.n from hn1.symm];refine newRow_of (l := l ++ more) hll.symm hm1.1 (by rw [List.length_append, hl]; exact hc') (fun j => ?_) (fun s2 x2 _ ho2 => ?_)
  ·rw [hg']
   by_cases h1 : len * size <= j /\ j < len * size + more.length
   ·rw [if_pos h1, List.getElem?_append_right (by omega), hl]
   ·rw [if_neg h1, hg]
    by_cases h2 : j < l.length
    ·rw [List.getElem?_append_left h2]
    ·rw [List.getElem?_eq_none (by omega), List.getElem?_eq_none (by simp; omega)]
  ·rw [forceN_eq]
   exact hk _ _ ⟨_, hs1.new x2 ho2, h s1.n⟩
 ·show ifB (Nat.beq e e) (ifB (Nat.ble OPEN cap) _ (ifB (Nat.ble (Nat.add cap m) cap) _ (segK c 0 (Nat.mul cap size) (fun old => growK s e size cap m more old k)))) false = true
  rw [hee, show Nat.ble OPEN cap = false from by
   cases hb : Nat.ble OPEN cap with
   | false => rfl
   | true => rw [Nat.ble_eq] at hb; omega, show Nat.ble (Nat.add cap m) cap = false from by
   cases hb : Nat.ble (Nat.add cap m) cap with
   | false => rfl
   | true => rw [Nat.ble_eq] at hb; have : cap + m <= cap := hb; omega]
  show segK c 0 (Nat.mul cap size) (fun old => growK s e size cap m more old k) = true;refine segK_of (l := l) hl (fun j _ => by rw [Nat.zero_add]; exact hg j) (growK_of hs.wf hl hml (fun s' x2 _ ho2 => hk _ _ ⟨_, (hs.sub hd.sub).new x2 ho2, h s.n⟩))
end
end
end Go.Proofs.Ytoeklhdklcpllaa.Ev
namespace Go.Proofs.Ytoeklhdklcpllaa.Ev
open Go Go.RowKit
noncomputable section
inductive PutO : List Ob -> Ob -> Ob -> List Ob -> Prop where
 | here {x y : Ob} {A : List Ob} : PutO (x :: A) x y (y :: A)
 | next {x y z : Ob} {A A' : List Ob} (h : PutO A x y A') : PutO (z :: A) x y (z :: A')
theorem PutO.mem {A A' : List Ob} {x y : Ob} (h : PutO A x y A') : x ∈ A := by
 induction h with
 | here => simp
 | next _ ih => simp [ih]
theorem PutO.blocks {A A' : List Ob} {x y : Ob} (h : PutO A x y A') (hb : y.b = x.b) : A'.map (·.b) = A.map (·.b) := by
 induction h with
 | here => simp [hb]
 | next _ ih => simp [ih hb]
theorem AOk.is {base : Nat} {s : St} : ∀ {A : List Ob}, AOk base s A -> ∀ {x : Ob}, x ∈ A -> x.Is s
 | [], _, _, h => by cases h
 | y :: A, ⟨_, h2, _, h4⟩, x, h => by
  rcases List.mem_cons.1 h with rfl | h
  ·exact h2
  ·exact h4.is h
theorem AOk.putO {base : Nat} {s s' : St} (hw : Wf s) {A A' : List Ob} {x y : Ob} (h : PutO A x y A') (hb : y.b = x.b) (m : Mod s s' [x.b]) (ho : y.Is s') : AOk base s A -> AOk base s' A' := by
 induction h with
 | here => exact fun ⟨h1, h2, h3, h4⟩ => ⟨by rw [hb]; exact h1, ho, by rw [hb]; exact h3, h4.mod hw m h3⟩
 | next hu ih =>
  rintro ⟨h1, h2, h3, h4⟩;refine ⟨h1, h2.mod hw m ?_, ne_of_map (hu.blocks hb) h3, ih hb m ho h4⟩;have := h3 _ hu.mem;simpa using Ne.symm this
theorem Hld.putO {s0 s s' : St} {A A' : List Ob} {x y : Ob} (h : Hld s0 A s) (u : PutO A x y A') (hb : y.b = x.b) (m : Mod s s' [x.b]) (ho : y.Is s') : Hld s0 A' s' :=
 ⟨h.1, h.2.1.mod m (by
  intro i hi; have : i = x.b := by simpa using hi
  subst this; exact (h.2.2.lt h.wf _ u.mem).2), h.2.2.putO h.wf u hb m ho⟩
inductive DelO : List Ob -> Ob -> List Ob -> Prop where
 | here {x : Ob} {A : List Ob} : DelO (x :: A) x A
 | next {x z : Ob} {A A' : List Ob} (h : DelO A x A') : DelO (z :: A) x (z :: A')
theorem DelO.mem {A A' : List Ob} {x : Ob} (h : DelO A x A') : x ∈ A := by
 induction h with
 | here => simp
 | next _ ih => simp [ih]
theorem DelO.sub {A A' : List Ob} {x : Ob} (h : DelO A x A') : A'.Sublist A := by
 induction h with
 | here => exact List.sublist_cons_self _ _
 | next _ ih => exact ih.cons_cons _
theorem AOk.delO {base : Nat} {s : St} {A A' : List Ob} {x : Ob} (h : DelO A x A') : AOk base s A -> ∀ y ∈ A', y.b ≠ x.b := by
 induction h with
 | here => exact fun h => h.2.2.1
 | next hd ih =>
  intro h y hy;rcases List.mem_cons.1 hy with rfl | hy
  ·exact Ne.symm (h.2.2.1 _ hd.mem)
  ·exact ih h.2.2.2 y hy
theorem Hld.delO {s0 s s' : St} {A A' : List Ob} {x : Ob} (h : Hld s0 A s) (u : DelO A x A') (m : Mod s s' [x.b]) : Hld s0 A' s' :=
 ⟨h.1, h.2.1.mod m (by
  intro i hi; have : i = x.b := by simpa using hi
  subst this; exact (h.2.2.lt h.wf _ u.mem).2), (h.2.2.sub u.sub).mod h.wf m (AOk.delO u h.2.2)⟩
inductive DelD : List Ob -> List Nat -> List Ob -> Prop where
 | nil {A : List Ob} : DelD A [] A
 | cons {q : Nat} {D : List Nat} {A A1 A2 : List Ob} (h : DelO A (.dfr q) A1) (k : DelD A1 D A2) : DelD A (q :: D) A2
theorem Hld.add {s0 s s' : St} {A : List Ob} (h : Hld s0 A s) (x : Ext s s') {y : Ob} (hb : y.b = s.n) (ho : y.Is s') : Hld s0 (y :: A) s' :=
 ⟨h.1, h.2.1.trans x, by rw [hb]; exact h.2.1.2.1, ho, fun z hz => by have := (h.2.2.lt h.wf z hz).1; omega, h.2.2.ext h.wf x⟩
section
variable {P : Program} {C : Nat -> (CF -> Bool) -> Bool} {X : FuncId -> List Value -> St -> (Value -> St -> Bool) -> Bool} {s0 : St} {n nt : Nat} {env : List (Nat × Value)} {D : List Nat} {A : List Ob}
def EndD (s0 : St) (res : List CRes) (Q : Value -> List Ob -> Prop) : Out -> List (Nat × Value) -> List Nat -> List Ob -> Prop
 | .normal, e, D, A => ∃ A2 vs A', DelD A D A2 /\ ResA s0 res e A2 vs /\ A'.Sublist A2 /\ Q (one vs) A'
 | .ret, e, D, A => ∃ A2 vs A', DelD A D A2 /\ ResA s0 res e A2 vs /\ A'.Sublist A2 /\ Q (one vs) A'
 | _, _, _, _ => False
theorem endCall_of {T : BT Value} {e : List (Nat × Value)} {res : List CRes} {A2 : List Ob} {vs : List Value} {k : Value -> St -> Bool} (hT : Cov nt T e) (hd : DelD A D A2) (hr : ResA s0 res e A2 vs) (hk : ∀ s', Hld s0 A2 s' -> k (one vs) s' = true) :
 ∀ {s : St}, Hld s0 A s -> endCallK res T D s k = true := by
 induction hd with
 | nil => exact fun {s} hs => resK_of hT (k := fun l => oneK l (fun v => k v s)) (hr.e hs) (oneK_of (hk _ hs))
 | @cons q D A A1 A2 h hk' ih =>
  intro s hs;have hq : s.h.get q = some (.deferred true) := hs.2.2.is h.mem;show objK s q _ = true;refine objK_of hq ?_;show storeK s q (.deferred false) (fun s => endCallK res T D s k) = true;exact storeK_of hs.wf (Full.lt hs.wf hq) (fun s1 hm _ _ => ih hr hk (hs.delO h hm))
theorem call_enterD {f : FuncId} {vs : List Value} {s : St} {Q : Value -> List Ob -> Prop} {body : CC} {res : List CRes} (hC : ∀ k, k ⟨body, nt, res⟩ = true -> C f k = true) (hl : Nat.ble vs.length nt = true) (hs : Hld s0 A s)
 (h : RunA P C X s0 n nt none body (argsE 0 vs) [] A (EndD s0 res Q)) : CallQ P C X (n + 1) f vs s (fun v s' => ∃ A', Hld s0 A' s' /\ Q v A') := fun k hk => by
 have key : callK C (oracX P C X n) f vs s k = true := by
  refine hC _ ?_;show ifB (Nat.ble (lenL vs) nt) (putsK (full nt) 0 vs (fun T => (oracX P C X n).code none body T [] s (fun x T D s => onOut x (endCallK res T D s k) (endCallK res T D s k) (fun _ => false) (fun _ => false)))) false = true;rw [lenL_eq, hl];have hl' : vs.length <= nt := by simpa using hl
  refine putsK_of (full_full nt) (by omega) (fun T hf hg => (h.go s hs) T ⟨hf, fun t v hv => ?_⟩ _ (fun x e T' D' s' hT' hq => ?_))
  ·obtain ⟨h1, h2, h3⟩ := look_args hv
   rw [hg, if_pos ⟨h1, h2⟩]; exact h3
  ·obtain ⟨A1, hs1, hq⟩ := hq
   have fin : (∃ A2 vs A', DelD A1 D' A2 /\ ResA s0 res e A2 vs /\ A'.Sublist A2 /\ Q (one vs) A') -> endCallK res T' D' s' k = true := by
    rintro ⟨A2, vs, A', h1, h2, h3, h4⟩;exact endCall_of hT' h1 h2 (fun s2 hs2 => hk _ _ ⟨A', hs2.sub h3, h4⟩) hs1
   cases x with
   | normal => exact fin hq
   | ret => exact fin hq
   | exit i => exact hq.elim
   | goto i => exact hq.elim
 show (X f vs s k || callK C (oracX P C X n) f vs s k) = true;rw [key, Bool.or_true]
theorem a_inl {R : Value -> List Ob -> Prop} {f : Ev.X} {l : List Ev.X} {g ng : Nat} {p c vs : List Value} {body : CC} {res : List CRes} (hf : xv env f = some (.func (.func g) ⟨p⟩ ⟨c⟩)) (hl : xvs env l = some vs) (hC : ∀ k, k ⟨body, ng, res⟩ = true -> C g k = true) (hn : Nat.ble (p ++ (vs ++ c)).length ng = true)
 (h : RunA P C X s0 n ng none body (argsE 0 (p ++ (vs ++ c))) [] A (EndD s0 res R)) : OpA P C X s0 (n + 1) nt (.call f l) env A R := .mk fun s hs => o_call hf hl (call_enterD hC hn hs h)
theorem endD1 {t : Nat} {Q : Value -> List Ob -> Prop} {v : Value} {A2 : List Ob} (ht : look env t = some v) (hd : DelD A D A2) (hq : Q v A2) : EndD s0 [.tmp t] Q .ret env D A := ⟨A2, [v], A2, hd, ⟨v, [], rfl, ht, rfl⟩, List.Sublist.refl _, hq⟩
theorem endD0n {Q : Value -> List Ob -> Prop} {A2 : List Ob} (hd : DelD A D A2) (hq : Q (.tuple ⟨[]⟩) A2) : EndD s0 [] Q .normal env D A := ⟨A2, [], A2, hd, rfl, List.Sublist.refl _, hq⟩
theorem endD2 {t u : Nat} {Q : Value -> List Ob -> Prop} {v w : Value} {A2 : List Ob} (ht : look env t = some v) (hu : look env u = some w) (hd : DelD A D A2) (hq : Q (.tuple #[v, w]) A2) : EndD s0 [.tmp t, .tmp u] Q .ret env D A := ⟨A2, [v, w], A2, hd, ⟨v, [w], rfl, ht, w, [], rfl, hu, rfl⟩, List.Sublist.refl _, hq⟩
/-! Small maps. -/
/-! Loops over a function's calls. -/
def After (Q : Out -> List (Nat × Value) -> List Nat -> List Ob -> Prop) (nt : Nat) (env : List (Nat × Value)) (D : List Nat) (ps : List Nat) (a b : CC) (q l : Nat) : Value -> List Ob -> Prop := fun _ A' =>
 ∃ st pend A'', DelO A' (.loop l st pend nt env ps a b q) A'' /\ st ≠ .busy /\ Q pend env D A''
theorem rangeEnd_of {T : BT Value} {ps : List Nat} {a b : CC} {q l : Nat} {Q : Out -> List (Nat × Value) -> List Nat -> List Ob -> Prop} {k : Out -> BT Value -> List Nat -> St -> Bool} {v : Value} {s : St} (hT : Cov nt T env) (hs : Hld s0 A s) (h : After Q nt env D ps a b q l v A)
 (hk : ∀ x env' T' D' s', Cov nt T' env' -> (∃ A', Hld s0 A' s' /\ Q x env' D' A') -> k x T' D' s' = true) : rangeEndK l T D s k = true := by
 obtain ⟨st, pend, A'', h1, h2, h3⟩ := h;obtain ⟨T', h4, h5⟩ := hs.2.2.is h1.mem;have fin : storeK s l (.loop .exhausted pend T' ps a b q) (k pend T D) = true := storeK_of hs.wf (Full.lt hs.wf h4) (fun s1 hm _ _ => hk _ _ _ _ _ hT ⟨A'', hs.delO h1 hm, h3⟩);show objK s l _ = true;refine objK_of h4 ?_;cases st with
 | busy => exact absurd rfl h2
 | ready => exact fin
 | done => exact fin
 | exhausted => exact fin
theorem rangeAt_of {T : BT Value} {ps : List Nat} {a b : CC} {q g ng : Nat} {p c : List Value} {body : CC} {res : List CRes} {Q : Out -> List (Nat × Value) -> List Nat -> List Ob -> Prop} {k : Out -> BT Value -> List Nat -> St -> Bool} {s : St} (hT : Cov nt T env) (hs : Hld s0 A s)
 (hC : ∀ k, k ⟨body, ng, res⟩ = true -> C g k = true) (hn : ∀ l, Nat.ble (p ++ (.func (.yield l) ⟨[]⟩ ⟨[]⟩ :: c)).length ng = true)
 (h : ∀ l, RunA P C X s0 n ng none body (argsE 0 (p ++ (.func (.yield l) ⟨[]⟩ ⟨[]⟩ :: c))) [] (.loop l .ready .normal nt env ps a b q :: A) (EndD s0 res (After Q nt env D ps a b q l)))
 (hk : ∀ x env' T' D' s', Cov nt T' env' -> (∃ A', Hld s0 A' s' /\ Q x env' D' A') -> k x T' D' s' = true) : rangeAtK (oracX P C X (n + 1)) (.func (.func g) ⟨p⟩ ⟨c⟩) ps a b T D q s k = true := by
 refine nOf_of ?_;show newK s (.loop .ready .normal T ps a b q) (fun s' => (oracX P C X (n + 1)).call g (appL p (.func (.yield s.n) #[] #[] :: c)) s' (fun _ s' => rangeEndK s.n T D s' k)) = true;refine newK_of hs.wf (fun s1 hx _ hg => ?_);have ha : ∀ l r : List Value, appL l r = l ++ r := fun l r => by
  induction l with
  | nil => rfl
  | cons v l ih => exact congrArg (v :: ·) ih
 rw [ha];exact call_enterD hC (hn s.n) (hs.add hx (y := .loop s.n .ready .normal nt env ps a b q) J ⟨T, hg, hT⟩) (h s.n) _ (fun v s2 ⟨A2, hs2, hq⟩ => rangeEnd_of hT hs2 hq hk)
theorem r_range {f : Ev.X} {ps : List Nat} {a b : CC} {g ng : Nat} {p c : List Value} {body : CC} {res : List CRes} {Q : Out -> List (Nat × Value) -> List Nat -> List Ob -> Prop} (hf : xv env f = some (.func (.func g) ⟨p⟩ ⟨c⟩)) (hC : ∀ k, k ⟨body, ng, res⟩ = true -> C g k = true) (hn : Nat.ble (p.length + 1 + c.length) ng = true)
 (h : ∀ q l, RunA P C X s0 n ng none body (argsE 0 (p ++ (.func (.yield l) ⟨[]⟩ ⟨[]⟩ :: c))) [] (.loop l .ready .normal nt env ps a b q :: .dfr q :: A) (EndD s0 res (After Q nt env (q :: D) ps a b q l))) : RunA P C X s0 (n + 2) nt none (.range f ps a b) env D A Q := .mk fun s hs T hT k hk => by
 refine Y6 hT (k := fun f => rangeK (oracX P C X (n + 1)) none f ps a b T D s k) hf ?_;show nOf s (fun q => newK s (.deferred true) (fun s' => rangeAtK (oracX P C X (n + 1)) (.func (.func g) ⟨p⟩ ⟨c⟩) ps a b T (q :: D) q s' k)) = true;refine nOf_of ?_;show newK s (.deferred true) (fun s' => rangeAtK (oracX P C X (n + 1)) _ ps a b T (s.n :: D) s.n s' k) = true;refine newK_of hs.wf (fun s1 hx _ hg => ?_);exact rangeAt_of hT (hs.add hx (y := .dfr s.n) J hg) hC (fun l => by rw [<- hn]; congr 1; simp; omega) (h s.n) hk
def AfterV (Q : Out -> List (Nat × Value) -> List Nat -> List Ob -> Prop) (nt : Nat) (env : List (Nat × Value)) (D : List Nat) (ps : List Nat) (a b : CC) (q l : Nat) (LO : Ob) : Value -> List Ob -> Prop := fun _ A' =>
 (∃ A'', DelO A' LO A'' /\ Q .normal env D A'') ∨ ∃ x A'', DelO A' (.loop l .done x nt env ps a b q) A'' /\ Q x env D A''
theorem EndD.mono {res : List CRes} {Q Q' : Value -> List Ob -> Prop} (h : ∀ v A, Q' v A -> Q v A) : ∀ {x : Out} {e : List (Nat × Value)} {D : List Nat} {A : List Ob}, EndD s0 res Q' x e D A -> EndD s0 res Q x e D A := by
 intro x e D A hq;cases x with
 | normal => obtain ⟨A2, vs, A', h1, h2, h3, h4⟩ := hq; exact ⟨A2, vs, A', h1, h2, h3, h _ _ h4⟩
 | ret => obtain ⟨A2, vs, A', h1, h2, h3, h4⟩ := hq; exact ⟨A2, vs, A', h1, h2, h3, h _ _ h4⟩
 | exit i => exact hq
 | goto i => exact hq
theorem RunA.mono {r : Option Nat} {c : CC} {Q Q' : Out -> List (Nat × Value) -> List Nat -> List Ob -> Prop} (h : RunA P C X s0 n nt r c env D A Q') (hq : ∀ x e D A, Q' x e D A -> Q x e D A) : RunA P C X s0 n nt r c env D A Q := .mk fun s hs =>
 (h.go s hs).mono (fun x e D s' hh => by obtain ⟨A', h1, h2⟩ := hh; exact ⟨A', h1, hq _ _ _ _ h2⟩)
theorem AfterV.to {Q : Out -> List (Nat × Value) -> List Nat -> List Ob -> Prop} {ps : List Nat} {a b : CC} {q l : Nat} {v : Value} (h : AfterV Q nt env D ps a b q l (.loop l .ready .normal nt env ps a b q) v A) : After Q nt env D ps a b q l v A := by
 rcases h with ⟨A', h1, h2⟩ | ⟨x, A', h1, h2⟩
 ·exact ⟨_, _, A', h1, (fun h => by cases h), h2⟩
 ·exact ⟨_, _, A', h1, (fun h => by cases h), h2⟩
theorem r_rangeV {f : Ev.X} {ps : List Nat} {a b : CC} {g ng : Nat} {p c : List Value} {body : CC} {res : List CRes} {Q : Out -> List (Nat × Value) -> List Nat -> List Ob -> Prop} (hf : xv env f = some (.func (.func g) ⟨p⟩ ⟨c⟩)) (hC : ∀ k, k ⟨body, ng, res⟩ = true -> C g k = true) (hn : Nat.ble (p.length + 1 + c.length) ng = true)
 (h : ∀ q l LO BO, LO = Ob.loop l .ready .normal nt env ps a b q -> BO = Ob.loop l .busy .normal nt env ps a b q -> RunA P C X s0 n ng none body (argsE 0 (p ++ (.func (.yield l) ⟨[]⟩ ⟨[]⟩ :: c))) [] (LO :: .dfr q :: A) (EndD s0 res (AfterV Q nt env (q :: D) ps a b q l LO))) : RunA P C X s0 (n + 2) nt none (.range f ps a b) env D A Q :=
 r_range hf hC hn (fun q l => (h q l _ _ rfl rfl).mono (fun _ _ _ _ hq => hq.mono (fun _ _ => AfterV.to)))
def zipE : List Nat -> List Value -> List (Nat × Value) -> Option (List (Nat × Value))
 | [], [], e => some e
 | t :: ps, v :: vs, e => zipE ps vs ((t, v) :: e)
 | _, _, _ => none
theorem setTs_of : ∀ {ps : List Nat} {vs : List Value} {T : BT Value} {env env' : List (Nat × Value)} {k : BT Value -> Bool}, Cov nt T env -> zipE ps vs env = some env' -> ps.all (fun t => Nat.blt t nt) = true -> (∀ T', Cov nt T' env' -> k T' = true) -> setTsK T ps vs k = true
 | [], [], T, env, env', k, hT, hz, _, hk => by cases hz; exact hk T hT
 | [], _ :: _, _, _, _, _, _, hz, _, _ => by cases hz
 | _ :: _, [], _, _, _, _, _, hz, _, _ => by cases hz
 | t :: ps, v :: vs, T, env, env', k, hT, hz, hp, hk => by
  rw [List.all_cons, Bool.and_eq_true] at hp;exact putTK_of (k := fun T => setTsK T ps vs k) hT (d := some t) (v := v) hp.1 (fun T' hT' => setTs_of hT' hz hp.2 hk)
def YEnd (R : Value -> List Ob -> Prop) (LO BO : Ob) (DN : Out -> Ob) : Out -> List (Nat × Value) -> List Nat -> List Ob -> Prop
 | .normal, _, _, A => ∃ A', PutO A BO LO A' /\ R (.bool true) A'
 | x, _, _, A => ∃ A', PutO A BO (DN x) A' /\ R (.bool false) A'
def Body (P : Program) (C : Nat -> (CF -> Bool) -> Bool) (X : FuncId -> List Value -> St -> (Value -> St -> Bool) -> Bool) (s0 : St) (n : Nat) (R : Value -> List Ob -> Prop) (l nt : Nat) (c : CC) (LO BO : Ob) (DN : Out -> Ob) : Out -> List (Nat × Value) -> List Nat -> List Ob -> Prop
 | .normal, e, D, A => ∃ A', PutO A LO BO A' /\ RunA P C X s0 n nt (some l) c e D A' (YEnd R LO BO DN)
 | _, _, _, _ => False
theorem a_yieldV {R : Value -> List Ob -> Prop} {f : Ev.X} {x : List Ev.X} {l ny q : Nat} {vs : List Value} {LO BO : Ob} {e0 e1 : List (Nat × Value)} {ps : List Nat} {a c : CC} (hf : xv env f = some (.func (.yield l) ⟨[]⟩ ⟨[]⟩)) (hl : xvs env x = some vs) (hLO : LO = .loop l .ready .normal ny e0 ps a c q) (hBO : BO = .loop l .busy .normal ny e0 ps a c q) (h0 : LO ∈ A) (hz : zipE ps vs e0 = some e1) (hp : ps.all (fun t => Nat.blt t ny) = true)
 (h : RunA P C X s0 n ny (some l) a e1 [] A (Body P C X s0 n R l ny c LO BO (fun x => .loop l .done x ny e0 ps a c q))) : OpA P C X s0 n nt (.call f x) env A R := .mk fun s hs T hT k hk => by
 subst hLO hBO;refine Y6 hT (k := fun f => valsK T x (fun l => callVK (oracX P C X n) s l f k)) hf (valsE_of hT (k := fun l => callVK (oracX P C X n) s l _ k) hl ?_);obtain ⟨T0, h1, h2⟩ := hs.2.2.is h0;show objK s l _ = true;refine objK_of h1 ?_;show setTsK T0 ps vs (fun T => (oracX P C X n).code (some l) a T [] s (fun x T D s => onOut x (bodyK (oracX P C X n) l c T D s k) false (fun _ => false) (fun _ => false))) = true;refine setTs_of h2 hz hp (fun T1 hT1 => (h.go s hs) T1 hT1 _ (fun x e T2 D2 s2 hT2 hq => ?_));obtain ⟨A2, hs2, hq⟩ := hq;cases x with
 | ret => exact hq.elim
 | exit i => exact hq.elim
 | goto i => exact hq.elim
 | normal =>
  obtain ⟨A3, hp3, hr⟩ := hq;obtain ⟨T3, h3, h4⟩ := hs2.2.2.is hp3.mem;show objK s2 l _ = true;refine objK_of h3 ?_;show storeK s2 l (.loop .busy .normal T3 ps a c q) (fun s => (oracX P C X n).code (some l) c T2 D2 s (fun x _ _ s => endK l x s k)) = true;refine storeK_of hs2.wf (Full.lt hs2.wf h3) (fun s3 hm3 _ hg3 => ?_);refine (hr.go s3 (hs2.putO hp3 rfl hm3 ⟨T3, hg3, h4⟩)) T2 hT2 _ (fun x e T4 D4 s4 _ hq => ?_);obtain ⟨A4, hs4, hq⟩ := hq;have fin : ∀ {st : LoopState} {y : Out} {v : Bool}, (∃ A', PutO A4 (.loop l .busy .normal ny e0 ps a c q) (.loop l st y ny e0 ps a c q) A' /\ R (.bool v) A') -> ∀ {T : BT Value}, s4.h.get l = some (.loop .busy .normal T ps a c q) -> Cov ny T e0 -> storeK s4 l (.loop st y T ps a c q) (k (.bool v)) = true := by
   rintro st y v ⟨A5, hp5, hr5⟩ T hg hc;exact storeK_of hs4.wf (Full.lt hs4.wf hg) (fun s5 hm5 _ hg5 => hk _ _ ⟨A5, hs4.putO hp5 rfl hm5 ⟨T, hg5, hc⟩, hr5⟩)
  show objK s4 l _ = true;cases x with
  | normal =>
   have hq' := hq;obtain ⟨A5, hp5, _⟩ := hq';obtain ⟨T5, h5, h6⟩ := hs4.2.2.is hp5.mem;exact objK_of h5 (fin hq h5 h6)
  | ret =>
   have hq' := hq;obtain ⟨A5, hp5, _⟩ := hq';obtain ⟨T5, h5, h6⟩ := hs4.2.2.is hp5.mem;exact objK_of h5 (fin hq h5 h6)
  | exit i =>
   have hq' := hq;obtain ⟨A5, hp5, _⟩ := hq';obtain ⟨T5, h5, h6⟩ := hs4.2.2.is hp5.mem;exact objK_of h5 (fin hq h5 h6)
  | goto i =>
   have hq' := hq;obtain ⟨A5, hp5, _⟩ := hq';obtain ⟨T5, h5, h6⟩ := hs4.2.2.is hp5.mem;exact objK_of h5 (fin hq h5 h6)
end
end
end Go.Proofs.Ytoeklhdklcpllaa.Ev
namespace Go.Proofs.Ytoeklhdklcpllaa.Ev
open Go Go.RowKit
theorem U6 {a : Option Addr} {n c : Nat} (h : ∀ b, a = some b -> b.spot = none) : eqV (.slice a n c) (.slice a n c) = true := by
 rcases a with _ | ⟨b, o, sp⟩
 ·simp [eqV]
 ·have : sp = none := h _ rfl
  subst this; simp [eqV]
theorem end1A {s0 : St} {env : List (Nat × Value)} {A A' : List Ob} {t : Nat} {Q : Value -> List Ob -> Prop} {v : Value} (ht : look env t = some v) (hs : A'.Sublist A) (hq : Q v A') : EndA s0 [.tmp t] Q .ret env [] A := ⟨rfl, [v], A', ⟨v, [], rfl, ht, rfl⟩, hs, hq⟩
theorem end2A {s0 : St} {env : List (Nat × Value)} {A A' : List Ob} {t u : Nat} {Q : Value -> List Ob -> Prop} {v w : Value} (ht : look env t = some v) (hu : look env u = some w) (hs : A'.Sublist A) (hq : Q (.tuple #[v, w]) A') : EndA s0 [.tmp t, .tmp u] Q .ret env [] A := ⟨rfl, [v, w], A', ⟨v, [w], rfl, ht, w, [], rfl, hu, rfl⟩, hs, hq⟩
theorem segL_all {l : List Value} : segL l 0 l.length = some l := by
 have key : ∀ (m : List Value) (i : Nat), (∀ j, j < m.length -> l[i + j]? = m[j]?) -> segL l i m.length = some m := by
  intro m
  induction m with
  | nil => intro i _; rfl
  | cons v m ih =>
   intro i h;have h0 : l[i]? = some v := by simpa using h 0 (by simp)
   have h1 := ih (i + 1) (fun j hj => by have := h (j + 1) (by simp; omega); rw [List.getElem?_cons_succ] at this; rw [<- this]; congr 1; omega);simp only [List.length_cons, segL, h0, h1]
 exact key l 0 (fun j _ => by rw [Nat.zero_add])
theorem Src.own {s0 : St} {A : List Ob} {size n b e : Nat} {op : Bool} {l : List Value} {c : Nat} (h : Own A b e op l) (hl : Nat.beq l.length (n * size) = true) (h0 : l ≠ []) : Src s0 A size n l (.slice (some ⟨b, 0, none⟩) n c) :=
 ⟨b, 0, c, rfl, by simpa using hl, h0, .inl ⟨e, op, l, h, segL_all⟩⟩
end Go.Proofs.Ytoeklhdklcpllaa.Ev
namespace Go.Proofs.Ytoeklhdklcpllaa.Ev
open Go Go.RowKit
noncomputable section
def ints (l : List Int) : List Value := l.map (.int .i64)
theorem ints_len {l : List Int} : (ints l).length = l.length := by simp [ints]
theorem ints_get {l : List Int} {j : Nat} (h : j < l.length) : (ints l)[0 + j * 1]? = some (.int .i64 (l.getD j 0)) := by
 rw [Nat.zero_add, Nat.mul_one];simp [ints, List.getD_eq_getElem?_getD, h]
theorem ints_set {l : List Int} {j : Nat} {v : Int} : (ints l).set (0 + j * 1) (.int .i64 v) = ints (l.set j v) := by
 rw [Nat.zero_add, Nat.mul_one]; simp [ints, List.map_set]
theorem Ats.get {s : St} {b : Nat} : ∀ {l : List Value} {off j : Nat} {v : Value}, Ats s b off l -> l[j]? = some v -> At s b (off + j) v
 | [], _, _, _, _, h => by simp at h
 | u :: l, off, 0, v, ⟨h1, _⟩, h => by simp at h; subst h; exact h1
 | u :: l, off, j + 1, v, ⟨_, h2⟩, h => by
  have := Ats.get (j := j) h2 (by simpa using h)
  rwa [show off + 1 + j = off + (j + 1) by omega] at this
structure IntsE (s : St) (a : Option Addr) (l : List Int) : Prop where
 spot : ∀ b, a = some b -> b.spot = none
 addr : l ≠ [] -> ∃ b o, a = some ⟨b, o, none⟩
 cells : ∀ b o, a = some ⟨b, o, none⟩ -> Ats s b o (ints l)
 fit : ∀ x ∈ l, -9223372036854775808 <= x /\ x < 9223372036854775808
 len : l.length < 140737488355328
theorem IntsE.ext {s s' : St} {a : Option Addr} {l : List Int} (h : IntsE s a l) (hw : Wf s) (x : Ext s s') : IntsE s' a l := ⟨h.spot, h.addr, fun b o ha => (h.cells b o ha).ext hw x, h.fit, h.len⟩
theorem IntsE.at {s : St} {a : Option Addr} {l : List Int} (h : IntsE s a l) {b o : Nat} (ha : a = some ⟨b, o, none⟩) {j : Nat} (hj : j < l.length) : At s b (o + j * 1) (.int .i64 (l.getD j 0)) := by
 have := ints_get hj;rw [Nat.zero_add] at this;exact (h.cells b o ha).get this
theorem IntsE.own {s : St} {b e : Nat} {op : Bool} {l : List Int} (h : Obj s b e op (ints l)) (hf : ∀ x ∈ l, -9223372036854775808 <= x /\ x < 9223372036854775808) (hl : l.length < 140737488355328) : IntsE s (some ⟨b, 0, none⟩) l :=
 ⟨fun c hc => by cases hc; rfl, fun _ => ⟨b, 0, rfl⟩, fun c o hc => by cases hc; exact h.all, hf, hl⟩
theorem IntsE.nil {s : St} : IntsE s none [] := ⟨fun c hc => (by cases hc), fun h => absurd rfl h, fun c o hc => (by cases hc), fun x hx => (by cases hx), (by simp)⟩
section
variable {P : Program} {C : Nat -> (CF -> Bool) -> Bool} {X : FuncId -> List Value -> St -> (Value -> St -> Bool) -> Bool} {s0 : St} {n nt : Nat} {env : List (Nat × Value)} {A : List Ob} {R : Value -> List Ob -> Prop}
theorem V7 {x i : Ev.X} {a : Option Addr} {l : List Int} {m c j : Nat} {ik : IntKind} {z : Int} (hl : IntsE s0 a l) (hx : xv env x = some (.slice a m c)) (hi : xv env i = some (.int ik z)) (hz : z = (j : Int)) (hm : m = l.length) (hj : j < l.length) (h : ∀ b o, a = some ⟨b, o, none⟩ -> R (.pointer (some ⟨b, o + j * 1, none⟩)) A) : OpA P C X s0 n nt (.ia x i 1) env A R := by
 obtain ⟨b, o, ha⟩ := hl.addr (by rintro rfl; simp at hj);subst ha;exact W4 hx hi hz (by omega) (h b o rfl)
theorem a_ldI {a : Ev.X} {b e j : Nat} {op : Bool} {l : List Int} (ha : xv env a = some (.pointer (some ⟨b, 0 + j * 1, none⟩))) (ho : Own A b e op (ints l)) (hj : j < l.length) (h : R (.int .i64 (l.getD j 0)) A) : OpA P C X s0 n nt (.ld a none) env A R := Z1 ha ho (ints_get hj) h
theorem U5 {a : Ev.X} {b e j : Nat} {op : Bool} {l : List Int} {x : Int} (ha : xv env a = some (.pointer (some ⟨b, 0 + j * 1, none⟩))) (ho : Own A b e op (ints l)) (hj : j < l.length) (hx : l.getD j 0 = x) (h : R (.int .i64 x) A) : OpA P C X s0 n nt (.ld a none) env A R := a_ldI ha ho hj (by rw [hx]; exact h)
theorem getD_set_ne {l : List Int} {i j : Nat} {v : Int} (h : i ≠ j) : (l.set i v).getD j 0 = l.getD j 0 := by
 simp [List.getD_eq_getElem?_getD, List.getElem?_set, h]
theorem Q8 {a x : Ev.X} {b e j : Nat} {op : Bool} {l : List Int} {v : Int} {A' : List Ob} (ha : xv env a = some (.pointer (some ⟨b, 0 + j * 1, none⟩))) (hx : xv env x = some (.int .i64 v)) (hu : Upd A b e op (ints l) (ints (l.set j v)) A') (hj : j < l.length) (h : R undef A') : OpA P C X s0 n nt (.st a x none) env A R :=
 a_st ha hx (by rw [ints_set]; exact hu) (by rw [ints_len, Nat.zero_add, Nat.mul_one]; simpa using hj) J h
theorem repN1 {v : Value} : ∀ {n : Nat}, repeatN [v] n = List.replicate n v
 | 0 => rfl
 | n + 1 => by
  show [v] ++ repeatN [v] n = _;rw [repN1]; rfl
theorem slc_first {rw : Nat -> Option (Nat × Nat × Bool)} {e b o m c h : Nat} (hh : h <= c) (hc : c < OPEN) : evSlc rw e 1 (.slice (some ⟨b, o, none⟩) m c) none (some (.int .i64 (h : Int))) none = some (.slice (some ⟨b, o, none⟩) h c) := by
 show sel (Nat.ble OPEN c) _ (sel (Nat.ble h c) (evSlcAt b o m c 1 0 h none) none) = _;rw [show Nat.ble OPEN c = false from by
  cases hb : Nat.ble OPEN c with
  | false => rfl
  | true => rw [Nat.ble_eq] at hb; omega, show Nat.ble h c = true from by rw [Nat.ble_eq]; exact hh]
 show sel (Nat.ble 0 h) (some (Value.slice (some ⟨b, sel (Nat.beq c 0) o (o + 0 * 1), none⟩) (h - 0) (c - 0))) none = _;rw [show Nat.ble 0 h = true from by rw [Nat.ble_eq]; exact Nat.zero_le _];cases Nat.beq c 0 <;> simp [sel]
theorem a_mks1 {e bytes m c : Nat} {v : Value} {x y : Ev.X} (hx : xv env x = some (.int .i64 (m : Int))) (hy : xv env y = some (.int .i64 (c : Int))) (hc : m <= c) (hb1 : c <= 1048576) (hb2 : bytes * c <= 1073741824)
 (h : ∀ b, R (.slice (some ⟨b, 0, none⟩) m c) (.row b e false (List.replicate c v) :: A)) : OpA P C X s0 n nt (.mks e 1 bytes [v] x y) env A R := .mk fun s hs T hT k hk => by
 refine Y6 hT (k := fun l => valK T y (fun c => mksK s e 1 bytes [v] l c k)) hx (Y6 hT (k := fun c => mksK s e 1 bytes [v] _ c k) hy ?_);show ifB true (ifB true (ifB (Nat.ble m c) (ifB (Nat.ble c 1048576) (ifB (Nat.ble (Nat.mul bytes c) 1073741824) (addsK .leaf 0 (repeatN [v] c) _) false) false) false) false) false = true;rw [show Nat.ble m c = true from by rw [Nat.ble_eq]; exact hc, show Nat.ble c 1048576 = true from by rw [Nat.ble_eq]; exact hb1, show Nat.ble (Nat.mul bytes c) 1073741824 = true from by rw [Nat.ble_eq]; exact hb2];show addsK .leaf 0 (repeatN [v] c) _ = true;rw [repN1];refine rowOfList (fun t ht hg => nOf_of ?_);rw [forceN_eq];exact newRow_of (l := List.replicate c v) (by simp) hs.wf ht hg (fun s' xx _ ho => hk _ _ ⟨_, hs.new xx ho, h s.n⟩)
theorem ints_rep {c : Nat} : List.replicate c (Value.int .i64 0) = ints (List.replicate c 0) := by simp [ints]
theorem a_mksI {e bytes m c : Nat} {x y : Ev.X} (hx : xv env x = some (.int .i64 (m : Int))) (hy : xv env y = some (.int .i64 (c : Int))) (hc : m <= c) (hb1 : c <= 1048576) (hb2 : bytes * c <= 1073741824)
 (h : ∀ b, R (.slice (some ⟨b, 0, none⟩) m c) (.row b e false (ints (List.replicate c 0)) :: A)) : OpA P C X s0 n nt (.mks e 1 bytes [.int .i64 0] x y) env A R :=
 a_mks1 hx hy hc hb1 hb2 (by rw [ints_rep]; exact h)
theorem a_appc {e size bytes b len cap m : Nat} {z more l : List Value} {x y : Ev.X} {yv : Value} {A' : List Ob} (hx : xv env x = some (.slice (some ⟨b, 0, none⟩) len cap)) (hy : xv env y = some yv) (hsrc : Src s0 A size m more yv) (hu : Upd A b e false l (over l (len * size) more) A') (hl : l.length = cap * size) (hle : len + m <= cap) (hcap : cap < OPEN) (hb1 : len + m <= 1048576) (hb2 : bytes * (len + m) <= 1073741824)
 (h : R (.slice (some ⟨b, 0, none⟩) (len + m) cap) A') : OpA P C X s0 n nt (.app e size bytes z false x y) env A R := .mk fun s hs T hT k hk => by
 refine Y6 hT (k := fun x => valK T y (fun y => appK s e size bytes z false x y k)) hx (Y6 hT (k := fun y => appK s e size bytes z false _ y k) hy ?_);unfold appK;refine moreK_of hs hsrc ?_;obtain ⟨_, _, _, _, hml, hm0, _⟩ := hsrc;have hm00 : m ≠ 0 := fun e => hm0 (List.eq_nil_of_length_eq_zero (by rw [hml, e, Nat.zero_mul]))
 show ifB (Nat.beq cap 0) _ (ifB (Nat.ble (Nat.add len m) 1048576) (ifB (Nat.ble (Nat.mul bytes (Nat.add len m)) 1073741824) (appAtK s e size b 0 len cap m more k) false) false) = true;rw [beqF (show cap ≠ 0 by omega)];show ifB (Nat.ble (Nat.add len m) 1048576) (ifB (Nat.ble (Nat.mul bytes (Nat.add len m)) 1073741824) (appAtK s e size b 0 len cap m more k) false) false = true;rw [show Nat.ble (Nat.add len m) 1048576 = true from by rw [Nat.ble_eq]; exact hb1, show Nat.ble (Nat.mul bytes (Nat.add len m)) 1073741824 = true from by rw [Nat.ble_eq]; exact hb2];show appAtK s e size b 0 len cap m more k = true;obtain ⟨c, hc, hf, hg⟩ := hs.own hu.own;unfold appAtK;refine objK_of (k := _) hc ?_;have hfit : (len + m) * size <= l.length := by rw [hl]; exact Nat.mul_le_mul_right _ hle
 have hfit2 : len * size + more.length <= l.length := by rw [hml, <- Nat.add_mul]; exact hfit
 show ifB (Nat.beq e e) (ifB (Nat.ble OPEN cap) _ (ifB (Nat.ble (Nat.add len m) cap) (ifB (Nat.ble (Nat.add 0 (Nat.mul (Nat.add len m) size)) l.length) (putsK c (Nat.add 0 (Nat.mul len size)) more _) false) _)) false = true;rw [show Nat.beq e e = true from by rw [Nat.beq_eq], show Nat.ble OPEN cap = false from by
  cases hb : Nat.ble OPEN cap with
  | false => rfl
  | true => rw [Nat.ble_eq] at hb; omega, show Nat.ble (Nat.add len m) cap = true from by rw [Nat.ble_eq]; exact hle, show Nat.ble (Nat.add 0 (Nat.mul (Nat.add len m) size)) l.length = true from by rw [Nat.ble_eq]; show 0 + (len + m) * size <= l.length; omega]
 show putsK c (Nat.add 0 (Nat.mul len size)) more _ = true;rw [show Nat.add 0 (Nat.mul len size) = len * size from Nat.zero_add _];refine putsK_of hf hfit2 (fun c' hc' hg' => storeK_of hs.wf (Full.lt hs.wf hc) (fun s1 hm1 hn1 hd1 => ?_));rw [forceN_eq];have hol : (over l (len * size) more).length = l.length := over_length hfit2;refine hk _ _ ⟨_, hs.upd hu hm1 ⟨c', by rw [hol]; exact hd1, by rw [hol]; exact hc', fun j => ?_⟩, h⟩;rw [hg', over_get hfit2];by_cases h1 : len * size <= j /\ j < len * size + more.length
 ·rw [if_pos h1, if_pos h1]
 ·rw [if_neg h1, if_neg h1, hg]
end
theorem Own.app {T A : List Ob} {b e : Nat} {op : Bool} {l : List Value} (h : Own A b e op l) : Own (T ++ A) b e op l := by
 induction T with
 | nil => exact h
 | cons x T ih => exact .next ih
theorem Upd.app {T A A' : List Ob} {b e : Nat} {op : Bool} {l l' : List Value} (h : Upd A b e op l l' A') : Upd (T ++ A) b e op l l' (T ++ A') := by
 induction T with
 | nil => exact h
 | cons x T ih => exact .next ih
end
end Go.Proofs.Ytoeklhdklcpllaa.Ev
namespace Go.Proofs.Ytoeklhdklcpllaa.Ev
open Go Go.RowKit
section
variable {P : Program} {C : Nat -> (CF -> Bool) -> Bool} {X : FuncId -> List Value -> St -> (Value -> St -> Bool) -> Bool} {s0 : St} {n nt : Nat} {r : Option Nat} {env : List (Nat × Value)} {D : List Nat} {A : List Ob}
section
variable {Q : List (Nat × Value) -> List Ob -> Prop} {d : Nat} {l : List Item}
theorem kO {c : COp} (hd : okD (some d) nt = true) (h : OpA P C X s0 n nt c env A (fun v A' => ItA P C X s0 n nt l ((d, v) :: env) A' Q)) : ItA P C X s0 n nt (⟨none, some d, c⟩ :: l) env A Q := i_op h rfl hd
theorem kM {x : Ev.X} {v : Value} (hx : xv env x = some v) (hd : okD (some d) nt = true) (h : ItA P C X s0 n nt l ((d, v) :: env) A Q) : ItA P C X s0 n nt (⟨none, some d, .mov x⟩ :: l) env A Q := i_op (W3 hx h) J hd
theorem kG {g : Option (Nat × Bool)} {c : COp} (hg : wants env g = some true) (hd : okD (some d) nt = true) (h : OpA P C X s0 n nt c env A (fun v A' => ItA P C X s0 n nt l ((d, v) :: env) A' Q)) : ItA P C X s0 n nt (⟨g, some d, c⟩ :: l) env A Q := i_op h hg hd
theorem kZ {g : Option (Nat × Bool)} {c : COp} (hg : wants env g = some true) (h : OpA P C X s0 n nt c env A (fun _ A' => ItA P C X s0 n nt l env A' Q)) : ItA P C X s0 n nt (⟨g, none, c⟩ :: l) env A Q := i_opn h hg
end
variable {Q : Out -> List (Nat × Value) -> List Nat -> List Ob -> Prop}
theorem rS {l : List Item} {b : CC} (h : ItA P C X s0 n nt l env A (fun e A => RunA P C X s0 (n + 1) nt r b e D A Q)) : RunA P C X s0 (n + 2) nt r (.seq (.items l) b) env D A Q := r_seq (r_items h)
theorem rI {l : List Item} (h : ItA P C X s0 n nt l env A (fun e A => Q .normal e D A)) : RunA P C X s0 (n + 1) nt r (.items l) env D A Q := r_items h
theorem rQ {a b : CC} (h : RunA P C X s0 n nt r a env D A (thenA (fun e D A => RunA P C X s0 n nt r b e D A Q) Q)) : RunA P C X s0 (n + 1) nt r (.seq a b) env D A Q := r_seq h
theorem lc {env' : List (Nat × Value)} (t : Nat) {v : Value} (h1 : look env t = some v) (h : Less env env') : Less env ((t, v) :: env') := Less.cons h1 h
def CapOk (s : St) (a : Option Addr) (n c : Nat) : Prop := (c < OPEN /\ n <= c) ∨ (c = OPEN /\ ∃ b t m, a = some ⟨b, 0, none⟩ /\ s.h.get b = some (.cells m t 3 true) /\ n <= m)
theorem CapOk.ext {s s' : St} {a : Option Addr} {n c : Nat} (h : CapOk s a n c) (hw : Wf s) (x : Ext s s') : CapOk s' a n c := by
 rcases h with h | ⟨h1, b, t, m, h2, h3, h4⟩
 ·exact .inl h
 ·exact .inr ⟨h1, b, t, m, h2, by rw [x.2.2 b (Full.lt hw h3)]; exact h3, h4⟩
theorem a_iaA {R : Value -> List Ob -> Prop} {x i : Ev.X} {a : Option Addr} {b o m c j size : Nat} {ik : IntKind} {z : Int} (ha : a = some ⟨b, o, none⟩) (hx : xv env x = some (.slice a m c)) (hi : xv env i = some (.int ik z)) (hz : z = (j : Int)) (hj : j < m) (h : R (.pointer (some ⟨b, o + j * size, none⟩)) A) : OpA P C X s0 n nt (.ia x i size) env A R := by
 subst ha; exact W4 hx hi hz hj h
def CutOk (s : St) (e : Nat) (a : Option Addr) (n c : Nat) : Prop := (a = none /\ n = 0 /\ c = 0) ∨ ∃ b o, a = some ⟨b, o, none⟩ /\ (c < OPEN ∨ (c = OPEN /\ o = 0 /\ ∃ t m, s.h.get b = some (.cells m t e true)))
theorem CutOk.ext {s s' : St} {e : Nat} {a : Option Addr} {n c : Nat} (h : CutOk s e a n c) (hw : Wf s) (x : Ext s s') : CutOk s' e a n c := by
 rcases h with h | ⟨b, o, h1, h2⟩
 ·exact .inl h
 ·refine .inr ⟨b, o, h1, ?_⟩
  rcases h2 with h2 | ⟨h2, h3, t, m, h4⟩
  ·exact .inl h2
  ·exact .inr ⟨h2, h3, t, m, by rw [x.2.2 b (Full.lt hw h4)]; exact h4⟩
theorem a_appz {R : Value -> List Ob -> Prop} {e size bytes m : Nat} {z more : List Value} {x y : Ev.X} {a : Option Addr} {yv : Value} (hx : xv env x = some (.slice a 0 0)) (hsp : ∀ b, a = some b -> b.spot = none) (hy : xv env y = some yv) (hsrc : Src s0 A size m more yv) (hm : m ≠ 0) (hb1 : m <= 1048576) (hb2 : bytes * m <= 1073741824)
 (h : ∀ b, R (.slice (some ⟨b, 0, none⟩) m OPEN) (.row b e true more :: A)) : OpA P C X s0 n nt (.app e size bytes z false x y) env A R := by
 cases a with
 | none => exact a_appn hx hy hsrc hm hb1 hb2 h
 | some a =>
  obtain ⟨b, o, sp⟩ := a;have : sp = none := hsp _ rfl;subst this;refine .mk fun s hs T hT k hk => ?_
  refine Y6 hT (k := fun x => valK T y (fun y => appK s e size bytes z false x y k)) hx (Y6 hT (k := fun y => appK s e size bytes z false _ y k) hy ?_);unfold appK;refine moreK_of hs hsrc ?_;obtain ⟨_, _, _, _, hml, _⟩ := hsrc;show ifB (Nat.beq m 0) _ (ifB (Nat.ble m 1048576) (ifB (Nat.ble (Nat.mul bytes m) 1073741824) _ false) false) = true;rw [beqF hm, show Nat.ble m 1048576 = true from by rw [Nat.ble_eq]; exact hb1, show Nat.ble (Nat.mul bytes m) 1073741824 = true from by rw [Nat.ble_eq]; exact hb2];show addsK .leaf 0 more _ = true;refine rowOfList (fun c hc hg => nOf_of ?_);rw [forceN_eq];exact newRow_of (l := more) hml.symm hs.wf hc hg (fun s' xx _ ho => hk _ _ ⟨_, hs.new xx ho, h s.n⟩)
theorem a_appzz {R : Value -> List Ob -> Prop} {e size bytes c : Nat} {z : List Value} {x y : Ev.X} {a a' : Option Addr} (hx : xv env x = some (.slice a 0 0)) (hsp : ∀ b, a = some b -> b.spot = none) (hy : xv env y = some (.slice a' 0 c)) (hsp' : ∀ b, a' = some b -> b.spot = none)
 (h : R (.slice a 0 0) A) : OpA P C X s0 n nt (.app e size bytes z false x y) env A R := .mk fun s hs T hT k hk => by
 refine Y6 hT (k := fun x => valK T y (fun y => appK s e size bytes z false x y k)) hx (Y6 hT (k := fun y => appK s e size bytes z false _ y k) hy ?_);unfold appK;have hmore : ∀ K' : Nat -> List Value -> Bool, moreK s size z false (.slice a' 0 c) K' = K' 0 [] := fun K' => by
  cases a' with
  | none => rfl
  | some q =>
   obtain ⟨b, o, sp⟩ := q;have : sp = none := hsp' _ rfl;subst this;rfl
 rw [hmore];cases a with
 | none => exact hk _ _ ⟨A, hs, h⟩
 | some q =>
  obtain ⟨b, o, sp⟩ := q;have : sp = none := hsp _ rfl;subst this;exact hk _ _ ⟨A, hs, h⟩
end
end Go.Proofs.Ytoeklhdklcpllaa.Ev
namespace Go.Proofs.Ytoeklhdklcpllaa.Ev
open Go Go.RowKit
noncomputable section
def isCells : Go.Obj -> Bool
 | .cells _ _ _ => true
 | _ => false
def wmp (W : World) : Mp := fun i => match W.heap[i]? with
 | some o => if isCells o then some (i, 0) else none
 | none => none
open Classical in
def romOf (W : World) : Go.Obj -> CObj
 | .cells cs _ _ => .rom (fun j => match cs[j]? with | some v => if VR (wmp W) v v /\ oneCell v = true then some v else none | none => none)
 | _ => .dead
def wst (W : World) : St := ⟨BT.ofList (W.heap.toList.map (romOf W)), W.heap.size⟩
theorem ofList_full {α : Type} (l : List α) : Full (BT.ofList l) l.length := by
 have := full_adds (l := l) (t := (.leaf : BT α)) (n := 0) (by simp [Full]);rw [Nat.zero_add] at this;exact this
theorem ofList_at {α : Type} {l : List α} {i : Nat} {v : α} (h : l[i]? = some v) : (BT.ofList l).get i = some v := by
 have hi : i < l.length := (List.getElem?_eq_some_iff.1 h).1;obtain ⟨u, hu⟩ := Option.isSome_iff_exists.1 ((ofList_full l).some i hi);have := ofList_get hu;rw [h] at this; cases this; exact hu
theorem wst_wf (W : World) : Wf (wst W) := by
 have := ofList_full (W.heap.toList.map (romOf W));simpa [wst, Wf] using this
theorem wst_at {W : World} {b : Nat} {o : Go.Obj} (h : W.heap[b]? = some o) : (wst W).h.get b = some (romOf W o) := by
 refine ofList_at ?_;rw [List.getElem?_map];have : W.heap.toList[b]? = some o := by simpa using h
 rw [this]; rfl
theorem wmp_inv {W : World} {i x y : Nat} (h : wmp W i = some (x, y)) : x = i /\ ∃ cs e fr, W.heap[i]? = some (.cells cs e fr) := by
 unfold wmp at h;split at h
 ·rename_i o ho
  cases o with
  | cells cs e fr => simp [isCells] at h; exact ⟨h.1.symm, cs, e, fr, ho⟩
  | _ => simp [isCells] at h
 ·cases h
theorem wmp_of {W : World} {i : Nat} {cs : Array Value} {e : Nat} {fr : Nat × Nat} (h : W.heap[i]? = some (.cells cs e fr)) : wmp W i = some (i, 0) := by
 unfold wmp; rw [h]; rfl
theorem emb_world (P : Program) (W : World) : Emb P (fun _ => none) W.heap.size (wmp W) (wst W) W := by
 refine ⟨fun i x y hi => ?_, fun i p hi => ?_, fun i x y o hi ho => ?_, fun i j x y y' hi hj hij hB => ?_, Nat.le_refl _, fun i o h => by cases h⟩
 ·obtain ⟨rfl, cs, e, fr, h⟩ := wmp_inv hi
  exact ⟨.inr ⟨_, wst_at h⟩, (Array.getElem?_eq_some_iff.1 h).1⟩
 ·obtain ⟨x, y⟩ := p
  obtain ⟨_, cs, e, fr, h⟩ := wmp_inv hi;exact (Array.getElem?_eq_some_iff.1 h).1
 ·obtain ⟨rfl, cs, e, fr, h⟩ := wmp_inv hi
  have h1 := wst_at h;rw [ho] at h1;have h2 : o = romOf W (.cells cs e fr) := Option.some.inj h1;subst h2;refine ⟨_, h, cs, e, fr, rfl, fun j v hj => ?_⟩;dsimp only at hj;split at hj
  ·rename_i u hu
   split at hj
   ·rename_i hc
    cases hj;exact ⟨hc.2, _, hu, hc.1⟩
   ·cases hj
  ·cases hj
 ·obtain ⟨rfl, cs, e, fr, h⟩ := wmp_inv hi
  have := (Array.getElem?_eq_some_iff.1 h).1;omega
theorem at_world {W : World} {b o : Nat} {v : Value} (h : W.cell? ⟨b, o, none⟩ = some v) (hv : VR (wmp W) v v) (h1 : oneCell v = true) : At (wst W) b o v := by
 have hb : ∃ cs e fr, W.heap[b]? = some (.cells cs e fr) /\ cs[o]? = some v := by
  unfold World.cell? at h;dsimp only at h;split at h
  ·rename_i cs e fr hh; exact ⟨cs, e, fr, by first | exact hh | exact hh.1, h⟩
  ·cases h
 obtain ⟨cs, e, fr, h2, h3⟩ := hb;refine ⟨_, .inr (wst_at h2), ?_⟩;simp [h3, hv, h1]
theorem Emb.below {P : Program} {K : Kp} {B : Nat} {m : Mp} {s : St} {w w' : World} (E : Emb P K B m s w) (h : Below w.heap.size w w') : Emb P K B m s w' := by
 have hs : w.heap.size <= w'.heap.size := h.size;refine ⟨fun i x y hi => ⟨(E.low i x y hi).1, Nat.lt_of_lt_of_le (E.low i x y hi).2 hs⟩, E.old, fun i x y o hi ho => ?_, E.inj, Nat.le_trans E.base hs, E.kept⟩;obtain ⟨o', h1, h2⟩ := E.obj i x y o hi ho;exact ⟨o', (h.block x (E.low i x y hi).2).trans h1, h2⟩
def knownX (g : Nat) : FuncId -> List Value -> St -> (Value -> St -> Bool) -> Bool := fun f vs s k => Nat.beq f g && (match vs with | [] => true | _ => false) && k (.bool true) s
theorem known_ok {P : Program} {g : Nat} {c : CF} (hc : compF P g = some c) (h : ∀ w, Calls P g #[] w fun e w' => e = .returned (.bool true) /\ Below w.heap.size w w') : KnownOk P (knownX g) := by
 intro K B f vs s k hk m w us E hv;unfold knownX at hk;simp only [Bool.and_eq_true] at hk;obtain ⟨⟨h1, h2⟩, h3⟩ := hk;have hf : f = g := by simpa using h1
 subst hf;cases vs with
 | cons v l => cases h2
 | nil =>
  have : us = [] := by simpa only [LR] using hv
  subst this;obtain ⟨fn, cd, r, e1, e2, e3, e4, _⟩ := compF_inv hc;refine ⟨fun w => ?_, CallsIn.mono ((callsIn_wide (n := 0)).2 (h w)) (fun e w' he => ?_)⟩
  ·have h4' : ¬ fn.name = "runtime.NumGoroutine" := by simpa using e4
   simp [callFunc, e1, e2, h4']
  ·obtain ⟨rfl, hb⟩ := he
   exact ⟨.bool true, s, m, h3, Mp.le_refl m, E.below hb, hb.mono E.base, by simp only [VR]⟩
theorem law_open {P : Program} {t : BT (Option CF)} (h : Holds P t 0 1) {X : FuncId -> List Value -> St -> (Value -> St -> Bool) -> Bool} (hX : KnownOk P X) {n : Nat} {f : FuncId} {vs us : List Value} {W : World} (hs : Spec P (tabK t) X n f vs (wst W) (fun v A => v = .bool true /\ A = [])) (hv : LR (wmp W) vs us) :
 Calls P f ⟨us⟩ W (fun e w' => e = .returned (.bool true) /\ Below W.heap.size W w') := by
 refine Calls.mono (open_ok h hX (k := fun v _ => trueK v) (hs _ (fun v s' hq => by obtain ⟨A, _, rfl, _⟩ := hq; rfl)) (emb_world P W) hv) (fun e w' he => ?_);obtain ⟨u, rfl, h1, v, s', m', h2, _, _, h3⟩ := he;obtain ⟨b, rfl, h4⟩ := onBool_inv (k := fun b => b) h2;have hb : b = true := h4;subst hb;have : u = .bool true := by simpa only [VR] using h3
 exact ⟨by rw [this], h1⟩
/-! What the row lets in stands for itself. -/
theorem VR.int {m : Mp} (k : IntKind) (n : Int) : VR m (.int k n) (.int k n) := by simp only [VR]
theorem VR.slice0 {m : Mp} : VR m (.slice none 0 0) (.slice none 0 0) := by simp only [VR]; exact ⟨by decide, trivial⟩
theorem VR.slice1 {W : World} {b o n c : Nat} {cs : Array Value} {e : Nat} {fr : Nat × Nat} (h : W.heap[b]? = some (.cells cs e fr)) (hc : c < OPEN) : VR (wmp W) (.slice (some ⟨b, o, none⟩) n c) (.slice (some ⟨b, o, none⟩) n c) := by
 simp only [VR];refine ⟨trivial, ?_⟩;rw [if_pos hc];exact ⟨b, 0, wmp_of h, rfl⟩
theorem VR.agg {m : Mp} {l l' : List Value} (h : LR m l l') : VR m (.agg ⟨l⟩) (.agg ⟨l'⟩) := by
 simp only [VR, AR];exact ⟨_, rfl, l', rfl, h⟩
theorem LR.nil {m : Mp} : LR m [] [] := by simp only [LR]
theorem LR.cons {m : Mp} {v v' : Value} {l l' : List Value} (h : VR m v v') (hl : LR m l l') : LR m (v :: l) (v' :: l') := by
 simp only [LR];exact ⟨v', l', rfl, h, hl⟩
def NiceS (W : World) (a : Option Addr) (n c : Nat) : Prop := (a = none /\ n = 0 /\ c = 0) ∨ ∃ b o cs e fr, a = some ⟨b, o, none⟩ /\ W.heap[b]? = some (.cells cs e fr) /\ c < OPEN
theorem NiceS.vr {W : World} {a : Option Addr} {n c : Nat} (h : NiceS W a n c) : VR (wmp W) (.slice a n c) (.slice a n c) := by
 rcases h with ⟨rfl, rfl, rfl⟩ | ⟨b, o, cs, e, fr, rfl, h, hc⟩
 ·exact VR.slice0
 ·exact VR.slice1 h hc
theorem NiceS.spot {W : World} {a : Option Addr} {n c : Nat} (h : NiceS W a n c) : ∀ b, a = some b -> b.spot = none := by
 rcases h with ⟨rfl, rfl, rfl⟩ | ⟨b, o, cs, e, fr, rfl, h, hc⟩
 ·intro b hb; cases hb
 ·intro b hb; cases hb; rfl
theorem cell_niceS {P : Program} {W : World} {r : Reach} {b0 : Nat} {t e : TypeId} {v : Value} (ht : P.underlying t = some (.slice e)) (h : Cell.okWide P W r b0 t v) : ∃ a n c, v = .slice a n c /\ NiceS W a n c := by
 simp only [Cell.okWide, ht] at h;unfold Cell.ok at h;rw [ht] at h;split at h
 all_goals first
  | exact absurd h id
  | (rename_i h1; cases h1; done)
  | exact ⟨_, _, _, rfl, .inl ⟨rfl, rfl, rfl⟩⟩
  | skip
 all_goals first
  | (
   rename_i a len cap _; obtain ⟨h1, h2, _, hs, row, cells, h3, _⟩ := h
   refine ⟨_, _, _, rfl, .inr ?_⟩;obtain ⟨b, o, spot⟩ := a;have hs' : spot = none := hs;subst hs';unfold World.shape? at h3;split at h3
   ·rename_i cs e' fr hh
    exact ⟨b, o, _, _, _, rfl, hh, by simp [IntKind.max, IntKind.signed, IntKind.bits] at h2; unfold OPEN; omega⟩
   ·cases h3)
  | simp_all
end
end Go.Proofs.Ytoeklhdklcpllaa.Ev
namespace Go.Proofs.Ytoeklhdklcpllaa.Ev
open Go Go.RowKit Go.ChangeShapes Go.WideShapes Go.ChangeAt Go.Joins
set_option linter.unusedVariables false
noncomputable section
def I64 (z : Int) : Prop := -9223372036854775808 <= z /\ z < 9223372036854775808
theorem wf_I64 {n : Int} (h : (Lit.int .i64 n).wf = true) : I64 n := by
 simp [Lit.wf, IntKind.min, IntKind.max, IntKind.signed, IntKind.bits] at h;unfold I64; omega
theorem weights_at2 {H : Type} {P : Program} : ∀ {ts : List TypeId} {ds : List (DataW H)} (_ : (DataW.weightsEach P ts ds).all (· <= reachBytes) = true) {j : Nat} {t : TypeId} {d : DataW H} (_ : ts[j]? = some t) (_ : ds[j]? = some d), ∀ x ∈ DataW.weights P t d, x <= reachBytes := by
 intro ts ds h j t d ht hd x hx;have := List.all_eq_true.1 h x (DataW.weights_mem_each ht hd x hx);simpa using this
theorem add_flat2 (b o k : Nat) : (⟨b, o, none⟩ : Addr).add k = ⟨b, o + k, none⟩ := by
 unfold Addr.add;by_cases h : k = 0
 ·subst h; simp
 ·simp [h]
def IntCells (H : Type) (P : Program) (enc : TypeId × Value -> H) (W : World) (e w : Nat) : Prop :=
 ∀ {base fuel : Nat} {sp : Nat -> Bool} {held : Bool} {cs : List Value} {x : DataW H × List MemPlace}, DataW.trod enc P W base sp held fuel e cs = some x -> ∃ l : List Int, cs = l.map (.int .i64) /\ l.length = w /\ ∀ z ∈ l, I64 z
theorem intCells_int {H : Type} {P : Program} {enc : TypeId × Value -> H} {W : World} {t : Nat} (ht : P.underlying t = some (.int .i64)) : IntCells H P enc W t 1 := by
 intro base fuel sp held cs x h;obtain ⟨z, e, _, w⟩ := DataW.trod_int ht h;exact ⟨[z], by simpa using e, rfl, by intro y hy; rw [List.mem_singleton.1 hy]; exact wf_I64 w⟩
theorem ats_world {W : World} {b : Nat} : ∀ {r : List Int} {o : Nat}, (∀ j, j < r.length -> W.cell? ⟨b, o + j, none⟩ = (r.map (Value.int .i64))[j]?) -> Ats (wst W) b o (r.map (Value.int .i64))
 | [], _, _ => trivial
 | z :: r, o, h => ⟨at_world (by simpa using h 0 (by simp)) (VR.int _ _) rfl, ats_world (fun j hj => by have := h (j + 1) (by simp; omega); simpa [Nat.add_assoc, Nat.add_comm 1 j] using this)⟩
theorem rowsW {H : Type} {P : Program} {enc : TypeId × Value -> H} {W : World} {t e w bytes : Nat} (ht : P.underlying t = some (.slice e)) (hc : P.cellsOf e = w) (hw : 0 < w) (hby : P.bytesOf e = bytes) (hb : 2 <= bytes) (hi : IntCells H P enc W e w) {a : Option Addr} {n cap fuel : Nat} (hv : NiceS W a n cap) {d : DataW H} {p : List MemPlace}
 (hf : DataW.trod enc P W 0 (fun _ => true) true fuel t [.slice a n cap] = some (d, p)) (hz : ∀ x ∈ DataW.weights P t d, x <= reachBytes) : ∃ rs : List (List Int), rs.length = n /\ RowsE (wst W) w a rs /\ rs.length * bytes <= 140737488355328 := by
 rcases Go.Deep.open_slice ht hf with ⟨hcs, _⟩ | ⟨a', l, c, m, fu, D, Pl, hcs, _, hl, hm, hmm, hd, hel⟩
 ·simp at hcs
  obtain ⟨rfl, rfl, rfl⟩ := hcs;exact ⟨[], rfl, ⟨hv.spot, fun h => absurd rfl h, fun _ _ h => (by cases h), by simp, by simp, by simp⟩, by simp⟩
 ·simp at hcs
  obtain ⟨rfl, rfl, rfl⟩ := hcs;have hml : n <= m := by rw [hmm]; split <;> omega
  have hch : ∀ i, ∃ y : List Int, i < n -> (y.length = w /\ ∀ z ∈ y, I64 z) /\ ∀ r, r < w -> W.cell? ((a'.add (i * w)).add r) = (y.map (Value.int .i64))[r]? := by
   intro i;by_cases hin : i < n
   ·obtain ⟨cs', h1, h2⟩ := hel i (by omega)
    obtain ⟨y, rfl, hy, hz⟩ := hi h2;rw [hc] at h1;obtain ⟨_, _, h3⟩ := World.cells?_some h1;exact ⟨y, fun _ => ⟨⟨hy, hz⟩, h3⟩⟩
   ·exact ⟨[], fun h => absurd h hin⟩
  obtain ⟨Y, hY⟩ : ∃ Y : Nat -> List Int, ∀ i, i < n -> ((Y i).length = w /\ ∀ z ∈ Y i, I64 z) /\ ∀ r, r < w -> W.cell? ((a'.add (i * w)).add r) = ((Y i).map (Value.int .i64))[r]? := ⟨fun i => (hch i).choose, fun i => (hch i).choose_spec⟩;have hsp := hv.spot a' rfl;obtain ⟨b, off, spot⟩ := a';have hsp' : spot = none := hsp;subst hsp';have hbytes : n * bytes <= 140737488355328 := by
   simp only [Prod.mk.injEq] at hd;obtain ⟨rfl, _⟩ := hd;have := hz _ (by simp only [DataW.weights, ht]; exact List.mem_cons_self);rw [hby] at this;simp only [List.length_map, List.length_range, reachBytes] at this;have e1 : n + (m - n) = m := by omega
   rw [e1] at this;exact Nat.le_trans (Nat.mul_le_mul_right _ hml) (by omega)
  refine ⟨(List.range n).map Y, by simp, ⟨hv.spot, fun _ => ⟨b, off, rfl⟩, ?_, ?_, ?_, ?_⟩, by simpa using hbytes⟩
  ·intro b' o' hbo i r hr
   cases hbo;rw [List.getElem?_map] at hr;obtain ⟨i', h1, rfl⟩ := Option.map_eq_some_iff.1 hr;obtain ⟨h2, h3⟩ := List.getElem?_eq_some_iff.1 h1;simp at h2 h3;subst h3;refine ats_world (fun j hj => ?_);have := (hY i h2).2 j (by rw [<- (hY i h2).1.1]; exact hj);rw [add_flat2, add_flat2] at this;exact this
  ·intro r hr
   obtain ⟨i, hi', rfl⟩ := List.mem_map.1 hr;exact (hY i (List.mem_range.1 hi')).1.1
  ·intro r hr x hx
   obtain ⟨i, hi', rfl⟩ := List.mem_map.1 hr;exact (hY i (List.mem_range.1 hi')).1.2 x hx
  ·simp
   have : n * 2 <= n * bytes := Nat.mul_le_mul_left _ hb;omega
end
end Go.Proofs.Ytoeklhdklcpllaa.Ev
namespace Go.Proofs.Ytoeklhdklcpllaa
open Go Go.RowKit
namespace Ev
theorem I64.lo {z : Int} (h : I64 z) : -9223372036854775808 <= z := h.1
theorem I64.hi {z : Int} (h : I64 z) : z < 9223372036854775808 := h.2
theorem RowsE.row4 {s : St} {a : Option Addr} {rs : List (List Int)} (h : RowsE s 4 a rs) {k : Nat} (hk : k < rs.length) : ∃ b o y0 y1 y2 y3, a = some ⟨b, o, none⟩ /\ rs[k]? = some [y0, y1, y2, y3] /\ Ats s b (o + k * 4) [.int .i64 y0, .int .i64 y1, .int .i64 y2, .int .i64 y3] /\ I64 y0 /\ I64 y1 /\ I64 y2 /\ I64 y3 := by
 obtain ⟨b, o, r, h1, h2, h3, h4, h5⟩ := h.row hk;obtain ⟨y0, r1, rfl, g1⟩ := list_len_succ h3;obtain ⟨y1, r2, rfl, g2⟩ := list_len_succ g1;obtain ⟨y2, r3, rfl, g3⟩ := list_len_succ g2;obtain ⟨y3, r4, rfl, g4⟩ := list_len_succ g3;have : r4 = [] := List.eq_nil_of_length_eq_zero g4;subst this;exact ⟨b, o, y0, y1, y2, y3, h1, h2, h4, h5 y0 (by simp), h5 y1 (by simp), h5 y2 (by simp), h5 y3 (by simp)⟩
def lmB (m : Int) : List (List Int) -> Bool
 | [] => true
 | [y0, y1, y2, y3] :: rs => decide ((0 <= m /\ m <= 64) /\ (0 <= y0 /\ y0 <= m) /\ (0 <= y1 /\ y1 <= m) /\ ¬ y0 = y1 /\ (-20000 <= y2 /\ y2 <= 20000) /\ (1 <= y3 /\ y3 <= 99999)) && lmB m rs
 | _ :: _ => false
theorem lmB_step (m : Int) {rs : List (List Int)} {k : Nat} {y0 y1 y2 y3 : Int} (h : rs[k]? = some [y0, y1, y2, y3]) (hi : lmB m rs = lmB m (rs.drop k)) : lmB m rs = (decide ((0 <= m /\ m <= 64) /\ (0 <= y0 /\ y0 <= m) /\ (0 <= y1 /\ y1 <= m) /\ ¬ y0 = y1 /\ (-20000 <= y2 /\ y2 <= 20000) /\ (1 <= y3 /\ y3 <= 99999)) && lmB m (rs.drop (k + 1))) := by
 obtain ⟨hk, he⟩ := List.getElem?_eq_some_iff.1 h;rw [hi, List.drop_eq_getElem_cons hk, he]; rfl
theorem lmB_bad {m : Int} {rs : List (List Int)} {k : Nat} {y0 y1 y2 y3 : Int} (h : rs[k]? = some [y0, y1, y2, y3]) (hi : lmB m rs = lmB m (rs.drop k)) (hn : ¬ ((0 <= m /\ m <= 64) /\ (0 <= y0 /\ y0 <= m) /\ (0 <= y1 /\ y1 <= m) /\ ¬ y0 = y1 /\ (-20000 <= y2 /\ y2 <= 20000) /\ (1 <= y3 /\ y3 <= 99999))) : lmB m rs = false := by
 rw [lmB_step m h hi, decide_eq_false hn]; rfl
theorem lmB_good {m : Int} {rs : List (List Int)} {k : Nat} {y0 y1 y2 y3 : Int} (h : rs[k]? = some [y0, y1, y2, y3]) (hi : lmB m rs = lmB m (rs.drop k)) (hn : (0 <= m /\ m <= 64) /\ (0 <= y0 /\ y0 <= m) /\ (0 <= y1 /\ y1 <= m) /\ ¬ y0 = y1 /\ (-20000 <= y2 /\ y2 <= 20000) /\ (1 <= y3 /\ y3 <= 99999)) : lmB m rs = lmB m (rs.drop (k + 1)) := by
 rw [lmB_step m h hi, decide_eq_true hn]; rfl
theorem lmB_end {m : Int} {rs : List (List Int)} {k : Nat} (hi : lmB m rs = lmB m (rs.drop k)) (hk : rs.length <= k) : lmB m rs = true := by
 rw [hi, List.drop_eq_nil_of_le hk]; rfl
theorem lmB_at {m : Int} {y0 y1 y2 y3 : Int} : ∀ {rs : List (List Int)} {k : Nat}, lmB m rs = true -> rs[k]? = some [y0, y1, y2, y3] -> (0 <= m /\ m <= 64) /\ (0 <= y0 /\ y0 <= m) /\ (0 <= y1 /\ y1 <= m) /\ ¬ y0 = y1 /\ (-20000 <= y2 /\ y2 <= 20000) /\ (1 <= y3 /\ y3 <= 99999)
 | [], _, _, h => by simp at h
 | r :: rs, 0, h1, h => by
  simp only [List.getElem?_cons_zero, Option.some.injEq] at h;subst h;have h2 : (decide ((0 <= m /\ m <= 64) /\ (0 <= y0 /\ y0 <= m) /\ (0 <= y1 /\ y1 <= m) /\ ¬ y0 = y1 /\ (-20000 <= y2 /\ y2 <= 20000) /\ (1 <= y3 /\ y3 <= 99999)) && lmB m rs) = true := h1;rw [Bool.and_eq_true] at h2;exact of_decide_eq_true h2.1
 | r :: rs, k + 1, h1, h => by
  refine lmB_at (rs := rs) (k := k) ?_ (by simpa using h);unfold lmB at h1;split at h1
  ·rename_i h2; cases h2
  ·rename_i h2; cases h2; rw [Bool.and_eq_true] at h1; exact h1.2
  ·cases h1
def sysE (m : Int) (ls : List (List Int)) : Int := if 0 <= m /\ m <= 64 then (if 400 < (ls.length : Int) then 2 else if lmB m ls = true then 0 else 20) else 21
theorem sysE_ok {m : Int} {ls : List (List Int)} (h : sysE m ls = 0) : 0 <= m /\ m <= 64 /\ (ls.length : Int) <= 400 /\ lmB m ls = true := by
 unfold sysE at h;split at h
 ·split at h
  ·cases h
  ·split at h
   ·exact ⟨by omega, by omega, by omega, by assumption⟩
   ·cases h
 ·cases h
section
variable {X : FuncId -> List Value -> St -> (Value -> St -> Bool) -> Bool}
theorem inside_s (n : Nat) (x lo hi : Int) (s : St) (hs : Wf s) : Spec Try.prog (tabK tabw) X (n + 20) 35 [.int .i64 x, .int .i64 lo, .int .i64 hi] s (fun v A => v = .bool (decide (lo <= x /\ x <= hi)) /\ A = []) := by
 refine enter bw35_at rfl hs ?_;unfold bw35;refine rS (kM J J (Q0 (rS (kM J J (kM J J (kO J (a_leq J J (fun h1 => ?_) (fun h1 => ?_))))))))
 ·refine kM J J (kG J J (W3 J (kG J J (W3 J (kG J J (a_leq J J (fun h2 => ?_) (fun h2 => ?_)))))))
  ·refine kO J (V2 J J J (kM J J (Q0 (Y3 (end1 J ⟨congrArg Value.bool ?_, rfl⟩)))))
   first | exact (decide_eq_true (by omega)).symm | exact (decide_eq_false (by omega)).symm
  ·refine kO J (V2 J J J (kM J J (Q0 (Y3 (end1 J ⟨congrArg Value.bool ?_, rfl⟩)))))
   first | exact (decide_eq_true (by omega)).symm | exact (decide_eq_false (by omega)).symm
 ·refine kM J J (U0 J J (U0 J J (U0 J J (kO J (V1 J J J (kM J J (Q0 (Y3 (end1 J ⟨congrArg Value.bool ?_, rfl⟩)))))))))
  first | exact (decide_eq_true (by omega)).symm | exact (decide_eq_false (by omega)).symm
theorem CheckLimit_s (n : Nat) (m y0 y1 y2 y3 : Int) (s : St) (hs : Wf s) : Spec Try.prog (tabK tabw) X (n + 100) 28 [.int .i64 m, .agg ⟨[.int .i64 y0, .int .i64 y1, .int .i64 y2, .int .i64 y3]⟩] s (fun v A => v = .int .i64 (if (0 <= m /\ m <= 64) /\ (0 <= y0 /\ y0 <= m) /\ (0 <= y1 /\ y1 <= m) /\ ¬ y0 = y1 /\ (-20000 <= y2 /\ y2 <= 20000) /\ (1 <= y3 /\ y3 <= 99999) then 0 else 20) /\ A = []) := by
 refine enter bw28_at rfl hs ?_;unfold bw28;refine rS (kO J (a_box J J J (fun b1 => (kM J J (Q0 (rS (kM J J (kO J (a_callB J J (fun s1 h1 => inside_s _ _ _ _ s1 h1.wf) (fun h2 => ?_) (fun h2 => ?_))))))))))
 ·refine kM J J (kG J J (Z2 J (kG J J (Z1 J .here rfl (kG J J (W3 J (kG J J (a_callB J J (fun s1 h1 => inside_s _ _ _ _ s1 h1.wf) (fun h3 => ?_) (fun h3 => ?_)))))))))
  ·refine kO J (V2 J J J (kM J J (kG J J (Z2 J (kG J J (Z1 J .here rfl (kG J J (W3 J (kG J J (a_callB J J (fun s1 h1 => inside_s _ _ _ _ s1 h1.wf) (fun h4 => ?_) (fun h4 => ?_)))))))))))
   ·refine kO J (V2 J J J (kM J J (kG J J (Z2 J (kG J J (Z1 J .here rfl (kG J J (Z2 J (kG J J (Z1 J .here rfl (kG J J (Y4 J J (fun h5 => ?_) (fun h5 => ?_)))))))))))))
    ·refine kO J (V2 J J J (kM J J (kG J J (Z2 J (kG J J (Z1 J .here rfl (kG J J (a_callB J J (fun s1 h1 => inside_s _ _ _ _ s1 h1.wf) (fun h6 => ?_) (fun h6 => ?_)))))))))
     ·refine kO J (V2 J J J (kM J J (kG J J (Z2 J (kG J J (Z1 J .here rfl (kG J J (a_callB J J (fun s1 h1 => inside_s _ _ _ _ s1 h1.wf) (fun h7 => ?_) (fun h7 => ?_)))))))))
      ·refine kO J (V2 J J J (kM J J (Q0 (rQ (rS (kM J J (kO J (Z7 J (Q0 (Z0 J (Q1 (W0 (rS (kM J J (Q0 (Y3 (end1 J ⟨congrArg (Value.int .i64) ?_, rfl⟩)))))))))))))))))
       first | exact (if_pos (by omega)).symm | exact (if_neg (by omega)).symm
      ·refine kO J (V2 J J J (kM J J (Q0 (rQ (rS (kM J J (kO J (Z7 J (Q0 (Y0 J (rS (kM J J (Q0 (Y3 (U3 (end1 J ⟨congrArg (Value.int .i64) ?_, rfl⟩))))))))))))))))
       first | exact (if_pos (by omega)).symm | exact (if_neg (by omega)).symm
     ·refine kO J (V2 J J J (kM J J (U0 J J (U0 J J (U0 J J (kO J (V1 J J J (kM J J (Q0 (rQ (rS (kM J J (kO J (Z7 J (Q0 (Y0 J (rS (kM J J (Q0 (Y3 (U3 (end1 J ⟨congrArg (Value.int .i64) ?_, rfl⟩))))))))))))))))))))))
      first | exact (if_pos (by omega)).symm | exact (if_neg (by omega)).symm
    ·refine kO J (V2 J J J (kM J J (U0 J J (U0 J J (U0 J J (kO J (V1 J J J (kM J J (U0 J J (U0 J J (U0 J J (kO J (V1 J J J (kM J J (Q0 (rQ (rS (kM J J (kO J (Z7 J (Q0 (Y0 J (rS (kM J J (Q0 (Y3 (U3 ?_)))))))))))))))))))))))))))
     refine end1 J ⟨congrArg (Value.int .i64) ?_, rfl⟩
     first | exact (if_pos (by omega)).symm | exact (if_neg (by omega)).symm
   ·refine kO J (V2 J J J (kM J J (U0 J J (U0 J J (U0 J J (U0 J J (U0 J J (kO J (V1 J J J (kM J J (U0 J J (U0 J J (U0 J J (kO J (V1 J J J (kM J J (U0 J J (U0 J J (U0 J J (kO J (V1 J J J (kM J J (Q0 (rQ (rS (kM J J (kO J (Z7 J ?_))))))))))))))))))))))))))))
    refine Q0 (Y0 J (rS (kM J J (Q0 (Y3 (U3 (end1 J ⟨congrArg (Value.int .i64) ?_, rfl⟩)))))))
    first | exact (if_pos (by omega)).symm | exact (if_neg (by omega)).symm
  ·refine kO J (V2 J J J (kM J J (U0 J J (U0 J J (U0 J J (U0 J J (kO J (V1 J J J (kM J J (U0 J J (U0 J J (U0 J J (U0 J J (U0 J J (kO J (V1 J J J (kM J J (U0 J J (U0 J J (U0 J J (kO J (V1 J J J (kM J J (U0 J J (U0 J J (U0 J J (kO J (V1 J J J ?_))))))))))))))))))))))))))))
   refine kM J J (Q0 (rQ (rS (kM J J (kO J (Z7 J (Q0 (Y0 J (rS (kM J J (Q0 (Y3 (U3 (end1 J ⟨congrArg (Value.int .i64) ?_, rfl⟩))))))))))))))
   first | exact (if_pos (by omega)).symm | exact (if_neg (by omega)).symm
 ·refine kM J J (U0 J J (U0 J J (U0 J J (U0 J J (kO J (V1 J J J (kM J J (U0 J J (U0 J J (U0 J J (U0 J J (kO J (V1 J J J (kM J J (U0 J J (U0 J J (U0 J J (U0 J J (U0 J J (kO J (V1 J J J (kM J J (U0 J J (U0 J J (U0 J J (kO J (V1 J J J ?_)))))))))))))))))))))))))))
  refine kM J J (U0 J J (U0 J J (U0 J J (kO J (V1 J J J (kM J J (Q0 (rQ (rS (kM J J (kO J (Z7 J (Q0 (Y0 J (rS (kM J J (Q0 (Y3 (U3 (end1 J ⟨congrArg (Value.int .i64) ?_, rfl⟩))))))))))))))))))))
  first | exact (if_pos (by omega)).symm | exact (if_neg (by omega)).symm
theorem Check_s (n : Nat) (m : Int) (al : Option Addr) (cl : Nat) (ls : List (List Int)) (s : St) (hs : Wf s) (hn : 281474976710656 <= n) (hL : RowsE s 4 al ls) : Spec Try.prog (tabK tabw) X (n + 400) 27 [.agg ⟨[.int .i64 m, .slice al ls.length cl]⟩] s (fun v A => v = .int .i64 (sysE m ls) /\ A = []) := by
 refine enter bw27_at rfl hs ?_;unfold bw27;have hlen := hL.len;refine rS (kO J (a_box J J J (fun b1 => (kM J J (Q0 (rQ (rS (kO J (Z2 J (kO J (Z1 J .here rfl (kO J (a_callB J J (fun s1 h1 => inside_s _ _ _ _ s1 h1.wf) (fun h2 => ?_) (fun h2 => ?_))))))))))))))
 ·refine kO J (Z7 J (Q0 (Z0 J (Q1 (W0 (rQ (rS (kO J (Z2 J (kO J (Z1 J .here rfl (kO J (a_lenx J hL.spot (kO J (a_gtr J J (fun h3 => ?_) (fun h3 => ?_))))))))))))))))
  ·refine Q0 (Y0 J (rS (kM J J (Q0 (Y3 (U3 (end1 J ⟨congrArg (Value.int .i64) ?_, rfl⟩)))))))
   unfold sysE
   first
    | (rw [if_neg (by omega)]; done)
    | (rw [if_pos (by omega), if_pos (by omega)]; done)
    | (rw [if_pos (by omega), if_neg (by omega), lmB_bad hx hi (by omega)]; rfl)
    | (rw [if_pos (by omega), if_neg (by omega), lmB_end hi (by omega)]; rfl)
  ·refine Q0 (Z0 J (Q1 (W0 (rQ (rS (kO J (Z2 J (kO J (Z1 J .here rfl (kO J (a_lenx J hL.spot (kM J J (Q0 (Y1 (Y5 (fun j e A => ∃ (k : Nat), e = [(1, .pointer (some ⟨b1, 0, none⟩)), (15, .slice al ls.length cl), (16, .int .i64 (ls.length : Int)), (17, .int .i64 (k : Int))] /\ A = (.row b1 29 false ([.int .i64 m, .slice al ls.length cl]) :: []) /\ j = ls.length - k /\ k <= ls.length /\ lmB m ls = lmB m (ls.drop k)) 200 0 281474976710656 ?_ (j := _) (env2 := _) (A2 := _) ?_ ?_ ?_ ?_ ⟨0, rfl, rfl, rfl, Nat.zero_le _, rfl⟩)))))))))))))))
   rotate_left
   ·omega
   ·omega
   ·exact (lc 1 J (lc 15 J (lc 16 J (lc 17 J Less.nil))))
   ·exact (.q .slnil)
   rintro n hn j _ _ ⟨k, rfl, rfl, rfl, hk, hi⟩;refine rS (kO J (V5 J J (fun h4 => ?_) (fun h4 => ?_)))
   ·obtain ⟨q4, o4, y0, y1, y2, y3, ahL, hx, hat, i0, i1, i2, i3⟩ := hL.row4 (k := k) (by omega)
    have hat2 := hat;obtain ⟨d0, d1, d2, d3, _⟩ := hat2;have := i0.lo; have := i0.hi;have := i1.lo; have := i1.hi;have := i2.lo; have := i2.hi;have := i3.lo; have := i3.hi;refine Q0 (rQ (Y0 J (Q1 (W0 (rQ (Y1 (rS (kO J (a_iaA (j := k) ahL rfl rfl (by first | rfl | omega) (by first | decide | omega) (kO J (a_ldar J (by decide) (by assumption) J (kO J (a_new J J (fun b5 => (kZ J (V6 J J .here rfl rfl rfl rfl (Q0 (rS (kO J (Z2 J (kO J (Z1 J (.next .here) J (kO J (Z5 J (by decide) .here rfl (kO J (a_callE J J (fun s1 h1 => CheckLimit_s _ _ _ _ _ _ s1 h1.wf) (fun h6 => ?_) (fun h6 => ?_)))))))))))))))))))))))))))
    ·refine kM J J (Q0 (rS (kM J J (kO J (Y4 J J (fun h => absurd h (by decide)) (fun _ => (Q0 (Z0 J (Q1 (U1 (W0 (rI (kO J (V3 J J (by omega) (kM J J (Q0 (W0 ?_)))))))))))))))))
     exact ⟨rfl, _, _, _, (show ls.length - (k + 1) < ls.length - k by omega), (lc 1 J (lc 15 J (lc 16 J (lc 17 J Less.nil)))), (.cons _ (.q .slnil)), ⟨k + 1, rfl, rfl, rfl, by omega, lmB_good hx hi (by assumption)⟩⟩
    ·refine kM J J (Q0 (rS (kM J J (kO J (Y4 J J (fun _ => (Q0 (Y0 J (rS (kM J J (kM J J (Q0 (Y3 (W7 (U3 (U3 (W7 (U3 (end1 J ⟨congrArg (Value.int .i64) ?_, rfl⟩)))))))))))))) (fun h => absurd h (by decide)))))))
     unfold sysE
     first
      | (rw [if_neg (by omega)]; done)
      | (rw [if_pos (by omega), if_pos (by omega)]; done)
      | (rw [if_pos (by omega), if_neg (by omega), lmB_bad hx hi (by omega)]; rfl)
      | (rw [if_pos (by omega), if_neg (by omega), lmB_end hi (by omega)]; rfl)
   ·refine Q0 (rQ (Z0 J (Q5 (Q3 (Q3 (Z3 (W0 (rS (kM J J (Q0 (Y3 (end1 J ⟨congrArg (Value.int .i64) ?_, rfl⟩))))))))))))
    unfold sysE
    first
     | (rw [if_neg (by omega)]; done)
     | (rw [if_pos (by omega), if_pos (by omega)]; done)
     | (rw [if_pos (by omega), if_neg (by omega), lmB_bad hx hi (by omega)]; rfl)
     | (rw [if_pos (by omega), if_neg (by omega), lmB_end hi (by omega)]; rfl)
 ·refine kO J (Z7 J (Q0 (Y0 J (rS (kM J J (Q0 (Y3 (U3 (end1 J ⟨congrArg (Value.int .i64) ?_, rfl⟩)))))))))
  unfold sysE
  first
   | (rw [if_neg (by omega)]; done)
   | (rw [if_pos (by omega), if_pos (by omega)]; done)
   | (rw [if_pos (by omega), if_neg (by omega), lmB_bad hx hi (by omega)]; rfl)
   | (rw [if_pos (by omega), if_neg (by omega), lmB_end hi (by omega)]; rfl)
end
end Ev
end Go.Proofs.Ytoeklhdklcpllaa
