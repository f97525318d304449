import Derived.Test.YtgbfnonfecpajaaGreatZc02
import Derived.Test.YtgbfnonfecpajaaGreatZc03
set_option linter.unusedVariables false
set_option linter.unusedSimpArgs false
/- More of the evaluator's operations by what stands behind them: values made of parts, appends, calls of one answer. No program here. -/
namespace Go.Proofs.YtgbfnonfecpajaaGreat.Ev
open Go Go.RowKit
noncomputable section

/-- Parts filled in, on lists. -/
def fillL : List Value → List (Nat × Nat × Value) → Option (List Value)
  | l, [] => some l
  | l, (o, n, v) :: ps => match v.cells with
    | ⟨r⟩ => sel (Nat.beq r.length n && allOne r && Nat.ble o l.length) (match overL l o r with | some l' => fillL l' ps | none => none) none
theorem fillK_of {m : Nat} : ∀ {ps : List (Nat × Nat × Value)} {l l' : List Value} {c : BT Value} {k : BT Value → Bool}, l.length = m → Full c m → (∀ j, c.get j = l[j]?) → fillL l ps = some l' → (∀ c', Full c' m → (∀ j, c'.get j = l'[j]?) → l'.length = m → k c' = true) → fillK c ps k = true
  | [], l, l', c, k, hm, hf, hc, h, hk => by cases h; exact hk c hf hc hm
  | (o, n, v) :: ps, l, l', c, k, hm, hf, hc, h, hk => by
    simp only [fillL] at h
    obtain ⟨h1, h2⟩ := sel_inv h
    simp only [Bool.and_eq_true] at h1
    obtain ⟨⟨h3, h4⟩, h5⟩ := h1
    obtain ⟨r, hr⟩ : ∃ r, v.cells = ⟨r⟩ := ⟨v.cells.toList, rfl⟩
    have hr' : v.cells.toList = r := by rw [hr]
    split at h2
    · rename_i l1 h6
      obtain ⟨h7, h8⟩ := overL_eq h6 (by simpa using h5)
      show @Array.rec Value (fun _ => Bool) (fun l => ifB (Nat.beq (lenL l) n) (ifB (allOne l) (putsK c o l (fun c => fillK c ps k)) false) false) v.cells = true
      rw [hr]
      show ifB (Nat.beq (lenL r) n) (ifB (allOne r) (putsK c o r (fun c => fillK c ps k)) false) false = true
      rw [hr'] at h3 h4 h7 h8
      rw [lenL_eq, h3, h4]
      refine putsK_of hf (by omega) (fun c' hf' hg => fillK_of (l := l1) (by rw [h7, over_length h8]; exact hm) hf' (fun j => ?_) h2 hk)
      rw [hg, h7, over_get h8, hc]
    · cases h2
theorem a_callV {P : Program} {C : Nat → (CF → Bool) → Bool} {X : FuncId → List Value → St → (Value → St → Bool) → Bool} {s0 : St} {n nt : Nat} {env : List (Nat × Value)} {A : List Ob} {R : Value → List Ob → Prop} {f : Ev.X} {l : List Ev.X} {g : Nat} {p c vs : List Value} {u : Value}
    (hf : xv env f = some (.func (.func g) ⟨p⟩ ⟨c⟩)) (hl : xvs env l = some vs) (hg : ∀ s, Hld s0 A s → Spec P C X n g (p ++ (vs ++ c)) s (fun v A' => v = u ∧ A' = [])) (h : R u A) : OpA P C X s0 n nt (.call f l) env A R :=
  a_call hf hl hg (fun v A' hq => by obtain ⟨rfl, rfl⟩ := hq; exact h)
theorem a_callB {P : Program} {C : Nat → (CF → Bool) → Bool} {X : FuncId → List Value → St → (Value → St → Bool) → Bool} {s0 : St} {n nt : Nat} {env : List (Nat × Value)} {A : List Ob} {R : Value → List Ob → Prop} {f : Ev.X} {l : List Ev.X} {g : Nat} {pp c vs : List Value} {p : Prop} [Decidable p]
    (hf : xv env f = some (.func (.func g) ⟨pp⟩ ⟨c⟩)) (hl : xvs env l = some vs) (hg : ∀ s, Hld s0 A s → Spec P C X n g (pp ++ (vs ++ c)) s (fun v A' => v = .bool (decide p) ∧ A' = [])) (h1 : p → R (.bool true) A) (h2 : ¬ p → R (.bool false) A) : OpA P C X s0 n nt (.call f l) env A R :=
  a_call hf hl hg (fun v A' hq => by
    obtain ⟨rfl, rfl⟩ := hq
    by_cases h : p
    · rw [decide_eq_true h]; exact h1 h
    · rw [decide_eq_false h]; exact h2 h)

theorem a_callE {P : Program} {C : Nat → (CF → Bool) → Bool} {X : FuncId → List Value → St → (Value → St → Bool) → Bool} {s0 : St} {n nt : Nat} {env : List (Nat × Value)} {A : List Ob} {R : Value → List Ob → Prop} {f : Ev.X} {l : List Ev.X} {g : Nat} {pp c vs : List Value} {p : Prop} [Decidable p] {x y : Int}
    (hf : xv env f = some (.func (.func g) ⟨pp⟩ ⟨c⟩)) (hl : xvs env l = some vs) (hg : ∀ s, Hld s0 A s → Spec P C X n g (pp ++ (vs ++ c)) s (fun v A' => v = .int .i64 (if p then x else y) ∧ A' = [])) (h1 : p → R (.int .i64 x) A) (h2 : ¬ p → R (.int .i64 y) A) : OpA P C X s0 n nt (.call f l) env A R :=
  a_call hf hl hg (fun v A' hq => by
    obtain ⟨rfl, rfl⟩ := hq
    by_cases h : p
    · rw [if_pos h]; exact h1 h
    · rw [if_neg h]; exact h2 h)

/-- Rows of w numbers each, at an address. -/
structure RowsE (s : St) (w : Nat) (a : Option Addr) (rs : List (List Int)) : Prop where
  spot : ∀ b, a = some b → b.spot = none
  addr : rs ≠ [] → ∃ b o, a = some ⟨b, o, none⟩
  cells : ∀ b o, a = some ⟨b, o, none⟩ → ∀ i r, rs[i]? = some r → Ats s b (o + i * w) (r.map (.int .i64))
  width : ∀ r ∈ rs, r.length = w
  fit : ∀ r ∈ rs, ∀ x ∈ r, -9223372036854775808 ≤ x ∧ x < 9223372036854775808
  len : rs.length < 140737488355328
theorem RowsE.row {s : St} {w : Nat} {a : Option Addr} {rs : List (List Int)} (h : RowsE s w a rs) {k : Nat} (hk : k < rs.length) : ∃ b o r, a = some ⟨b, o, none⟩ ∧ rs[k]? = some r ∧ r.length = w ∧ Ats s b (o + k * w) (r.map (.int .i64)) ∧ ∀ x ∈ r, -9223372036854775808 ≤ x ∧ x < 9223372036854775808 := by
  obtain ⟨b, o, ha⟩ := h.addr (by intro e; rw [e] at hk; simp at hk)
  have hm : rs[k] ∈ rs := List.getElem_mem hk
  exact ⟨b, o, rs[k], ha, List.getElem?_eq_getElem hk, h.width _ hm, h.cells b o ha k _ (List.getElem?_eq_getElem hk), h.fit _ hm⟩
theorem RowsE.ext {s s' : St} {w : Nat} {a : Option Addr} {rs : List (List Int)} (h : RowsE s w a rs) (hw : Wf s) (x : Ext s s') : RowsE s' w a rs :=
  ⟨h.spot, h.addr, fun b o ha i r hr => (h.cells b o ha i r hr).ext hw x, h.width, h.fit, h.len⟩
theorem list_len_succ {α : Type} {n : Nat} {l : List α} (h : l.length = n + 1) : ∃ x r, l = x :: r ∧ r.length = n := by
  cases l with
  | nil => simp at h
  | cons x r => exact ⟨x, r, rfl, by simpa using h⟩

section
variable {P : Program} {C : Nat → (CF → Bool) → Bool} {X : FuncId → List Value → St → (Value → St → Bool) → Bool} {s0 : St} {n nt : Nat} {env : List (Nat × Value)} {A : List Ob} {R : Value → List Ob → Prop}
theorem a_build {z : List Value} {ps : List (Nat × Nat × Ev.X)} {vs : List (Nat × Nat × Value)} {l : List Value} (hp : xps env ps = some vs) (hf : fillL z vs = some l) (h : R (.agg ⟨l⟩) A) : OpA P C X s0 n nt (.build z ps) env A R := .mk fun s hs T hT k hk => by
  refine partsE_of hT (k := fun ps => buildK z ps (vK s k)) hp ?_
  unfold buildK
  refine rowOfList (fun c hc hg => fillK_of rfl hc hg hf (fun c' hc' hg' hl => ?_))
  exact segK_of (k := fun l => vK s k (.agg ⟨l⟩)) (l := l) (by rw [hl, lenL_eq]) (fun j _ => by rw [Nat.zero_add]; exact hg' j) (hk _ _ ⟨A, hs, h⟩)
theorem a_lit {e len m : Nat} {z : List Value} {ps : List (Nat × Nat × Ev.X)} {vs : List (Nat × Nat × Value)} {l : List Value} (hp : xps env ps = some vs) (hf : fillL z vs = some l) (hm : Nat.beq z.length m = true) (h : ∀ b, R (.slice (some ⟨b, 0, none⟩) len len) (⟨b, e, false, l⟩ :: A)) : OpA P C X s0 n nt (.lit e len m z ps) env A R := .mk fun s hs T hT k hk => by
  refine partsE_of hT (k := fun ps => litK s e len m z ps k) hp ?_
  unfold litK
  have hm' : z.length = m := by simpa using hm
  refine rowOfList (fun c hc hg => fillK_of rfl hc hg hf (fun c' hc' hg' hl => nOf_of ?_))
  exact newRow_of (l := l) (by rw [hl, hm']) hs.wf (by rw [hl]; exact hc') hg' (fun s' x _ ho => hk _ _ ⟨_, hs.new x ho, h s.n⟩)
theorem a_max {ts : Array Nat} {t : Nat} {x y : Ev.X} {k : IntKind} {a b : Int} (hx : xvs env [x, y] = some [.int k a, .int k b]) (h : R (.int k (max a b)) A) : OpA P C X s0 n nt (.bi .max ts t [x, y]) env A R :=
  a_bi hx (r := .int k (max a b)) (by
    have : evBi P .max ts t [.int k a, .int k b] = some (.int k (if b > a then b else a)) := rfl
    rw [this]; congr 2
    by_cases hab : b > a
    · rw [if_pos hab]; omega
    · rw [if_neg hab]; omega) h
theorem a_min {ts : Array Nat} {t : Nat} {x y : Ev.X} {k : IntKind} {a b : Int} (hx : xvs env [x, y] = some [.int k a, .int k b]) (h : R (.int k (min a b)) A) : OpA P C X s0 n nt (.bi .min ts t [x, y]) env A R :=
  a_bi hx (r := .int k (min a b)) (by
    have : evBi P .min ts t [.int k a, .int k b] = some (.int k (if b < a then b else a)) := rfl
    rw [this]; congr 2
    by_cases hab : b < a
    · rw [if_pos hab]; omega
    · rw [if_neg hab]; omega) h

theorem a_neg {x : Ev.X} {a : Int} (hx : xv env x = some (.int .i64 a)) (hr : -9223372036854775808 < a ∧ a < 9223372036854775808) (h : R (.int .i64 (-a)) A) : OpA P C X s0 n nt (.un .neg x) env A R :=
  a_un hx (r := .int .i64 (-a)) (by
    have : ev1 P (Op.unary .neg) (.int .i64 a) = some (.int .i64 (IntKind.i64.wrap (0 - a))) := rfl
    rw [this, IntWalk.i64_in _ (by omega)]; congr 2; omega) h
/-- One round of a loop, and the loop again. -/
theorem r_unroll {r : Option Nat} {D : List Nat} {b : CC} {Q : Out → List (Nat × Value) → List Nat → List Ob → Prop} (h : RunA P C X s0 n nt r b env D A (thenA (fun e D A => RunA P C X s0 n nt r (.loop b) e D A Q) Q)) : RunA P C X s0 (n + 1) nt r (.loop b) env D A Q := .mk fun s hs T hT k hk => by
  show (oracX P C X n).code r b T D s (fun x T D s => onOut x ((oracX P C X n).code r (.loop b) T D s k) (k x T D s) (fun _ => k x T D s) (fun _ => k x T D s)) = true
  refine h.go s hs T hT _ (fun x e T' D' s' hT' hq => ?_)
  obtain ⟨A', h1, h2⟩ := hq
  cases x with
  | normal => exact h2.go s' h1 T' hT' k hk
  | ret => exact hk _ _ T' D' s' hT' ⟨A', h1, h2⟩
  | exit i => exact hk _ _ T' D' s' hT' ⟨A', h1, h2⟩
  | goto i => exact hk _ _ T' D' s' hT' ⟨A', h1, h2⟩

/-! Appends. -/
/-- A row taken out. -/
inductive Del : List Ob → Nat → Nat → Bool → List Value → List Ob → Prop where
  | here {b e : Nat} {op : Bool} {l : List Value} {A : List Ob} : Del (⟨b, e, op, l⟩ :: A) b e op l A
  | next {x : Ob} {b e : Nat} {op : Bool} {l : List Value} {A A' : List Ob} (h : Del A b e op l A') : Del (x :: A) b e op l (x :: A')
theorem Del.own {A A' : List Ob} {b e : Nat} {op : Bool} {l : List Value} (h : Del A b e op l A') : Own A b e op l := by
  induction h with
  | here => exact .here
  | next _ ih => exact .next ih
theorem Del.sub {A A' : List Ob} {b e : Nat} {op : Bool} {l : List Value} (h : Del A b e op l A') : A'.Sublist A := by
  induction h with
  | here => exact List.sublist_cons_self _ _
  | next _ ih => exact ih.cons_cons _
theorem AOk.del {base : Nat} {s : St} {A A' : List Ob} {b e : Nat} {op : Bool} {l : List Value} (h : Del A b e op l A') : AOk base s A → ∀ y ∈ A', y.b ≠ b := by
  induction h with
  | here => exact fun h => h.2.2.1
  | next hd ih =>
    intro h y hy
    rcases List.mem_cons.1 hy with rfl | hy
    · exact Ne.symm (h.2.2.1 _ hd.own.mem)
    · exact ih h.2.2.2 y hy
theorem growK_of {s : St} {e size len n : Nat} {more old : List Value} {k : Value → St → Bool} (hw : Wf s) (ho : old.length = len * size) (hm : more.length = n * size) (hk : ∀ s', Ext s s' → s'.n = s.n + 1 → Obj s' s.n e true (old ++ more) → k (.slice (some ⟨s.n, 0, none⟩) (len + n) OPEN) s' = true) : growK s e size len n more old k = true := by
  unfold growK
  refine rowOfList (fun c hc hg => ?_)
  refine addsK_of (n := len * size) (by rw [← ho]; exact hc) (fun c' hc' hg' => nOf_of ?_)
  rw [forceN_eq]
  have hl : (old ++ more).length = (len + n) * size := by rw [List.length_append, ho, hm, Nat.add_mul]
  refine newRow_of (l := old ++ more) hl.symm hw (by rw [List.length_append, ho]; exact hc') (fun j => ?_) (fun s' x hn hob => ?_)
  · rw [hg']
    by_cases h1 : len * size ≤ j ∧ j < len * size + more.length
    · rw [if_pos h1, List.getElem?_append_right (by omega), ho]
    · rw [if_neg h1, hg]
      by_cases h2 : j < old.length
      · rw [List.getElem?_append_left h2]
      · rw [List.getElem?_eq_none (by omega), List.getElem?_eq_none (by simp; omega)]
  · rw [forceN_eq]; exact hk s' x hn hob
/-- What is appended: elements of a row. -/
def Src (s0 : St) (A : List Ob) (size n : Nat) (more : List Value) (y : Value) : Prop :=
  ∃ b o c, y = .slice (some ⟨b, o, none⟩) n c ∧ more.length = n * size ∧ more ≠ [] ∧ ((∃ e op l, Own A b e op l ∧ segL l o more.length = some more) ∨ Ats s0 b o more)
theorem moreK_of {s : St} (hs : Hld s0 A s) {size n' : Nat} {z more : List Value} {y : Value} {k : Nat → List Value → Bool} (h : Src s0 A size n' more y) (hk : k n' more = true) : moreK s size z false y k = true := by
  obtain ⟨b, o, c, rfl, h1, h0, h2⟩ := h
  have ha : Ats s b o more := by
    rcases h2 with ⟨e, op, l, h3, h4⟩ | h3
    · exact (hs.own h3).ats (segL_eq h4).2
    · exact hs.ats h3
  obtain ⟨f, h5, h6⟩ := ha.see h0
  show seeK s b (fun c => segK c o (Nat.mul n' size) (fun l => k n' l)) (fun g => romSegK g o (Nat.mul n' size) (fun l => k n' l)) = true
  refine seeK_of h5 (fun c hc => ?_) ?_
  · subst hc; exact segK_of (k := fun l => k n' l) h1 (fun j hj => h6 j (by rw [h1]; exact hj)) hk
  · exact romSegK_of (k := fun l => k n' l) h1 (fun j hj => h6 j (by rw [h1]; exact hj)) hk
/-- append(nil, ..): a row of the call's own. -/
theorem a_appn {e size bytes m : Nat} {z more : List Value} {x y : Ev.X} {yv : Value} (hx : xv env x = some (.slice none 0 0)) (hy : xv env y = some yv) (hsrc : Src s0 A size m more yv) (hm : m ≠ 0) (hb1 : m ≤ 1048576) (hb2 : bytes * m ≤ 1073741824)
    (h : ∀ b, R (.slice (some ⟨b, 0, none⟩) m OPEN) (⟨b, e, true, more⟩ :: A)) : OpA P C X s0 n nt (.app e size bytes z false x y) env A R := .mk fun s hs T hT k hk => by
  refine valE_of hT (k := fun x => valK T y (fun y => appK s e size bytes z false x y k)) hx (valE_of hT (k := fun y => appK s e size bytes z false _ y k) hy ?_)
  unfold appK
  refine moreK_of hs hsrc ?_
  obtain ⟨_, _, _, _, hml, _⟩ := hsrc
  show ifB (Nat.beq 0 0) (ifB (Nat.beq 0 0) (ifB (Nat.beq m 0) _ (ifB (Nat.ble m 1048576) (ifB (Nat.ble (Nat.mul bytes m) 1073741824) _ false) false)) false) false = true
  rw [show Nat.beq 0 0 = true from rfl, beqF hm, show Nat.ble m 1048576 = true from by rw [Nat.ble_eq]; exact hb1, show Nat.ble (Nat.mul bytes m) 1073741824 = true from by rw [Nat.ble_eq]; exact hb2]
  show addsK .leaf 0 more _ = true
  refine rowOfList (fun c hc hg => nOf_of ?_)
  rw [forceN_eq]
  exact newRow_of (l := more) hml.symm hs.wf hc hg (fun s' xx _ ho => hk _ _ ⟨_, hs.new xx ho, h s.n⟩)
/-- Nothing more can be put behind a row's elements but in a new one. -/
def Tight (op : Bool) (len cap : Nat) : Prop := (op = true ∧ cap = OPEN) ∨ (op = false ∧ cap = len ∧ len < OPEN)
/-- append to a row of the call's own. -/
theorem a_app {e size bytes b len cap m : Nat} {op : Bool} {z more l : List Value} {x y : Ev.X} {yv : Value} {A' : List Ob} (hx : xv env x = some (.slice (some ⟨b, 0, none⟩) len cap)) (hy : xv env y = some yv) (hsrc : Src s0 A size m more yv) (hd : Del A b e op l A') (hl : l.length = len * size) (ht : Tight op len cap) (hm : m ≠ 0) (hb1 : len + m ≤ 1048576) (hb2 : bytes * (len + m) ≤ 1073741824)
    (h : ∀ b, R (.slice (some ⟨b, 0, none⟩) (len + m) OPEN) (⟨b, e, true, l ++ more⟩ :: A')) : OpA P C X s0 n nt (.app e size bytes z false x y) env A R := .mk fun s hs T hT k hk => by
  refine valE_of hT (k := fun x => valK T y (fun y => appK s e size bytes z false x y k)) hx (valE_of hT (k := fun y => appK s e size bytes z false _ y k) hy ?_)
  unfold appK
  refine moreK_of hs hsrc ?_
  obtain ⟨_, _, _, _, hml, hm0, _⟩ := hsrc
  have hsz : size ≠ 0 := by
    rintro rfl
    apply hm0; exact List.eq_nil_of_length_eq_zero (by simpa using hml)
  show ifB (Nat.ble (Nat.add len m) 1048576) (ifB (Nat.ble (Nat.mul bytes (Nat.add len m)) 1073741824) (appAtK s e size b 0 len cap m more k) false) false = true
  rw [show Nat.ble (Nat.add len m) 1048576 = true from by rw [Nat.ble_eq]; exact hb1, show Nat.ble (Nat.mul bytes (Nat.add len m)) 1073741824 = true from by rw [Nat.ble_eq]; exact hb2]
  show appAtK s e size b 0 len cap m more k = true
  obtain ⟨c, hc, hf, hg⟩ := hs.own hd.own
  unfold appAtK
  refine objK_of (k := _) hc ?_
  have hee : Nat.beq e e = true := by rw [Nat.beq_eq]
  rcases ht with ⟨rfl, rfl⟩ | ⟨rfl, rfl, hlt⟩
  · show ifB (Nat.beq e e) (ifB (Nat.ble OPEN OPEN) (ifB true (ifB (Nat.beq 0 0) (ifB (Nat.beq OPEN OPEN) (ifB (Nat.ble (Nat.mul (Nat.add len m) size) l.length) _ (ifB (Nat.beq (Nat.mul len size) l.length) _ false)) false) false) false) _) false = true
    have hnot : Nat.ble (Nat.mul (Nat.add len m) size) l.length = false := by
      cases hb : Nat.ble (Nat.mul (Nat.add len m) size) l.length with
      | false => rfl
      | true =>
        have h1 : (len + m) * size ≤ l.length := by simpa using hb
        rw [hl, Nat.add_mul] at h1
        have : 0 < m * size := Nat.mul_pos (by omega) (by omega)
        omega
    rw [hee, hnot, show Nat.ble OPEN OPEN = true from by rw [Nat.ble_eq]; exact Nat.le_refl _, show Nat.beq 0 0 = true from rfl, show Nat.beq OPEN OPEN = true from by rw [Nat.beq_eq], show Nat.beq (Nat.mul len size) l.length = true from by rw [Nat.beq_eq]; exact hl.symm]
    show addsK c (Nat.mul len size) more _ = true
    refine addsK_of (n := len * size) (by rw [← hl]; exact hf) (fun c' hc' hg' => nOf_of ?_)
    refine storeK_of hs.wf (Full.lt hs.wf hc) (fun s1 hm1 hn1 hd1 => ?_)
    rw [forceN_eq]
    have hll : (l ++ more).length = (len + m) * size := by rw [List.length_append, hl, hml, Nat.add_mul]
    have hlow := (hs.2.2.lt hs.wf _ hd.own.mem).2
    have hs1 : Hld s0 A' s1 := ⟨hs.1, hs.2.1.mod hm1 (fun i hi => (List.mem_singleton.1 hi) ▸ hlow), (hs.2.2.sub hd.sub).mod hs.wf hm1 (AOk.del hd hs.2.2)⟩
    rw [show s.n = s1.n from hn1.symm]
    refine newRow_of (l := l ++ more) hll.symm hm1.1 (by rw [List.length_append, hl]; exact hc') (fun j => ?_) (fun s2 x2 _ ho2 => ?_)
    · rw [hg']
      by_cases h1 : len * size ≤ j ∧ j < len * size + more.length
      · rw [if_pos h1, List.getElem?_append_right (by omega), hl]
      · rw [if_neg h1, hg]
        by_cases h2 : j < l.length
        · rw [List.getElem?_append_left h2]
        · rw [List.getElem?_eq_none (by omega), List.getElem?_eq_none (by simp; omega)]
    · rw [forceN_eq]
      exact hk _ _ ⟨_, hs1.new x2 ho2, h s1.n⟩
  · show ifB (Nat.beq e e) (ifB (Nat.ble OPEN cap) _ (ifB (Nat.ble (Nat.add cap m) cap) _ (segK c 0 (Nat.mul cap size) (fun old => growK s e size cap m more old k)))) false = true
    rw [hee, show Nat.ble OPEN cap = false from by
      cases hb : Nat.ble OPEN cap with
      | false => rfl
      | true => rw [Nat.ble_eq] at hb; omega, show Nat.ble (Nat.add cap m) cap = false from by
      cases hb : Nat.ble (Nat.add cap m) cap with
      | false => rfl
      | true => rw [Nat.ble_eq] at hb; have : cap + m ≤ cap := hb; omega]
    show segK c 0 (Nat.mul cap size) (fun old => growK s e size cap m more old k) = true
    refine segK_of (l := l) hl (fun j _ => by rw [Nat.zero_add]; exact hg j) (growK_of hs.wf hl hml (fun s' x2 _ ho2 => hk _ _ ⟨_, (hs.sub hd.sub).new x2 ho2, h s.n⟩))
end
end
end Go.Proofs.YtgbfnonfecpajaaGreat.Ev

/- Contracts, by the evaluator. -/
namespace Go.Proofs.YtgbfnonfecpajaaGreat
open Go Go.RowKit
namespace Ev
def or2 (x y : Int) : Int := if x = 0 then y else x
section
variable {X : FuncId → List Value → St → (Value → St → Bool) → Bool}
theorem inside_s (n : Nat) (x lo hi : Int) (s : St) (hs : Wf s) : Spec Tryz.prog (tabK tabm) X (n + 20) 24 [.int .i64 x, .int .i64 lo, .int .i64 hi] s (fun v A => v = .bool (decide (lo ≤ x ∧ x ≤ hi)) ∧ A = []) := by
  refine enter bm24_at rfl hs ?_
  unfold bm24
  refine r_seq ?_
  refine r_items ?_
  refine i_op (a_mov rfl ?_) rfl rfl
  refine i_nil ?_
  refine then_n ?_
  refine r_seq ?_
  refine r_items ?_
  refine i_op (a_mov rfl ?_) rfl rfl
  refine i_op (a_mov rfl ?_) rfl rfl
  refine i_op (a_leq rfl rfl (fun h1 => ?_) (fun h1 => ?_)) rfl rfl
  · refine i_op (a_mov rfl ?_) rfl rfl
    refine i_op (a_mov rfl ?_) rfl rfl
    refine i_op (a_mov rfl ?_) rfl rfl
    refine i_op (a_leq rfl rfl (fun h2 => ?_) (fun h2 => ?_)) rfl rfl
    · refine i_op (a_pick_t rfl rfl rfl ?_) rfl rfl
      refine i_op (a_mov rfl ?_) rfl rfl
      refine i_nil ?_
      refine then_n ?_
      refine r_ret ?_
      refine end1 rfl ⟨congrArg Value.bool ?_, rfl⟩
      first | exact (decide_eq_true (by omega)).symm | exact (decide_eq_false (by omega)).symm
    · refine i_op (a_pick_t rfl rfl rfl ?_) rfl rfl
      refine i_op (a_mov rfl ?_) rfl rfl
      refine i_nil ?_
      refine then_n ?_
      refine r_ret ?_
      refine end1 rfl ⟨congrArg Value.bool ?_, rfl⟩
      first | exact (decide_eq_true (by omega)).symm | exact (decide_eq_false (by omega)).symm
  · refine i_op (a_mov rfl ?_) rfl rfl
    refine i_no rfl rfl ?_
    refine i_no rfl rfl ?_
    refine i_no rfl rfl ?_
    refine i_op (a_pick_f rfl rfl rfl ?_) rfl rfl
    refine i_op (a_mov rfl ?_) rfl rfl
    refine i_nil ?_
    refine then_n ?_
    refine r_ret ?_
    refine end1 rfl ⟨congrArg Value.bool ?_, rfl⟩
    first | exact (decide_eq_true (by omega)).symm | exact (decide_eq_false (by omega)).symm

theorem In_s (n : Nat) (x lo hi : Int) (s : St) (hs : Wf s) : Spec Tryz.prog (tabK tabm) X (n + 20) 28 [.int .i64 x, .int .i64 lo, .int .i64 hi] s (fun v A => v = .bool (decide (lo ≤ x ∧ x ≤ hi)) ∧ A = []) := by
  refine enter bm28_at rfl hs ?_
  unfold bm28
  refine r_seq ?_
  refine r_items ?_
  refine i_op (a_mov rfl ?_) rfl rfl
  refine i_nil ?_
  refine then_n ?_
  refine r_seq ?_
  refine r_items ?_
  refine i_op (a_mov rfl ?_) rfl rfl
  refine i_op (a_mov rfl ?_) rfl rfl
  refine i_op (a_geq rfl rfl (fun h1 => ?_) (fun h1 => ?_)) rfl rfl
  · refine i_op (a_mov rfl ?_) rfl rfl
    refine i_op (a_mov rfl ?_) rfl rfl
    refine i_op (a_mov rfl ?_) rfl rfl
    refine i_op (a_leq rfl rfl (fun h2 => ?_) (fun h2 => ?_)) rfl rfl
    · refine i_op (a_pick_t rfl rfl rfl ?_) rfl rfl
      refine i_op (a_mov rfl ?_) rfl rfl
      refine i_nil ?_
      refine then_n ?_
      refine r_ret ?_
      refine end1 rfl ⟨congrArg Value.bool ?_, rfl⟩
      first | exact (decide_eq_true (by omega)).symm | exact (decide_eq_false (by omega)).symm
    · refine i_op (a_pick_t rfl rfl rfl ?_) rfl rfl
      refine i_op (a_mov rfl ?_) rfl rfl
      refine i_nil ?_
      refine then_n ?_
      refine r_ret ?_
      refine end1 rfl ⟨congrArg Value.bool ?_, rfl⟩
      first | exact (decide_eq_true (by omega)).symm | exact (decide_eq_false (by omega)).symm
  · refine i_op (a_mov rfl ?_) rfl rfl
    refine i_no rfl rfl ?_
    refine i_no rfl rfl ?_
    refine i_no rfl rfl ?_
    refine i_op (a_pick_f rfl rfl rfl ?_) rfl rfl
    refine i_op (a_mov rfl ?_) rfl rfl
    refine i_nil ?_
    refine then_n ?_
    refine r_ret ?_
    refine end1 rfl ⟨congrArg Value.bool ?_, rfl⟩
    first | exact (decide_eq_true (by omega)).symm | exact (decide_eq_false (by omega)).symm

theorem within_s (n : Nat) (a b lo hi : Int) (s : St) (hs : Wf s) : Spec Tryz.prog (tabK tabm) X (n + 20) 53 [.agg ⟨[.int .i64 a, .int .i64 b]⟩, .int .i64 lo, .int .i64 hi] s (fun v A => v = .bool (decide (lo ≤ a ∧ a ≤ b ∧ b ≤ hi)) ∧ A = []) := by
  refine enter bm53_at rfl hs ?_
  unfold bm53
  refine r_seq ?_
  refine r_items ?_
  refine i_op (a_box rfl rfl rfl (fun b1 => ?_)) rfl rfl
  refine i_op (a_mov rfl ?_) rfl rfl
  refine i_nil ?_
  refine then_n ?_
  refine r_seq ?_
  refine r_items ?_
  refine i_op (a_mov rfl ?_) rfl rfl
  refine i_op (a_fa rfl ?_) rfl rfl
  refine i_op (a_ld rfl .here rfl ?_) rfl rfl
  refine i_op (a_leq rfl rfl (fun h2 => ?_) (fun h2 => ?_)) rfl rfl
  · refine i_op (a_mov rfl ?_) rfl rfl
    refine i_op (a_fa rfl ?_) rfl rfl
    refine i_op (a_ld rfl .here rfl ?_) rfl rfl
    refine i_op (a_fa rfl ?_) rfl rfl
    refine i_op (a_ld rfl .here rfl ?_) rfl rfl
    refine i_op (a_leq rfl rfl (fun h3 => ?_) (fun h3 => ?_)) rfl rfl
    · refine i_op (a_pick_t rfl rfl rfl ?_) rfl rfl
      refine i_op (a_mov rfl ?_) rfl rfl
      refine i_op (a_fa rfl ?_) rfl rfl
      refine i_op (a_ld rfl .here rfl ?_) rfl rfl
      refine i_op (a_mov rfl ?_) rfl rfl
      refine i_op (a_leq rfl rfl (fun h4 => ?_) (fun h4 => ?_)) rfl rfl
      · refine i_op (a_pick_t rfl rfl rfl ?_) rfl rfl
        refine i_op (a_mov rfl ?_) rfl rfl
        refine i_nil ?_
        refine then_n ?_
        refine r_ret ?_
        refine end1 rfl ⟨congrArg Value.bool ?_, rfl⟩
        first | exact (decide_eq_true (by omega)).symm | exact (decide_eq_false (by omega)).symm
      · refine i_op (a_pick_t rfl rfl rfl ?_) rfl rfl
        refine i_op (a_mov rfl ?_) rfl rfl
        refine i_nil ?_
        refine then_n ?_
        refine r_ret ?_
        refine end1 rfl ⟨congrArg Value.bool ?_, rfl⟩
        first | exact (decide_eq_true (by omega)).symm | exact (decide_eq_false (by omega)).symm
    · refine i_op (a_pick_t rfl rfl rfl ?_) rfl rfl
      refine i_op (a_mov rfl ?_) rfl rfl
      refine i_no rfl rfl ?_
      refine i_no rfl rfl ?_
      refine i_no rfl rfl ?_
      refine i_no rfl rfl ?_
      refine i_op (a_pick_f rfl rfl rfl ?_) rfl rfl
      refine i_op (a_mov rfl ?_) rfl rfl
      refine i_nil ?_
      refine then_n ?_
      refine r_ret ?_
      refine end1 rfl ⟨congrArg Value.bool ?_, rfl⟩
      first | exact (decide_eq_true (by omega)).symm | exact (decide_eq_false (by omega)).symm
  · refine i_op (a_mov rfl ?_) rfl rfl
    refine i_no rfl rfl ?_
    refine i_no rfl rfl ?_
    refine i_no rfl rfl ?_
    refine i_no rfl rfl ?_
    refine i_no rfl rfl ?_
    refine i_op (a_pick_f rfl rfl rfl ?_) rfl rfl
    refine i_op (a_mov rfl ?_) rfl rfl
    refine i_no rfl rfl ?_
    refine i_no rfl rfl ?_
    refine i_no rfl rfl ?_
    refine i_no rfl rfl ?_
    refine i_op (a_pick_f rfl rfl rfl ?_) rfl rfl
    refine i_op (a_mov rfl ?_) rfl rfl
    refine i_nil ?_
    refine then_n ?_
    refine r_ret ?_
    refine end1 rfl ⟨congrArg Value.bool ?_, rfl⟩
    first | exact (decide_eq_true (by omega)).symm | exact (decide_eq_false (by omega)).symm

theorem isZone_s (n : Nat) (x : Int) (s : St) (hs : Wf s) : Spec Tryz.prog (tabK tabm) X (n + 30) 52 [.int .i64 x] s (fun v A => v = .bool (decide (1 ≤ x ∧ x ≤ 20)) ∧ A = []) := by
  refine enter bm52_at rfl hs ?_
  unfold bm52
  refine r_seq ?_
  refine r_items ?_
  refine i_op (a_mov rfl ?_) rfl rfl
  refine i_nil ?_
  refine then_n ?_
  refine r_seq ?_
  refine r_items ?_
  refine i_op (a_mov rfl ?_) rfl rfl
  refine i_op (a_callB rfl rfl (fun s1 h1 => inside_s _ _ _ _ s1 h1.wf) (fun h1 => ?_) (fun h1 => ?_)) rfl rfl
  · refine i_op (a_mov rfl ?_) rfl rfl
    refine i_nil ?_
    refine then_n ?_
    refine r_ret ?_
    refine end1 rfl ⟨congrArg Value.bool ?_, rfl⟩
    first | exact (decide_eq_true (by omega)).symm | exact (decide_eq_false (by omega)).symm
  · refine i_op (a_mov rfl ?_) rfl rfl
    refine i_nil ?_
    refine then_n ?_
    refine r_ret ?_
    refine end1 rfl ⟨congrArg Value.bool ?_, rfl⟩
    first | exact (decide_eq_true (by omega)).symm | exact (decide_eq_false (by omega)).symm

theorem isDense_s (n : Nat) (a b : Int) (s : St) (hs : Wf s) : Spec Tryz.prog (tabK tabm) X (n + 30) 54 [.agg ⟨[.int .i64 a, .int .i64 b]⟩] s (fun v A => v = .bool (decide (900 ≤ a ∧ a ≤ b ∧ b ≤ 1100)) ∧ A = []) := by
  refine enter bm54_at rfl hs ?_
  unfold bm54
  refine r_seq ?_
  refine r_items ?_
  refine i_op (a_box rfl rfl rfl (fun b1 => ?_)) rfl rfl
  refine i_op (a_mov rfl ?_) rfl rfl
  refine i_nil ?_
  refine then_n ?_
  refine r_seq ?_
  refine r_items ?_
  refine i_op (a_lda rfl (by decide) .here rfl ?_) rfl rfl
  refine i_op (a_callB rfl rfl (fun s1 h1 => within_s _ _ _ _ _ s1 h1.wf) (fun h2 => ?_) (fun h2 => ?_)) rfl rfl
  · refine i_op (a_mov rfl ?_) rfl rfl
    refine i_nil ?_
    refine then_n ?_
    refine r_ret ?_
    refine end1 rfl ⟨congrArg Value.bool ?_, rfl⟩
    first | exact (decide_eq_true (by omega)).symm | exact (decide_eq_false (by omega)).symm
  · refine i_op (a_mov rfl ?_) rfl rfl
    refine i_nil ?_
    refine then_n ?_
    refine r_ret ?_
    refine end1 rfl ⟨congrArg Value.bool ?_, rfl⟩
    first | exact (decide_eq_true (by omega)).symm | exact (decide_eq_false (by omega)).symm

theorem isMass_s (n : Nat) (a b : Int) (s : St) (hs : Wf s) : Spec Tryz.prog (tabK tabm) X (n + 30) 55 [.agg ⟨[.int .i64 a, .int .i64 b]⟩] s (fun v A => v = .bool (decide (0 ≤ a ∧ a ≤ b ∧ b ≤ 1000000000000)) ∧ A = []) := by
  refine enter bm55_at rfl hs ?_
  unfold bm55
  refine r_seq ?_
  refine r_items ?_
  refine i_op (a_box rfl rfl rfl (fun b1 => ?_)) rfl rfl
  refine i_op (a_mov rfl ?_) rfl rfl
  refine i_nil ?_
  refine then_n ?_
  refine r_seq ?_
  refine r_items ?_
  refine i_op (a_lda rfl (by decide) .here rfl ?_) rfl rfl
  refine i_op (a_callB rfl rfl (fun s1 h1 => within_s _ _ _ _ _ s1 h1.wf) (fun h2 => ?_) (fun h2 => ?_)) rfl rfl
  · refine i_op (a_mov rfl ?_) rfl rfl
    refine i_nil ?_
    refine then_n ?_
    refine r_ret ?_
    refine end1 rfl ⟨congrArg Value.bool ?_, rfl⟩
    first | exact (decide_eq_true (by omega)).symm | exact (decide_eq_false (by omega)).symm
  · refine i_op (a_mov rfl ?_) rfl rfl
    refine i_nil ?_
    refine then_n ?_
    refine r_ret ?_
    refine end1 rfl ⟨congrArg Value.bool ?_, rfl⟩
    first | exact (decide_eq_true (by omega)).symm | exact (decide_eq_false (by omega)).symm

theorem IsDense_s (n : Nat) (a b : Int) (s : St) (hs : Wf s) : Spec Tryz.prog (tabK tabm) X (n + 30) 56 [.agg ⟨[.int .i64 a, .int .i64 b]⟩] s (fun v A => v = .bool (decide (900 ≤ a ∧ a ≤ b ∧ b ≤ 1100)) ∧ A = []) := by
  refine enter bm56_at rfl hs ?_
  unfold bm56
  refine r_seq ?_
  refine r_items ?_
  refine i_op (a_box rfl rfl rfl (fun b1 => ?_)) rfl rfl
  refine i_op (a_mov rfl ?_) rfl rfl
  refine i_nil ?_
  refine then_n ?_
  refine r_seq ?_
  refine r_items ?_
  refine i_op (a_fa rfl ?_) rfl rfl
  refine i_op (a_ld rfl .here rfl ?_) rfl rfl
  refine i_op (a_geq rfl rfl (fun h2 => ?_) (fun h2 => ?_)) rfl rfl
  · refine i_op (a_mov rfl ?_) rfl rfl
    refine i_op (a_fa rfl ?_) rfl rfl
    refine i_op (a_ld rfl .here rfl ?_) rfl rfl
    refine i_op (a_fa rfl ?_) rfl rfl
    refine i_op (a_ld rfl .here rfl ?_) rfl rfl
    refine i_op (a_leq rfl rfl (fun h3 => ?_) (fun h3 => ?_)) rfl rfl
    · refine i_op (a_pick_t rfl rfl rfl ?_) rfl rfl
      refine i_op (a_mov rfl ?_) rfl rfl
      refine i_op (a_fa rfl ?_) rfl rfl
      refine i_op (a_ld rfl .here rfl ?_) rfl rfl
      refine i_op (a_leq rfl rfl (fun h4 => ?_) (fun h4 => ?_)) rfl rfl
      · refine i_op (a_pick_t rfl rfl rfl ?_) rfl rfl
        refine i_op (a_mov rfl ?_) rfl rfl
        refine i_nil ?_
        refine then_n ?_
        refine r_ret ?_
        refine end1 rfl ⟨congrArg Value.bool ?_, rfl⟩
        first | exact (decide_eq_true (by omega)).symm | exact (decide_eq_false (by omega)).symm
      · refine i_op (a_pick_t rfl rfl rfl ?_) rfl rfl
        refine i_op (a_mov rfl ?_) rfl rfl
        refine i_nil ?_
        refine then_n ?_
        refine r_ret ?_
        refine end1 rfl ⟨congrArg Value.bool ?_, rfl⟩
        first | exact (decide_eq_true (by omega)).symm | exact (decide_eq_false (by omega)).symm
    · refine i_op (a_pick_t rfl rfl rfl ?_) rfl rfl
      refine i_op (a_mov rfl ?_) rfl rfl
      refine i_no rfl rfl ?_
      refine i_no rfl rfl ?_
      refine i_no rfl rfl ?_
      refine i_op (a_pick_f rfl rfl rfl ?_) rfl rfl
      refine i_op (a_mov rfl ?_) rfl rfl
      refine i_nil ?_
      refine then_n ?_
      refine r_ret ?_
      refine end1 rfl ⟨congrArg Value.bool ?_, rfl⟩
      first | exact (decide_eq_true (by omega)).symm | exact (decide_eq_false (by omega)).symm
  · refine i_op (a_mov rfl ?_) rfl rfl
    refine i_no rfl rfl ?_
    refine i_no rfl rfl ?_
    refine i_no rfl rfl ?_
    refine i_no rfl rfl ?_
    refine i_no rfl rfl ?_
    refine i_op (a_pick_f rfl rfl rfl ?_) rfl rfl
    refine i_op (a_mov rfl ?_) rfl rfl
    refine i_no rfl rfl ?_
    refine i_no rfl rfl ?_
    refine i_no rfl rfl ?_
    refine i_op (a_pick_f rfl rfl rfl ?_) rfl rfl
    refine i_op (a_mov rfl ?_) rfl rfl
    refine i_nil ?_
    refine then_n ?_
    refine r_ret ?_
    refine end1 rfl ⟨congrArg Value.bool ?_, rfl⟩
    first | exact (decide_eq_true (by omega)).symm | exact (decide_eq_false (by omega)).symm

theorem IsMass_s (n : Nat) (a b : Int) (s : St) (hs : Wf s) : Spec Tryz.prog (tabK tabm) X (n + 30) 40 [.agg ⟨[.int .i64 a, .int .i64 b]⟩] s (fun v A => v = .bool (decide (0 ≤ a ∧ a ≤ b ∧ b ≤ 1000000000000)) ∧ A = []) := by
  refine enter bm40_at rfl hs ?_
  unfold bm40
  refine r_seq ?_
  refine r_items ?_
  refine i_op (a_box rfl rfl rfl (fun b1 => ?_)) rfl rfl
  refine i_op (a_mov rfl ?_) rfl rfl
  refine i_nil ?_
  refine then_n ?_
  refine r_seq ?_
  refine r_items ?_
  refine i_op (a_fa rfl ?_) rfl rfl
  refine i_op (a_ld rfl .here rfl ?_) rfl rfl
  refine i_op (a_geq rfl rfl (fun h2 => ?_) (fun h2 => ?_)) rfl rfl
  · refine i_op (a_mov rfl ?_) rfl rfl
    refine i_op (a_fa rfl ?_) rfl rfl
    refine i_op (a_ld rfl .here rfl ?_) rfl rfl
    refine i_op (a_fa rfl ?_) rfl rfl
    refine i_op (a_ld rfl .here rfl ?_) rfl rfl
    refine i_op (a_leq rfl rfl (fun h3 => ?_) (fun h3 => ?_)) rfl rfl
    · refine i_op (a_pick_t rfl rfl rfl ?_) rfl rfl
      refine i_op (a_mov rfl ?_) rfl rfl
      refine i_op (a_fa rfl ?_) rfl rfl
      refine i_op (a_ld rfl .here rfl ?_) rfl rfl
      refine i_op (a_leq rfl rfl (fun h4 => ?_) (fun h4 => ?_)) rfl rfl
      · refine i_op (a_pick_t rfl rfl rfl ?_) rfl rfl
        refine i_op (a_mov rfl ?_) rfl rfl
        refine i_nil ?_
        refine then_n ?_
        refine r_ret ?_
        refine end1 rfl ⟨congrArg Value.bool ?_, rfl⟩
        first | exact (decide_eq_true (by omega)).symm | exact (decide_eq_false (by omega)).symm
      · refine i_op (a_pick_t rfl rfl rfl ?_) rfl rfl
        refine i_op (a_mov rfl ?_) rfl rfl
        refine i_nil ?_
        refine then_n ?_
        refine r_ret ?_
        refine end1 rfl ⟨congrArg Value.bool ?_, rfl⟩
        first | exact (decide_eq_true (by omega)).symm | exact (decide_eq_false (by omega)).symm
    · refine i_op (a_pick_t rfl rfl rfl ?_) rfl rfl
      refine i_op (a_mov rfl ?_) rfl rfl
      refine i_no rfl rfl ?_
      refine i_no rfl rfl ?_
      refine i_no rfl rfl ?_
      refine i_op (a_pick_f rfl rfl rfl ?_) rfl rfl
      refine i_op (a_mov rfl ?_) rfl rfl
      refine i_nil ?_
      refine then_n ?_
      refine r_ret ?_
      refine end1 rfl ⟨congrArg Value.bool ?_, rfl⟩
      first | exact (decide_eq_true (by omega)).symm | exact (decide_eq_false (by omega)).symm
  · refine i_op (a_mov rfl ?_) rfl rfl
    refine i_no rfl rfl ?_
    refine i_no rfl rfl ?_
    refine i_no rfl rfl ?_
    refine i_no rfl rfl ?_
    refine i_no rfl rfl ?_
    refine i_op (a_pick_f rfl rfl rfl ?_) rfl rfl
    refine i_op (a_mov rfl ?_) rfl rfl
    refine i_no rfl rfl ?_
    refine i_no rfl rfl ?_
    refine i_no rfl rfl ?_
    refine i_op (a_pick_f rfl rfl rfl ?_) rfl rfl
    refine i_op (a_mov rfl ?_) rfl rfl
    refine i_nil ?_
    refine then_n ?_
    refine r_ret ?_
    refine end1 rfl ⟨congrArg Value.bool ?_, rfl⟩
    first | exact (decide_eq_true (by omega)).symm | exact (decide_eq_false (by omega)).symm

theorem unless_t (n : Nat) (e : Int) (s : St) (hs : Wf s) : Spec Tryz.prog (tabK tabm) X (n + 20) 27 [.bool true, .int .i64 e] s (fun v A => v = .int .i64 0 ∧ A = []) := by
  refine enter bm27_at rfl hs ?_
  unfold bm27
  refine r_seq ?_
  refine r_items ?_
  refine i_op (a_mov rfl ?_) rfl rfl
  refine i_nil ?_
  refine then_n ?_
  refine r_seq ?_
  refine r_seq ?_
  refine r_items ?_
  refine i_op (a_mov rfl ?_) rfl rfl
  refine i_nil ?_
  refine then_n ?_
  refine r_cond_t rfl ?_
  refine r_seq ?_
  refine r_items ?_
  refine i_op (a_mov rfl ?_) rfl rfl
  refine i_nil ?_
  refine then_n ?_
  refine r_ret ?_
  refine then_r ?_
  exact end1 rfl ⟨rfl, rfl⟩

theorem unless_f (n : Nat) (e : Int) (s : St) (hs : Wf s) : Spec Tryz.prog (tabK tabm) X (n + 20) 27 [.bool false, .int .i64 e] s (fun v A => v = .int .i64 e ∧ A = []) := by
  refine enter bm27_at rfl hs ?_
  unfold bm27
  refine r_seq ?_
  refine r_items ?_
  refine i_op (a_mov rfl ?_) rfl rfl
  refine i_nil ?_
  refine then_n ?_
  refine r_seq ?_
  refine r_seq ?_
  refine r_items ?_
  refine i_op (a_mov rfl ?_) rfl rfl
  refine i_nil ?_
  refine then_n ?_
  refine r_cond_f rfl ?_
  refine r_skip ?_
  refine then_n ?_
  refine r_seq ?_
  refine r_items ?_
  refine i_op (a_mov rfl ?_) rfl rfl
  refine i_op (a_mov rfl ?_) rfl rfl
  refine i_nil ?_
  refine then_n ?_
  refine r_ret ?_
  exact end1 rfl ⟨rfl, rfl⟩

theorem or2_s (n : Nat) (b o : Nat) (c : Nat) (x y : Int) (s : St) (hs : Wf s) (hx : At s b o (.int .i64 x)) (hy : At s b (o + 1) (.int .i64 y)) : Spec Tryz.prog (tabK tabm) X (n + 20) 29 [.slice (some ⟨b, o, none⟩) 2 c] s (fun v A => v = .int .i64 (or2 x y) ∧ A = []) := by
  refine enter bm29_at rfl hs ?_
  unfold bm29
  refine r_seq ?_
  refine r_items ?_
  refine i_op (a_mov rfl ?_) rfl rfl
  refine i_nil ?_
  refine then_n ?_
  refine r_seq ?_
  refine r_items ?_
  refine i_op (a_mov rfl ?_) rfl rfl
  refine i_nil ?_
  refine then_n ?_
  refine r_seq ?_
  refine r_seq ?_
  refine r_items ?_
  refine i_op (a_mov rfl ?_) rfl rfl
  refine i_op (a_lenx rfl (fun b hb => by cases hb; rfl) ?_) rfl rfl
  refine i_op (a_mov rfl ?_) rfl rfl
  refine i_nil ?_
  refine then_n ?_
  refine r_block ?_
  refine r_unroll ?_
  refine r_seq ?_
  refine r_items ?_
  refine i_op (a_lss rfl rfl (fun _ => ?_) (fun h => absurd h (by decide))) rfl rfl
  refine i_nil ?_
  refine then_n ?_
  refine r_seq ?_
  refine r_cond_t rfl ?_
  refine r_skip ?_
  refine then_n ?_
  refine r_seq ?_
  refine r_block ?_
  refine r_seq ?_
  refine r_items ?_
  refine i_op (a_ia (j := 0) rfl rfl (by decide) (by decide) ?_) rfl rfl
  refine i_op (a_ldr rfl (by assumption) ?_) rfl rfl
  refine i_op (a_mov rfl ?_) rfl rfl
  refine i_nil ?_
  refine then_n ?_
  refine r_seq ?_
  refine r_items ?_
  refine i_op (a_mov rfl ?_) rfl rfl
  refine i_op (a_mov rfl ?_) rfl rfl
  refine i_op (a_neq rfl rfl (fun h2 => ?_) (fun h2 => ?_)) rfl rfl
  · refine i_nil ?_
    refine then_n ?_
    refine r_cond_t rfl ?_
    refine r_seq ?_
    refine r_items ?_
    refine i_op (a_mov rfl ?_) rfl rfl
    refine i_op (a_mov rfl ?_) rfl rfl
    refine i_nil ?_
    refine then_n ?_
    refine r_ret ?_
    refine block_r ?_
    refine then_r ?_
    refine then_r ?_
    refine block_r ?_
    refine then_r ?_
    refine end1 rfl ⟨congrArg (Value.int .i64) ?_, rfl⟩
    unfold or2
    first | (rw [if_pos (by assumption)]; done) | (rw [if_neg (by assumption)]; done) | (simp [*]; done) | omega
  · refine i_nil ?_
    refine then_n ?_
    refine r_cond_f rfl ?_
    refine r_skip ?_
    refine block_n ?_
    refine then_n ?_
    refine r_items ?_
    refine i_op (a_add rfl rfl (by decide) ?_) rfl rfl
    refine i_op (a_mov rfl ?_) rfl rfl
    refine i_nil ?_
    refine then_n ?_
    refine r_unroll ?_
    refine r_seq ?_
    refine r_items ?_
    refine i_op (a_lss rfl rfl (fun _ => ?_) (fun h => absurd h (by decide))) rfl rfl
    refine i_nil ?_
    refine then_n ?_
    refine r_seq ?_
    refine r_cond_t rfl ?_
    refine r_skip ?_
    refine then_n ?_
    refine r_seq ?_
    refine r_block ?_
    refine r_seq ?_
    refine r_items ?_
    refine i_op (a_ia (j := 1) rfl rfl (by decide) (by decide) ?_) rfl rfl
    refine i_op (a_ldr rfl (by assumption) ?_) rfl rfl
    refine i_op (a_mov rfl ?_) rfl rfl
    refine i_nil ?_
    refine then_n ?_
    refine r_seq ?_
    refine r_items ?_
    refine i_op (a_mov rfl ?_) rfl rfl
    refine i_op (a_mov rfl ?_) rfl rfl
    refine i_op (a_neq rfl rfl (fun h4 => ?_) (fun h4 => ?_)) rfl rfl
    · refine i_nil ?_
      refine then_n ?_
      refine r_cond_t rfl ?_
      refine r_seq ?_
      refine r_items ?_
      refine i_op (a_mov rfl ?_) rfl rfl
      refine i_op (a_mov rfl ?_) rfl rfl
      refine i_nil ?_
      refine then_n ?_
      refine r_ret ?_
      refine block_r ?_
      refine then_r ?_
      refine then_r ?_
      refine block_r ?_
      refine then_r ?_
      refine end1 rfl ⟨congrArg (Value.int .i64) ?_, rfl⟩
      unfold or2
      first | (rw [if_pos (by assumption)]; done) | (rw [if_neg (by assumption)]; done) | (simp [*]; done) | omega
    · refine i_nil ?_
      refine then_n ?_
      refine r_cond_f rfl ?_
      refine r_skip ?_
      refine block_n ?_
      refine then_n ?_
      refine r_items ?_
      refine i_op (a_add rfl rfl (by decide) ?_) rfl rfl
      refine i_op (a_mov rfl ?_) rfl rfl
      refine i_nil ?_
      refine then_n ?_
      refine r_unroll ?_
      refine r_seq ?_
      refine r_items ?_
      refine i_op (a_lss rfl rfl (fun h => absurd h (by decide)) (fun _ => ?_)) rfl rfl
      refine i_nil ?_
      refine then_n ?_
      refine r_seq ?_
      refine r_cond_f rfl ?_
      refine r_exit ?_
      refine then_e ?_
      refine then_e ?_
      refine block_hit ?_
      refine then_n ?_
      refine r_seq ?_
      refine r_items ?_
      refine i_op (a_mov rfl ?_) rfl rfl
      refine i_op (a_mov rfl ?_) rfl rfl
      refine i_nil ?_
      refine then_n ?_
      refine r_ret ?_
      refine end1 rfl ⟨congrArg (Value.int .i64) ?_, rfl⟩
      unfold or2
      first | (rw [if_pos (by assumption)]; done) | (rw [if_neg (by assumption)]; done) | (simp [*]; done) | omega

theorem checkLeg_s (n : Nat) (z f t dl dh bl bh : Int) (s : St) (hs : Wf s) : Spec Tryz.prog (tabK tabm) X (n + 60) 30 [.agg ⟨[.int .i64 z, .int .i64 f, .int .i64 t, .int .i64 dl, .int .i64 dh, .int .i64 bl, .int .i64 bh]⟩] s (fun v A => v = .int .i64 (if (1 ≤ z ∧ z ≤ 20) ∧ (0 ≤ f ∧ f ≤ t ∧ t ≤ 100000) ∧ (900 ≤ dl ∧ dl ≤ dh ∧ dh ≤ 1100) ∧ (0 ≤ bl ∧ bl ≤ bh ∧ bh ≤ 1000000000000) then 0 else 61) ∧ A = []) := by
  refine enter bm30_at rfl hs ?_
  unfold bm30
  refine r_seq ?_
  refine r_items ?_
  refine i_op (a_box rfl rfl rfl (fun b1 => ?_)) rfl rfl
  refine i_op (a_mov rfl ?_) rfl rfl
  refine i_nil ?_
  refine then_n ?_
  refine r_seq ?_
  refine r_items ?_
  refine i_op (a_fa rfl ?_) rfl rfl
  refine i_op (a_ld rfl .here rfl ?_) rfl rfl
  refine i_op (a_callB rfl rfl (fun s1 h1 => isZone_s _ _ s1 h1.wf) (fun h2 => ?_) (fun h2 => ?_)) rfl rfl
  · refine i_op (a_mov rfl ?_) rfl rfl
    refine i_op (a_fa rfl ?_) rfl rfl
    refine i_op (a_ld rfl .here rfl ?_) rfl rfl
    refine i_op (a_fa rfl ?_) rfl rfl
    refine i_op (a_ld rfl .here rfl ?_) rfl rfl
    refine i_op (a_build rfl rfl ?_) rfl rfl
    refine i_op (a_callB rfl rfl (fun s1 h1 => within_s _ _ _ _ _ s1 h1.wf) (fun h3 => ?_) (fun h3 => ?_)) rfl rfl
    · refine i_op (a_pick_t rfl rfl rfl ?_) rfl rfl
      refine i_op (a_mov rfl ?_) rfl rfl
      refine i_op (a_fa rfl ?_) rfl rfl
      refine i_op (a_lda rfl (by decide) .here rfl ?_) rfl rfl
      refine i_op (a_callB rfl rfl (fun s1 h1 => isDense_s _ _ _ s1 h1.wf) (fun h4 => ?_) (fun h4 => ?_)) rfl rfl
      · refine i_op (a_pick_t rfl rfl rfl ?_) rfl rfl
        refine i_op (a_mov rfl ?_) rfl rfl
        refine i_op (a_fa rfl ?_) rfl rfl
        refine i_op (a_lda rfl (by decide) .here rfl ?_) rfl rfl
        refine i_op (a_callB rfl rfl (fun s1 h1 => isMass_s _ _ _ s1 h1.wf) (fun h5 => ?_) (fun h5 => ?_)) rfl rfl
        · refine i_op (a_pick_t rfl rfl rfl ?_) rfl rfl
          refine i_op (a_mov rfl ?_) rfl rfl
          refine i_nil ?_
          refine then_n ?_
          refine r_seq ?_
          refine r_items ?_
          refine i_op (a_mov rfl ?_) rfl rfl
          refine i_op (a_callV rfl rfl (fun s1 h1 => unless_t _ _ s1 h1.wf) ?_) rfl rfl
          refine i_op (a_mov rfl ?_) rfl rfl
          refine i_nil ?_
          refine then_n ?_
          refine r_ret ?_
          refine end1 rfl ⟨congrArg (Value.int .i64) ?_, rfl⟩
          first | rfl | exact (if_pos (by omega)).symm | exact (if_neg (by omega)).symm | (simp [*]; done) | omega
        · refine i_op (a_pick_t rfl rfl rfl ?_) rfl rfl
          refine i_op (a_mov rfl ?_) rfl rfl
          refine i_nil ?_
          refine then_n ?_
          refine r_seq ?_
          refine r_items ?_
          refine i_op (a_mov rfl ?_) rfl rfl
          refine i_op (a_callV rfl rfl (fun s1 h1 => unless_f _ _ s1 h1.wf) ?_) rfl rfl
          refine i_op (a_mov rfl ?_) rfl rfl
          refine i_nil ?_
          refine then_n ?_
          refine r_ret ?_
          refine end1 rfl ⟨congrArg (Value.int .i64) ?_, rfl⟩
          first | rfl | exact (if_pos (by omega)).symm | exact (if_neg (by omega)).symm | (simp [*]; done) | omega
      · refine i_op (a_pick_t rfl rfl rfl ?_) rfl rfl
        refine i_op (a_mov rfl ?_) rfl rfl
        refine i_no rfl rfl ?_
        refine i_no rfl rfl ?_
        refine i_no rfl rfl ?_
        refine i_op (a_pick_f rfl rfl rfl ?_) rfl rfl
        refine i_op (a_mov rfl ?_) rfl rfl
        refine i_nil ?_
        refine then_n ?_
        refine r_seq ?_
        refine r_items ?_
        refine i_op (a_mov rfl ?_) rfl rfl
        refine i_op (a_callV rfl rfl (fun s1 h1 => unless_f _ _ s1 h1.wf) ?_) rfl rfl
        refine i_op (a_mov rfl ?_) rfl rfl
        refine i_nil ?_
        refine then_n ?_
        refine r_ret ?_
        refine end1 rfl ⟨congrArg (Value.int .i64) ?_, rfl⟩
        first | rfl | exact (if_pos (by omega)).symm | exact (if_neg (by omega)).symm | (simp [*]; done) | omega
    · refine i_op (a_pick_t rfl rfl rfl ?_) rfl rfl
      refine i_op (a_mov rfl ?_) rfl rfl
      refine i_no rfl rfl ?_
      refine i_no rfl rfl ?_
      refine i_no rfl rfl ?_
      refine i_op (a_pick_f rfl rfl rfl ?_) rfl rfl
      refine i_op (a_mov rfl ?_) rfl rfl
      refine i_no rfl rfl ?_
      refine i_no rfl rfl ?_
      refine i_no rfl rfl ?_
      refine i_op (a_pick_f rfl rfl rfl ?_) rfl rfl
      refine i_op (a_mov rfl ?_) rfl rfl
      refine i_nil ?_
      refine then_n ?_
      refine r_seq ?_
      refine r_items ?_
      refine i_op (a_mov rfl ?_) rfl rfl
      refine i_op (a_callV rfl rfl (fun s1 h1 => unless_f _ _ s1 h1.wf) ?_) rfl rfl
      refine i_op (a_mov rfl ?_) rfl rfl
      refine i_nil ?_
      refine then_n ?_
      refine r_ret ?_
      refine end1 rfl ⟨congrArg (Value.int .i64) ?_, rfl⟩
      first | rfl | exact (if_pos (by omega)).symm | exact (if_neg (by omega)).symm | (simp [*]; done) | omega
  · refine i_op (a_mov rfl ?_) rfl rfl
    refine i_no rfl rfl ?_
    refine i_no rfl rfl ?_
    refine i_no rfl rfl ?_
    refine i_no rfl rfl ?_
    refine i_no rfl rfl ?_
    refine i_no rfl rfl ?_
    refine i_op (a_pick_f rfl rfl rfl ?_) rfl rfl
    refine i_op (a_mov rfl ?_) rfl rfl
    refine i_no rfl rfl ?_
    refine i_no rfl rfl ?_
    refine i_no rfl rfl ?_
    refine i_op (a_pick_f rfl rfl rfl ?_) rfl rfl
    refine i_op (a_mov rfl ?_) rfl rfl
    refine i_no rfl rfl ?_
    refine i_no rfl rfl ?_
    refine i_no rfl rfl ?_
    refine i_op (a_pick_f rfl rfl rfl ?_) rfl rfl
    refine i_op (a_mov rfl ?_) rfl rfl
    refine i_nil ?_
    refine then_n ?_
    refine r_seq ?_
    refine r_items ?_
    refine i_op (a_mov rfl ?_) rfl rfl
    refine i_op (a_callV rfl rfl (fun s1 h1 => unless_f _ _ s1 h1.wf) ?_) rfl rfl
    refine i_op (a_mov rfl ?_) rfl rfl
    refine i_nil ?_
    refine then_n ?_
    refine r_ret ?_
    refine end1 rfl ⟨congrArg (Value.int .i64) ?_, rfl⟩
    first | rfl | exact (if_pos (by omega)).symm | exact (if_neg (by omega)).symm | (simp [*]; done) | omega

theorem IsLeg_s (n : Nat) (z f t dl dh bl bh : Int) (s : St) (hs : Wf s) : Spec Tryz.prog (tabK tabm) X (n + 60) 31 [.agg ⟨[.int .i64 z, .int .i64 f, .int .i64 t, .int .i64 dl, .int .i64 dh, .int .i64 bl, .int .i64 bh]⟩] s (fun v A => v = .bool (decide ((1 ≤ z ∧ z ≤ 20) ∧ (0 ≤ f ∧ f ≤ t ∧ t ≤ 100000) ∧ (900 ≤ dl ∧ dl ≤ dh ∧ dh ≤ 1100) ∧ (0 ≤ bl ∧ bl ≤ bh ∧ bh ≤ 1000000000000))) ∧ A = []) := by
  refine enter bm31_at rfl hs ?_
  unfold bm31
  refine r_seq ?_
  refine r_items ?_
  refine i_op (a_box rfl rfl rfl (fun b1 => ?_)) rfl rfl
  refine i_op (a_mov rfl ?_) rfl rfl
  refine i_nil ?_
  refine then_n ?_
  refine r_seq ?_
  refine r_items ?_
  refine i_op (a_fa rfl ?_) rfl rfl
  refine i_op (a_ld rfl .here rfl ?_) rfl rfl
  refine i_op (a_callB rfl rfl (fun s1 h1 => In_s _ _ _ _ s1 h1.wf) (fun h2 => ?_) (fun h2 => ?_)) rfl rfl
  · refine i_op (a_mov rfl ?_) rfl rfl
    refine i_op (a_fa rfl ?_) rfl rfl
    refine i_op (a_ld rfl .here rfl ?_) rfl rfl
    refine i_op (a_geq rfl rfl (fun h3 => ?_) (fun h3 => ?_)) rfl rfl
    · refine i_op (a_pick_t rfl rfl rfl ?_) rfl rfl
      refine i_op (a_mov rfl ?_) rfl rfl
      refine i_op (a_fa rfl ?_) rfl rfl
      refine i_op (a_ld rfl .here rfl ?_) rfl rfl
      refine i_op (a_fa rfl ?_) rfl rfl
      refine i_op (a_ld rfl .here rfl ?_) rfl rfl
      refine i_op (a_leq rfl rfl (fun h4 => ?_) (fun h4 => ?_)) rfl rfl
      · refine i_op (a_pick_t rfl rfl rfl ?_) rfl rfl
        refine i_op (a_mov rfl ?_) rfl rfl
        refine i_op (a_fa rfl ?_) rfl rfl
        refine i_op (a_ld rfl .here rfl ?_) rfl rfl
        refine i_op (a_leq rfl rfl (fun h5 => ?_) (fun h5 => ?_)) rfl rfl
        · refine i_op (a_pick_t rfl rfl rfl ?_) rfl rfl
          refine i_op (a_mov rfl ?_) rfl rfl
          refine i_op (a_fa rfl ?_) rfl rfl
          refine i_op (a_lda rfl (by decide) .here rfl ?_) rfl rfl
          refine i_op (a_callB rfl rfl (fun s1 h1 => IsDense_s _ _ _ s1 h1.wf) (fun h6 => ?_) (fun h6 => ?_)) rfl rfl
          · refine i_op (a_pick_t rfl rfl rfl ?_) rfl rfl
            refine i_op (a_mov rfl ?_) rfl rfl
            refine i_op (a_fa rfl ?_) rfl rfl
            refine i_op (a_lda rfl (by decide) .here rfl ?_) rfl rfl
            refine i_op (a_callB rfl rfl (fun s1 h1 => IsMass_s _ _ _ s1 h1.wf) (fun h7 => ?_) (fun h7 => ?_)) rfl rfl
            · refine i_op (a_pick_t rfl rfl rfl ?_) rfl rfl
              refine i_op (a_mov rfl ?_) rfl rfl
              refine i_nil ?_
              refine then_n ?_
              refine r_ret ?_
              refine end1 rfl ⟨congrArg Value.bool ?_, rfl⟩
              first | exact (decide_eq_true (by omega)).symm | exact (decide_eq_false (by omega)).symm
            · refine i_op (a_pick_t rfl rfl rfl ?_) rfl rfl
              refine i_op (a_mov rfl ?_) rfl rfl
              refine i_nil ?_
              refine then_n ?_
              refine r_ret ?_
              refine end1 rfl ⟨congrArg Value.bool ?_, rfl⟩
              first | exact (decide_eq_true (by omega)).symm | exact (decide_eq_false (by omega)).symm
          · refine i_op (a_pick_t rfl rfl rfl ?_) rfl rfl
            refine i_op (a_mov rfl ?_) rfl rfl
            refine i_no rfl rfl ?_
            refine i_no rfl rfl ?_
            refine i_no rfl rfl ?_
            refine i_op (a_pick_f rfl rfl rfl ?_) rfl rfl
            refine i_op (a_mov rfl ?_) rfl rfl
            refine i_nil ?_
            refine then_n ?_
            refine r_ret ?_
            refine end1 rfl ⟨congrArg Value.bool ?_, rfl⟩
            first | exact (decide_eq_true (by omega)).symm | exact (decide_eq_false (by omega)).symm
        · refine i_op (a_pick_t rfl rfl rfl ?_) rfl rfl
          refine i_op (a_mov rfl ?_) rfl rfl
          refine i_no rfl rfl ?_
          refine i_no rfl rfl ?_
          refine i_no rfl rfl ?_
          refine i_op (a_pick_f rfl rfl rfl ?_) rfl rfl
          refine i_op (a_mov rfl ?_) rfl rfl
          refine i_no rfl rfl ?_
          refine i_no rfl rfl ?_
          refine i_no rfl rfl ?_
          refine i_op (a_pick_f rfl rfl rfl ?_) rfl rfl
          refine i_op (a_mov rfl ?_) rfl rfl
          refine i_nil ?_
          refine then_n ?_
          refine r_ret ?_
          refine end1 rfl ⟨congrArg Value.bool ?_, rfl⟩
          first | exact (decide_eq_true (by omega)).symm | exact (decide_eq_false (by omega)).symm
      · refine i_op (a_pick_t rfl rfl rfl ?_) rfl rfl
        refine i_op (a_mov rfl ?_) rfl rfl
        refine i_no rfl rfl ?_
        refine i_no rfl rfl ?_
        refine i_no rfl rfl ?_
        refine i_op (a_pick_f rfl rfl rfl ?_) rfl rfl
        refine i_op (a_mov rfl ?_) rfl rfl
        refine i_no rfl rfl ?_
        refine i_no rfl rfl ?_
        refine i_no rfl rfl ?_
        refine i_op (a_pick_f rfl rfl rfl ?_) rfl rfl
        refine i_op (a_mov rfl ?_) rfl rfl
        refine i_no rfl rfl ?_
        refine i_no rfl rfl ?_
        refine i_no rfl rfl ?_
        refine i_op (a_pick_f rfl rfl rfl ?_) rfl rfl
        refine i_op (a_mov rfl ?_) rfl rfl
        refine i_nil ?_
        refine then_n ?_
        refine r_ret ?_
        refine end1 rfl ⟨congrArg Value.bool ?_, rfl⟩
        first | exact (decide_eq_true (by omega)).symm | exact (decide_eq_false (by omega)).symm
    · refine i_op (a_pick_t rfl rfl rfl ?_) rfl rfl
      refine i_op (a_mov rfl ?_) rfl rfl
      refine i_no rfl rfl ?_
      refine i_no rfl rfl ?_
      refine i_no rfl rfl ?_
      refine i_no rfl rfl ?_
      refine i_no rfl rfl ?_
      refine i_op (a_pick_f rfl rfl rfl ?_) rfl rfl
      refine i_op (a_mov rfl ?_) rfl rfl
      refine i_no rfl rfl ?_
      refine i_no rfl rfl ?_
      refine i_no rfl rfl ?_
      refine i_op (a_pick_f rfl rfl rfl ?_) rfl rfl
      refine i_op (a_mov rfl ?_) rfl rfl
      refine i_no rfl rfl ?_
      refine i_no rfl rfl ?_
      refine i_no rfl rfl ?_
      refine i_op (a_pick_f rfl rfl rfl ?_) rfl rfl
      refine i_op (a_mov rfl ?_) rfl rfl
      refine i_no rfl rfl ?_
      refine i_no rfl rfl ?_
      refine i_no rfl rfl ?_
      refine i_op (a_pick_f rfl rfl rfl ?_) rfl rfl
      refine i_op (a_mov rfl ?_) rfl rfl
      refine i_nil ?_
      refine then_n ?_
      refine r_ret ?_
      refine end1 rfl ⟨congrArg Value.bool ?_, rfl⟩
      first | exact (decide_eq_true (by omega)).symm | exact (decide_eq_false (by omega)).symm
  · refine i_op (a_mov rfl ?_) rfl rfl
    refine i_no rfl rfl ?_
    refine i_no rfl rfl ?_
    refine i_no rfl rfl ?_
    refine i_op (a_pick_f rfl rfl rfl ?_) rfl rfl
    refine i_op (a_mov rfl ?_) rfl rfl
    refine i_no rfl rfl ?_
    refine i_no rfl rfl ?_
    refine i_no rfl rfl ?_
    refine i_no rfl rfl ?_
    refine i_no rfl rfl ?_
    refine i_op (a_pick_f rfl rfl rfl ?_) rfl rfl
    refine i_op (a_mov rfl ?_) rfl rfl
    refine i_no rfl rfl ?_
    refine i_no rfl rfl ?_
    refine i_no rfl rfl ?_
    refine i_op (a_pick_f rfl rfl rfl ?_) rfl rfl
    refine i_op (a_mov rfl ?_) rfl rfl
    refine i_no rfl rfl ?_
    refine i_no rfl rfl ?_
    refine i_no rfl rfl ?_
    refine i_op (a_pick_f rfl rfl rfl ?_) rfl rfl
    refine i_op (a_mov rfl ?_) rfl rfl
    refine i_no rfl rfl ?_
    refine i_no rfl rfl ?_
    refine i_no rfl rfl ?_
    refine i_op (a_pick_f rfl rfl rfl ?_) rfl rfl
    refine i_op (a_mov rfl ?_) rfl rfl
    refine i_nil ?_
    refine then_n ?_
    refine r_ret ?_
    refine end1 rfl ⟨congrArg Value.bool ?_, rfl⟩
    first | exact (decide_eq_true (by omega)).symm | exact (decide_eq_false (by omega)).symm

theorem checkMass_s (n : Nat) (a b : Int) (s : St) (hs : Wf s) : Spec Tryz.prog (tabK tabm) X (n + 60) 39 [.agg ⟨[.int .i64 a, .int .i64 b]⟩] s (fun v A => v = .int .i64 (if 0 ≤ a ∧ a ≤ b ∧ b ≤ 1000000000000 then 0 else 63) ∧ A = []) := by
  refine enter bm39_at rfl hs ?_
  unfold bm39
  refine r_seq ?_
  refine r_items ?_
  refine i_op (a_box rfl rfl rfl (fun b1 => ?_)) rfl rfl
  refine i_op (a_mov rfl ?_) rfl rfl
  refine i_nil ?_
  refine then_n ?_
  refine r_seq ?_
  refine r_items ?_
  refine i_op (a_lda rfl (by decide) .here rfl ?_) rfl rfl
  refine i_op (a_callB rfl rfl (fun s1 h1 => isMass_s _ _ _ s1 h1.wf) (fun h2 => ?_) (fun h2 => ?_)) rfl rfl
  · refine i_op (a_callV rfl rfl (fun s1 h1 => unless_t _ _ s1 h1.wf) ?_) rfl rfl
    refine i_op (a_mov rfl ?_) rfl rfl
    refine i_nil ?_
    refine then_n ?_
    refine r_ret ?_
    refine end1 rfl ⟨congrArg (Value.int .i64) ?_, rfl⟩
    first | rfl | exact (if_pos (by omega)).symm | exact (if_neg (by omega)).symm | (simp [*]; done) | omega
  · refine i_op (a_callV rfl rfl (fun s1 h1 => unless_f _ _ s1 h1.wf) ?_) rfl rfl
    refine i_op (a_mov rfl ?_) rfl rfl
    refine i_nil ?_
    refine then_n ?_
    refine r_ret ?_
    refine end1 rfl ⟨congrArg (Value.int .i64) ?_, rfl⟩
    first | rfl | exact (if_pos (by omega)).symm | exact (if_neg (by omega)).symm | (simp [*]; done) | omega

end
end Ev
end Go.Proofs.YtgbfnonfecpajaaGreat

/- Contracts, by the evaluator: routes. -/
namespace Go.Proofs.YtgbfnonfecpajaaGreat
open Go Go.RowKit
namespace Ev
def legP (z f t dl dh bl bh : Int) : Bool := decide ((1 ≤ z ∧ z ≤ 20) ∧ (0 ≤ f ∧ f ≤ t ∧ t ≤ 100000) ∧ (900 ≤ dl ∧ dl ≤ dh ∧ dh ≤ 1100) ∧ (0 ≤ bl ∧ bl ≤ bh ∧ bh ≤ 1000000000000))
/-- Legs are valid, and each begins where the one ahead of it ends, or later. -/
def rtB : Int → List (List Int) → Bool
  | _, [] => true
  | b, [z, f, t, dl, dh, bl, bh] :: rs => legP z f t dl dh bl bh && decide (b ≤ f) && rtB t rs
  | _, _ :: _ => false
def prevTo (rs : List (List Int)) (k : Nat) : Int := if k = 0 then 0 else (rs.getD (k - 1) []).getD 2 0
theorem prevTo_succ {rs : List (List Int)} {k : Nat} {z f t dl dh bl bh : Int} (h : rs[k]? = some [z, f, t, dl, dh, bl, bh]) : prevTo rs (k + 1) = t := by
  unfold prevTo
  rw [if_neg (by omega), Nat.add_sub_cancel]; simp [List.getD_eq_getElem?_getD, h]
theorem rt_step {rs : List (List Int)} {k : Nat} {z f t dl dh bl bh : Int} (h : rs[k]? = some [z, f, t, dl, dh, bl, bh]) (hi : rtB 0 rs = rtB (prevTo rs k) (rs.drop k)) : rtB 0 rs = (legP z f t dl dh bl bh && decide (prevTo rs k ≤ f) && rtB (prevTo rs (k + 1)) (rs.drop (k + 1))) := by
  obtain ⟨hk, he⟩ := List.getElem?_eq_some_iff.1 h
  rw [prevTo_succ h, hi, List.drop_eq_getElem_cons hk, he]; rfl
theorem rt_bad {rs : List (List Int)} {k : Nat} {z f t dl dh bl bh : Int} (h : rs[k]? = some [z, f, t, dl, dh, bl, bh]) (hi : rtB 0 rs = rtB (prevTo rs k) (rs.drop k)) (hn : ¬ ((1 ≤ z ∧ z ≤ 20) ∧ (0 ≤ f ∧ f ≤ t ∧ t ≤ 100000) ∧ (900 ≤ dl ∧ dl ≤ dh ∧ dh ≤ 1100) ∧ (0 ≤ bl ∧ bl ≤ bh ∧ bh ≤ 1000000000000)) ∨ ¬ prevTo rs k ≤ f) : rtB 0 rs = false := by
  rw [rt_step h hi]
  rcases hn with hn | hn
  · rw [show legP z f t dl dh bl bh = false from decide_eq_false hn]; rfl
  · rw [decide_eq_false hn]; simp
theorem rt_good {rs : List (List Int)} {k : Nat} {z f t dl dh bl bh : Int} (h : rs[k]? = some [z, f, t, dl, dh, bl, bh]) (hi : rtB 0 rs = rtB (prevTo rs k) (rs.drop k)) (h1 : (1 ≤ z ∧ z ≤ 20) ∧ (0 ≤ f ∧ f ≤ t ∧ t ≤ 100000) ∧ (900 ≤ dl ∧ dl ≤ dh ∧ dh ≤ 1100) ∧ (0 ≤ bl ∧ bl ≤ bh ∧ bh ≤ 1000000000000)) (h2 : prevTo rs k ≤ f) : rtB 0 rs = rtB (prevTo rs (k + 1)) (rs.drop (k + 1)) := by
  rw [rt_step h hi, show legP z f t dl dh bl bh = true from decide_eq_true h1, decide_eq_true h2]; rfl
theorem rt_end {rs : List (List Int)} {k : Nat} (hi : rtB 0 rs = rtB (prevTo rs k) (rs.drop k)) (hk : rs.length ≤ k) : rtB 0 rs = true := by
  rw [hi, List.drop_eq_nil_of_le hk]; simp [rtB]
theorem RowsE.row7 {s : St} {a : Option Addr} {rs : List (List Int)} (h : RowsE s 7 a rs) {k : Nat} (hk : k < rs.length) : ∃ b o z f t dl dh bl bh, a = some ⟨b, o, none⟩ ∧ rs[k]? = some [z, f, t, dl, dh, bl, bh] ∧ Ats s b (o + k * 7) [.int .i64 z, .int .i64 f, .int .i64 t, .int .i64 dl, .int .i64 dh, .int .i64 bl, .int .i64 bh] ∧ (-9223372036854775808 ≤ t ∧ t < 9223372036854775808) := by
  obtain ⟨b, o, r, h1, h2, h3, h4, h5⟩ := h.row hk
  obtain ⟨z, r1, rfl, g1⟩ := list_len_succ h3
  obtain ⟨f, r2, rfl, g2⟩ := list_len_succ g1
  obtain ⟨t, r3, rfl, g3⟩ := list_len_succ g2
  obtain ⟨dl, r4, rfl, g4⟩ := list_len_succ g3
  obtain ⟨dh, r5, rfl, g5⟩ := list_len_succ g4
  obtain ⟨bl, r6, rfl, g6⟩ := list_len_succ g5
  obtain ⟨bh, r7, rfl, g7⟩ := list_len_succ g6
  have : r7 = [] := List.eq_nil_of_length_eq_zero g7
  subst this
  exact ⟨b, o, z, f, t, dl, dh, bl, bh, h1, h2, h4, h5 t (by simp)⟩

section
variable {X : FuncId → List Value → St → (Value → St → Bool) → Bool}
theorem CheckRoute_s (n : Nat) (a : Option Addr) (cap : Nat) (rs : List (List Int)) (s : St) (hs : Wf s) (hn : 281474976710656 ≤ n) (hR : RowsE s 7 a rs) : Spec Tryz.prog (tabK tabm) X (n + 200) 9 [.agg ⟨[.slice a rs.length cap]⟩] s (fun v A => v = .int .i64 (if (1 ≤ (rs.length : Int) ∧ (rs.length : Int) ≤ 12) ∧ rtB 0 rs = true then 0 else 61) ∧ A = []) := by
  refine enter bm9_at rfl hs ?_
  unfold bm9
  have hlen := hR.len
  refine r_seq ?_
  refine r_items ?_
  refine i_op (a_box rfl rfl rfl (fun b1 => ?_)) rfl rfl
  refine i_op (a_mov rfl ?_) rfl rfl
  refine i_nil ?_
  refine then_n ?_
  refine r_seq ?_
  refine r_seq ?_
  refine r_items ?_
  refine i_op (a_fa rfl ?_) rfl rfl
  refine i_op (a_ld rfl .here rfl ?_) rfl rfl
  refine i_op (a_lenx rfl hR.spot ?_) rfl rfl
  refine i_op (a_callB rfl rfl (fun s1 h1 => inside_s _ _ _ _ s1 h1.wf) (fun h2 => ?_) (fun h2 => ?_)) rfl rfl
  · refine i_op (a_not rfl ?_) rfl rfl
    refine i_nil ?_
    refine then_n ?_
    refine r_cond_f rfl ?_
    refine r_skip ?_
    refine then_n ?_
    refine r_seq ?_
    refine r_items ?_
    refine i_op (a_mov rfl ?_) rfl rfl
    refine i_nil ?_
    refine then_n ?_
    refine r_seq ?_
    refine r_seq ?_
    refine r_items ?_
    refine i_op (a_fa rfl ?_) rfl rfl
    refine i_op (a_ld rfl .here rfl ?_) rfl rfl
    refine i_op (a_lenx rfl hR.spot ?_) rfl rfl
    refine i_op (a_mov rfl ?_) rfl rfl
    refine i_nil ?_
    refine then_n ?_
    refine r_block ?_
    refine r_loop (fun j e A => ∃ (k : Nat), e = [(13, .slice a rs.length cap), (14, .int .i64 (rs.length : Int)), (15, .int .i64 (k : Int)), (3, .int .i64 (prevTo rs k))] ∧ A = [] ∧ j = rs.length - k ∧ k ≤ rs.length ∧ rtB 0 rs = rtB (prevTo rs k) (rs.drop k)) 120 0 281474976710656 ?_ (j := _) (env2 := _) (A2 := _) ?_ ?_ ?_ ?_ ⟨0, rfl, rfl, rfl, Nat.zero_le _, rfl⟩
    rotate_left
    · omega
    · omega
    · exact (Less.cons rfl (Less.cons rfl (Less.cons rfl (Less.cons rfl Less.nil))))
    · exact List.nil_sublist _
    rintro n hn j _ _ ⟨k, rfl, rfl, rfl, hk, hi⟩
    refine r_seq ?_
    refine r_items ?_
    refine i_op (a_lss rfl rfl (fun h3 => ?_) (fun h3 => ?_)) rfl rfl
    · obtain ⟨b, o, z, f, t, dl, dh, bl, bh, rfl, hr, hat, ht⟩ := hR.row7 (k := k) (by omega)
      refine i_nil ?_
      refine then_n ?_
      refine r_seq ?_
      refine r_cond_t rfl ?_
      refine r_skip ?_
      refine then_n ?_
      refine r_seq ?_
      refine r_block ?_
      refine r_seq ?_
      refine r_items ?_
      refine i_op (a_ia rfl rfl rfl (by omega) ?_) rfl rfl
      refine i_op (a_ldar rfl (by decide) (by assumption) rfl ?_) rfl rfl
      refine i_op (a_new rfl rfl (fun b4 => ?_)) rfl rfl
      refine i_opn (a_sta rfl rfl .here rfl rfl rfl rfl ?_) rfl
      refine i_nil ?_
      refine then_n ?_
      refine r_seq ?_
      refine r_seq ?_
      refine r_items ?_
      refine i_op (a_lda rfl (by decide) .here rfl ?_) rfl rfl
      refine i_op (a_fa rfl ?_) rfl rfl
      refine i_op (a_ld rfl .here rfl ?_) rfl rfl
      refine i_op (a_mov rfl ?_) rfl rfl
      refine i_op (a_geq rfl rfl (fun h5 => ?_) (fun h5 => ?_)) rfl rfl
      · refine i_op (a_callE rfl rfl (fun s1 h1 => checkLeg_s _ _ _ _ _ _ _ _ s1 h1.wf) (fun h6 => ?_) (fun h6 => ?_)) rfl rfl
        · refine i_opn (a_again rfl rfl .here rfl (by simp [eqV, eqA, eqL, kindEq, intEq_eq]) ?_) rfl
          refine i_op (a_callV rfl rfl (fun s1 h1 => unless_t _ _ s1 h1.wf) ?_) rfl rfl
          refine i_op (a_lit rfl rfl rfl (fun b7 => ?_)) rfl rfl
          refine i_op (a_callV rfl rfl (fun s1 h1 => or2_s _ _ _ _ _ _ s1 h1.wf ((h1.own .here).at rfl) ((h1.own .here).at rfl)) ?_) rfl rfl
          refine i_op (a_mov rfl ?_) rfl rfl
          refine i_nil ?_
          refine then_n ?_
          refine r_seq ?_
          refine r_items ?_
          refine i_op (a_mov rfl ?_) rfl rfl
          refine i_op (a_neq rfl rfl (fun h => absurd h (by decide)) (fun _ => ?_)) rfl rfl
          refine i_nil ?_
          refine then_n ?_
          refine r_cond_f rfl ?_
          refine r_skip ?_
          refine then_n ?_
          refine r_items ?_
          refine i_op (a_fa rfl ?_) rfl rfl
          refine i_op (a_ld rfl (.next .here) rfl ?_) rfl rfl
          refine i_op (a_mov rfl ?_) rfl rfl
          refine i_nil ?_
          refine block_n ?_
          refine then_n ?_
          refine r_items ?_
          refine i_op (a_add rfl rfl (by omega) ?_) rfl rfl
          refine i_op (a_mov rfl ?_) rfl rfl
          refine i_nil ?_
          refine then_n ?_
          exact ⟨rfl, _, _, _, (show rs.length - (k + 1) < rs.length - k by omega), (Less.cons (t := 13) rfl (Less.cons (t := 14) rfl (Less.cons (t := 15) rfl (Less.cons (t := 3) rfl Less.nil)))), List.nil_sublist _, ⟨k + 1, by rw [prevTo_succ hr]; rfl, rfl, rfl, by omega, rt_good hr hi (by assumption) (by omega)⟩⟩
        · refine i_opn (a_again rfl rfl .here rfl (by simp [eqV, eqA, eqL, kindEq, intEq_eq]) ?_) rfl
          refine i_op (a_callV rfl rfl (fun s1 h1 => unless_t _ _ s1 h1.wf) ?_) rfl rfl
          refine i_op (a_lit rfl rfl rfl (fun b9 => ?_)) rfl rfl
          refine i_op (a_callV rfl rfl (fun s1 h1 => or2_s _ _ _ _ _ _ s1 h1.wf ((h1.own .here).at rfl) ((h1.own .here).at rfl)) ?_) rfl rfl
          refine i_op (a_mov rfl ?_) rfl rfl
          refine i_nil ?_
          refine then_n ?_
          refine r_seq ?_
          refine r_items ?_
          refine i_op (a_mov rfl ?_) rfl rfl
          refine i_op (a_neq rfl rfl (fun _ => ?_) (fun h => absurd h (by decide))) rfl rfl
          refine i_nil ?_
          refine then_n ?_
          refine r_cond_t rfl ?_
          refine r_seq ?_
          refine r_items ?_
          refine i_op (a_mov rfl ?_) rfl rfl
          refine i_op (a_mov rfl ?_) rfl rfl
          refine i_nil ?_
          refine then_n ?_
          refine r_ret ?_
          refine then_r ?_
          refine block_r ?_
          refine then_r ?_
          refine then_r ?_
          refine block_r ?_
          refine then_r ?_
          refine end1 rfl ⟨congrArg (Value.int .i64) ?_, rfl⟩
          first
            | (rw [if_neg (fun h => by omega)] <;> first | rfl | decide)
            | (rw [if_pos ⟨by omega, rt_end hi (by omega)⟩] <;> first | rfl | decide)
            | (rw [if_neg (fun h => by rw [rt_bad hr hi (by first | exact .inl (by assumption) | exact .inr (by omega))] at h; exact absurd h.2 (by decide))] <;> first | rfl | decide)
      · refine i_op (a_callE rfl rfl (fun s1 h1 => checkLeg_s _ _ _ _ _ _ _ _ s1 h1.wf) (fun h11 => ?_) (fun h11 => ?_)) rfl rfl
        · refine i_opn (a_again rfl rfl .here rfl (by simp [eqV, eqA, eqL, kindEq, intEq_eq]) ?_) rfl
          refine i_op (a_callV rfl rfl (fun s1 h1 => unless_f _ _ s1 h1.wf) ?_) rfl rfl
          refine i_op (a_lit rfl rfl rfl (fun b12 => ?_)) rfl rfl
          refine i_op (a_callV rfl rfl (fun s1 h1 => or2_s _ _ _ _ _ _ s1 h1.wf ((h1.own .here).at rfl) ((h1.own .here).at rfl)) ?_) rfl rfl
          refine i_op (a_mov rfl ?_) rfl rfl
          refine i_nil ?_
          refine then_n ?_
          refine r_seq ?_
          refine r_items ?_
          refine i_op (a_mov rfl ?_) rfl rfl
          refine i_op (a_neq rfl rfl (fun _ => ?_) (fun h => absurd h (by decide))) rfl rfl
          refine i_nil ?_
          refine then_n ?_
          refine r_cond_t rfl ?_
          refine r_seq ?_
          refine r_items ?_
          refine i_op (a_mov rfl ?_) rfl rfl
          refine i_op (a_mov rfl ?_) rfl rfl
          refine i_nil ?_
          refine then_n ?_
          refine r_ret ?_
          refine then_r ?_
          refine block_r ?_
          refine then_r ?_
          refine then_r ?_
          refine block_r ?_
          refine then_r ?_
          refine end1 rfl ⟨congrArg (Value.int .i64) ?_, rfl⟩
          first
            | (rw [if_neg (fun h => by omega)] <;> first | rfl | decide)
            | (rw [if_pos ⟨by omega, rt_end hi (by omega)⟩] <;> first | rfl | decide)
            | (rw [if_neg (fun h => by rw [rt_bad hr hi (by first | exact .inl (by assumption) | exact .inr (by omega))] at h; exact absurd h.2 (by decide))] <;> first | rfl | decide)
        · refine i_opn (a_again rfl rfl .here rfl (by simp [eqV, eqA, eqL, kindEq, intEq_eq]) ?_) rfl
          refine i_op (a_callV rfl rfl (fun s1 h1 => unless_f _ _ s1 h1.wf) ?_) rfl rfl
          refine i_op (a_lit rfl rfl rfl (fun b14 => ?_)) rfl rfl
          refine i_op (a_callV rfl rfl (fun s1 h1 => or2_s _ _ _ _ _ _ s1 h1.wf ((h1.own .here).at rfl) ((h1.own .here).at rfl)) ?_) rfl rfl
          refine i_op (a_mov rfl ?_) rfl rfl
          refine i_nil ?_
          refine then_n ?_
          refine r_seq ?_
          refine r_items ?_
          refine i_op (a_mov rfl ?_) rfl rfl
          refine i_op (a_neq rfl rfl (fun _ => ?_) (fun h => absurd h (by decide))) rfl rfl
          refine i_nil ?_
          refine then_n ?_
          refine r_cond_t rfl ?_
          refine r_seq ?_
          refine r_items ?_
          refine i_op (a_mov rfl ?_) rfl rfl
          refine i_op (a_mov rfl ?_) rfl rfl
          refine i_nil ?_
          refine then_n ?_
          refine r_ret ?_
          refine then_r ?_
          refine block_r ?_
          refine then_r ?_
          refine then_r ?_
          refine block_r ?_
          refine then_r ?_
          refine end1 rfl ⟨congrArg (Value.int .i64) ?_, rfl⟩
          first
            | (rw [if_neg (fun h => by omega)] <;> first | rfl | decide)
            | (rw [if_pos ⟨by omega, rt_end hi (by omega)⟩] <;> first | rfl | decide)
            | (rw [if_neg (fun h => by rw [rt_bad hr hi (by first | exact .inl (by assumption) | exact .inr (by omega))] at h; exact absurd h.2 (by decide))] <;> first | rfl | decide)
    · refine i_nil ?_
      refine then_n ?_
      refine r_seq ?_
      refine r_cond_f rfl ?_
      refine r_exit ?_
      refine then_e ?_
      refine then_e ?_
      refine block_hit ?_
      refine then_n ?_
      refine r_seq ?_
      refine r_items ?_
      refine i_op (a_mov rfl ?_) rfl rfl
      refine i_nil ?_
      refine then_n ?_
      refine r_ret ?_
      refine end1 rfl ⟨congrArg (Value.int .i64) ?_, rfl⟩
      first
        | (rw [if_neg (fun h => by omega)] <;> first | rfl | decide)
        | (rw [if_pos ⟨by omega, rt_end hi (by omega)⟩] <;> first | rfl | decide)
        | (rw [if_neg (fun h => by rw [rt_bad hr hi (by first | exact .inl (by assumption) | exact .inr (by omega))] at h; exact absurd h.2 (by decide))] <;> first | rfl | decide)
  · refine i_op (a_not rfl ?_) rfl rfl
    refine i_nil ?_
    refine then_n ?_
    refine r_cond_t rfl ?_
    refine r_seq ?_
    refine r_items ?_
    refine i_op (a_mov rfl ?_) rfl rfl
    refine i_nil ?_
    refine then_n ?_
    refine r_ret ?_
    refine then_r ?_
    refine end1 rfl ⟨congrArg (Value.int .i64) ?_, rfl⟩
    first
      | (rw [if_neg (fun h => by omega)] <;> first | rfl | decide)
      | (rw [if_pos ⟨by omega, rt_end hi (by omega)⟩] <;> first | rfl | decide)
      | (rw [if_neg (fun h => by rw [rt_bad hr hi (by first | exact .inl (by assumption) | exact .inr (by omega))] at h; exact absurd h.2 (by decide))] <;> first | rfl | decide)

end
end Ev
end Go.Proofs.YtgbfnonfecpajaaGreat
