import Derived.Test.YtpedbdicjgdgkaaGreatZb05
import Derived.Laws.CopyRow
import Derived.Laws.Cells
import Derived.Shelf.Abstract
set_option linter.unusedVariables false
set_option linter.unusedSimpArgs false
/- What follows when the evaluator answers true: step by step. No program here. -/
namespace Go.Proofs.YtpedbdicjgdgkaaGreat.Ev
open Go

theorem ifB_true {b x : Bool} (h : ifB b x false = true) : b = true ∧ x = true := by cases b <;> simp_all [ifB]
theorem ifB_or {b x y : Bool} (h : ifB b x y = true) : (b = true ∧ x = true) ∨ (b = false ∧ y = true) := by cases b <;> simp_all [ifB]
@[simp] theorem forceN_eq (n : Nat) (k : Nat → Bool) : forceN n k = k n := by cases n <;> rfl
@[simp] theorem forceI_eq (n : Int) (k : Int → Bool) : forceI n k = k n := by cases n <;> simp [forceI]
@[simp] theorem forceB_eq (b : Bool) (k : Bool → Bool) : forceB b k = k b := by cases b <;> rfl
@[simp] theorem addrK_eq (a : Option Addr) (k : Option Addr → Bool) : addrK a k = k a := by
  cases a with
  | none => rfl
  | some a => obtain ⟨b, o, s⟩ := a; simp [addrK]
@[simp] theorem forceV_eq (v : Value) (k : Value → Bool) : forceV v k = k v := by cases v <;> simp [forceV]
theorem optK_inv {α : Type} {x : Option α} {k : α → Bool} (h : optK x k = true) : ∃ a, x = some a ∧ k a = true := by
  cases x with
  | none => simp [optK] at h
  | some a => exact ⟨a, rfl, h⟩

theorem beq0 (n : Nat) : Nat.beq n 0 = decide (n = 0) := by cases n <;> rfl
theorem par (n : Nat) : Nat.beq (Nat.mod n 2) 1 = decide (n % 2 = 1) := by
  show Nat.beq (n % 2) 1 = _
  rcases Nat.mod_two_eq_zero_or_one n with h | h <;> rw [h] <;> rfl

theorem getK_inv {α : Type} {k : α → Bool} : ∀ {t : BT α} {n : Nat}, getK t n k = true → ∃ a, t.get n = some a ∧ k a = true := by
  intro t
  induction t with
  | leaf => intro n h; simp [getK] at h
  | node a l r il ir =>
    intro n h
    have h' : @Bool.rec (fun _ => Bool) (@Bool.rec (fun _ => Bool) (getK r (Nat.pred (Nat.div n 2)) k) (getK l (Nat.div n 2) k) (Nat.beq (Nat.mod n 2) 1)) (k a) (Nat.beq n 0) = true := h
    rw [beq0, par] at h'
    by_cases h0 : n = 0
    · subst h0
      exact ⟨a, by simp [BT.get], by simpa using h'⟩
    · rw [decide_eq_false h0] at h'
      by_cases h1 : n % 2 = 1
      · rw [decide_eq_true h1] at h'
        obtain ⟨b, hb, hk⟩ := il h'
        exact ⟨b, by rw [BT.get, if_neg h0, if_pos h1]; exact hb, hk⟩
      · rw [decide_eq_false h1] at h'
        obtain ⟨b, hb, hk⟩ := ir h'
        exact ⟨b, by rw [BT.get, if_neg h0, if_neg h1]; exact hb, hk⟩

theorem updK_inv {α : Type} {v : α} : ∀ {t : BT α} {n : Nat} {k : BT α → Bool}, updK t n v k = true → ∃ t', k t' = true ∧ (t.get n).isSome = true ∧ ∀ j, t'.get j = if j = n then some v else t.get j := by
  intro t
  induction t with
  | leaf => intro n k h; simp [updK] at h
  | node a l r il ir =>
    intro n k h
    have h' : @Bool.rec (fun _ => Bool) (@Bool.rec (fun _ => Bool) (updK r (Nat.pred (Nat.div n 2)) v (fun r => k (.node a l r))) (updK l (Nat.div n 2) v (fun l => k (.node a l r))) (Nat.beq (Nat.mod n 2) 1)) (k (.node v l r)) (Nat.beq n 0) = true := h
    rw [beq0, par] at h'
    by_cases h0 : n = 0
    · subst h0
      refine ⟨_, by simpa using h', by simp [BT.get], fun j => ?_⟩
      by_cases hj : j = 0
      · simp [hj, BT.get]
      · simp [hj, BT.get]
    · rw [decide_eq_false h0] at h'
      by_cases h1 : n % 2 = 1
      · rw [decide_eq_true h1] at h'
        obtain ⟨t', hk, hs, hg⟩ := il h'
        refine ⟨_, hk, by rw [BT.get, if_neg h0, if_pos h1]; exact hs, fun j => ?_⟩
        simp only [BT.get]
        by_cases hj : j = 0
        · simp [hj, Ne.symm h0]
        · by_cases hj1 : j % 2 = 1
          · rw [if_neg hj, if_pos hj1, hg]
            by_cases he : j = n
            · subst he; simp; intro hh; exact absurd rfl hh
            · have : j / 2 ≠ Nat.div n 2 := by show j / 2 ≠ n / 2; omega
              simp [this, he, hj, hj1]
          · rw [if_neg hj, if_neg hj1]
            have : j ≠ n := fun e => hj1 (e ▸ h1)
            simp [this, hj, hj1]
      · rw [decide_eq_false h1] at h'
        obtain ⟨t', hk, hs, hg⟩ := ir h'
        refine ⟨_, hk, by rw [BT.get, if_neg h0, if_neg h1]; exact hs, fun j => ?_⟩
        simp only [BT.get]
        by_cases hj : j = 0
        · simp [hj, Ne.symm h0]
        · by_cases hj1 : j % 2 = 1
          · rw [if_neg hj, if_pos hj1]
            have : j ≠ n := fun e => h1 (e ▸ hj1)
            simp [this, hj, hj1]
          · rw [if_neg hj, if_neg hj1, hg]
            by_cases he : j = n
            · subst he; simp; intro hh; exact absurd rfl hh
            · have : ¬ (j / 2 - 1 = Nat.pred (Nat.div n 2)) := by
                show ¬ (j / 2 - 1 = n / 2 - 1); omega
              rw [if_neg this, if_neg he, if_neg hj, if_neg hj1]

theorem addK_inv {α : Type} {v : α} : ∀ {t : BT α} {n : Nat} {k : BT α → Bool}, addK t n v k = true → ∃ t', k t' = true ∧ t.get n = none ∧ ∀ j, t'.get j = if j = n then some v else t.get j := by
  intro t
  induction t with
  | leaf =>
    intro n k h
    have h' : @Bool.rec (fun _ => Bool) false (k (.node v .leaf .leaf)) (Nat.beq n 0) = true := h
    rw [beq0] at h'
    by_cases h0 : n = 0
    · subst h0
      refine ⟨_, by simpa using h', rfl, fun j => ?_⟩
      by_cases hj : j = 0
      · simp [hj, BT.get]
      · simp only [BT.get, hj, if_false]; split <;> rfl
    · rw [decide_eq_false h0] at h'; cases h'
  | node a l r il ir =>
    intro n k h
    have h' : @Bool.rec (fun _ => Bool) (@Bool.rec (fun _ => Bool) (addK r (Nat.pred (Nat.div n 2)) v (fun r => k (.node a l r))) (addK l (Nat.div n 2) v (fun l => k (.node a l r))) (Nat.beq (Nat.mod n 2) 1)) false (Nat.beq n 0) = true := h
    rw [beq0, par] at h'
    by_cases h0 : n = 0
    · subst h0; cases h'
    · rw [decide_eq_false h0] at h'
      by_cases h1 : n % 2 = 1
      · rw [decide_eq_true h1] at h'
        obtain ⟨t', hk, hs, hg⟩ := il h'
        refine ⟨_, hk, by rw [BT.get, if_neg h0, if_pos h1]; exact hs, fun j => ?_⟩
        simp only [BT.get]
        by_cases hj : j = 0
        · simp [hj, Ne.symm h0]
        · by_cases hj1 : j % 2 = 1
          · rw [if_neg hj, if_pos hj1, hg]
            by_cases he : j = n
            · subst he; simp; intro hh; exact absurd rfl hh
            · have : j / 2 ≠ Nat.div n 2 := by show j / 2 ≠ n / 2; omega
              simp [this, he, hj, hj1]
          · rw [if_neg hj, if_neg hj1]
            have : j ≠ n := fun e => hj1 (e ▸ h1)
            simp [this, hj, hj1]
      · rw [decide_eq_false h1] at h'
        obtain ⟨t', hk, hs, hg⟩ := ir h'
        refine ⟨_, hk, by rw [BT.get, if_neg h0, if_neg h1]; exact hs, fun j => ?_⟩
        simp only [BT.get]
        by_cases hj : j = 0
        · simp [hj, Ne.symm h0]
        · by_cases hj1 : j % 2 = 1
          · rw [if_neg hj, if_pos hj1]
            have : j ≠ n := fun e => h1 (e ▸ hj1)
            simp [this, hj, hj1]
          · rw [if_neg hj, if_neg hj1, hg]
            by_cases he : j = n
            · subst he; simp; intro hh; exact absurd rfl hh
            · have : ¬ (j / 2 - 1 = Nat.pred (Nat.div n 2)) := by
                show ¬ (j / 2 - 1 = n / 2 - 1); omega
              rw [if_neg this, if_neg he, if_neg hj, if_neg hj1]

theorem putsK_inv {α : Type} : ∀ {l : List α} {t : BT α} {n : Nat} {k : BT α → Bool}, putsK t n l k = true → ∃ t', k t' = true ∧ (∀ i, i < l.length → (t.get (n + i)).isSome = true) ∧ ∀ j, t'.get j = if n ≤ j ∧ j < n + l.length then l[j - n]? else t.get j := by
  intro l
  induction l with
  | nil => intro t n k h; exact ⟨t, h, fun i hi => absurd hi (by simp), fun j => by rw [if_neg (fun h => by have := h.2; simp at this; omega)]⟩
  | cons v l ih =>
    intro t n k h
    have h' : updK t n v (fun t => putsK t (Nat.succ n) l k) = true := h
    obtain ⟨t1, h1, hs, hg⟩ := updK_inv h'
    obtain ⟨t2, hk, hs2, hg2⟩ := ih h1
    refine ⟨t2, hk, fun i hi => ?_, fun j => ?_⟩
    · rcases i with _ | i
      · exact hs
      · have := hs2 i (by simpa using hi)
        rw [hg, if_neg (by omega)] at this
        rwa [show n + (i + 1) = Nat.succ n + i by omega]
    · rw [hg2, hg]
      simp only [List.length_cons, Nat.succ_eq_add_one]
      by_cases he : j = n
      · subst he
        rw [if_neg (by omega), if_pos rfl, if_pos (by omega)]; simp
      · by_cases hr : n + 1 ≤ j ∧ j < n + 1 + l.length
        · rw [if_pos hr, if_pos (by omega), show j - n = (j - (n + 1)) + 1 by omega, List.getElem?_cons_succ]
        · rw [if_neg hr, if_neg he, if_neg (by omega)]
theorem addsK_inv {α : Type} : ∀ {l : List α} {t : BT α} {n : Nat} {k : BT α → Bool}, addsK t n l k = true → ∃ t', k t' = true ∧ (∀ i, i < l.length → t.get (n + i) = none) ∧ ∀ j, t'.get j = if n ≤ j ∧ j < n + l.length then l[j - n]? else t.get j := by
  intro l
  induction l with
  | nil => intro t n k h; exact ⟨t, h, fun i hi => absurd hi (by simp), fun j => by rw [if_neg (fun h => by have := h.2; simp at this; omega)]⟩
  | cons v l ih =>
    intro t n k h
    have h' : addK t n v (fun t => addsK t (Nat.succ n) l k) = true := h
    obtain ⟨t1, h1, hs, hg⟩ := addK_inv h'
    obtain ⟨t2, hk, hs2, hg2⟩ := ih h1
    refine ⟨t2, hk, fun i hi => ?_, fun j => ?_⟩
    · rcases i with _ | i
      · exact hs
      · have := hs2 i (by simpa using hi)
        rw [hg, if_neg (by omega)] at this
        rwa [show n + (i + 1) = Nat.succ n + i by omega]
    · rw [hg2, hg]
      simp only [List.length_cons, Nat.succ_eq_add_one]
      by_cases he : j = n
      · subst he
        rw [if_neg (by omega), if_pos rfl, if_pos (by omega)]; simp
      · by_cases hr : n + 1 ≤ j ∧ j < n + 1 + l.length
        · rw [if_pos hr, if_pos (by omega), show j - n = (j - (n + 1)) + 1 by omega, List.getElem?_cons_succ]
        · rw [if_neg hr, if_neg he, if_neg (by omega)]
theorem segK_inv {α : Type} {t : BT α} : ∀ {n i : Nat} {k : List α → Bool}, segK t i n k = true → ∃ l, k l = true ∧ l.length = n ∧ ∀ j, j < n → t.get (i + j) = l[j]? := by
  intro n
  induction n with
  | zero => intro i k h; exact ⟨[], h, rfl, fun j hj => absurd hj (by omega)⟩
  | succ n ih =>
    intro i k h
    have h' : getK t i (fun v => segK t (Nat.succ i) n (fun l => k (v :: l))) = true := h
    obtain ⟨v, hv, h1⟩ := getK_inv h'
    obtain ⟨l, hk, hl, hg⟩ := ih h1
    refine ⟨v :: l, hk, by simp [hl], fun j hj => ?_⟩
    rcases j with _ | j
    · simpa using hv
    · rw [List.getElem?_cons_succ, ← hg j (by omega)]; congr 1; omega

/-- The value that an operation finds. -/
def XV (T : BT Value) : X → Value → Prop
  | .t i, v => T.get i = some v
  | .c u, v => v = u
def XVs (T : BT Value) : List X → List Value → Prop
  | [], l => l = []
  | x :: xs, l => ∃ v vs, l = v :: vs ∧ XV T x v ∧ XVs T xs vs
def XPs (T : BT Value) : List (Nat × Nat × X) → List (Nat × Nat × Value) → Prop
  | [], l => l = []
  | (o, n, x) :: xs, l => ∃ v vs, l = (o, n, v) :: vs ∧ XV T x v ∧ XPs T xs vs
def XO (T : BT Value) : Option X → Option Value → Prop
  | none, v => v = none
  | some x, v => ∃ u, v = some u ∧ XV T x u
theorem valK_inv {T : BT Value} {x : X} {k : Value → Bool} (h : valK T x k = true) : ∃ v, XV T x v ∧ k v = true := by
  cases x with
  | t i => exact getK_inv h
  | c u => exact ⟨u, rfl, h⟩
theorem valsK_inv {T : BT Value} : ∀ {l : List X} {k : List Value → Bool}, valsK T l k = true → ∃ vs, XVs T l vs ∧ k vs = true := by
  intro l
  induction l with
  | nil => intro k h; exact ⟨[], rfl, h⟩
  | cons x l ih =>
    intro k h
    have h' : valK T x (fun v => valsK T l (fun l => k (v :: l))) = true := h
    obtain ⟨v, hv, h1⟩ := valK_inv h'
    obtain ⟨vs, hvs, hk⟩ := ih h1
    exact ⟨v :: vs, ⟨v, vs, rfl, hv, hvs⟩, hk⟩
theorem partsK_inv {T : BT Value} : ∀ {l : List (Nat × Nat × X)} {k : List (Nat × Nat × Value) → Bool}, partsK T l k = true → ∃ vs, XPs T l vs ∧ k vs = true := by
  intro l
  induction l with
  | nil => intro k h; exact ⟨[], rfl, h⟩
  | cons x l ih =>
    intro k h
    obtain ⟨o, n, x⟩ := x
    have h' : valK T x (fun v => partsK T l (fun l => k ((o, n, v) :: l))) = true := h
    obtain ⟨v, hv, h1⟩ := valK_inv h'
    obtain ⟨vs, hvs, hk⟩ := ih h1
    exact ⟨(o, n, v) :: vs, ⟨v, vs, rfl, hv, hvs⟩, hk⟩
theorem valOK_inv {T : BT Value} {x : Option X} {k : Option Value → Bool} (h : valOK T x k = true) : ∃ v, XO T x v ∧ k v = true := by
  cases x with
  | none => exact ⟨none, rfl, h⟩
  | some x => obtain ⟨v, hv, hk⟩ := valK_inv (k := fun v => k (some v)) h; exact ⟨some v, ⟨v, rfl, hv⟩, hk⟩

theorem onAddr_inv {a : Option Addr} {z : Bool} {k : Nat → Nat → Bool} (h : onAddr a z k = true) : (a = none ∧ z = true) ∨ ∃ b o, a = some ⟨b, o, none⟩ ∧ k b o = true := by
  cases a with
  | none => exact .inl ⟨rfl, h⟩
  | some a =>
    obtain ⟨b, o, s⟩ := a
    cases s with
    | none => exact .inr ⟨b, o, rfl, h⟩
    | some s => simp [onAddr] at h
theorem onInt_inv {v : Value} {k : IntKind → Int → Bool} {z : Bool} (h : onInt v k z = true) : (∃ i n, v = .int i n ∧ k i n = true) ∨ z = true := by cases v <;> first | exact .inr h | exact .inl ⟨_, _, rfl, h⟩
theorem onInt0 {v : Value} {k : IntKind → Int → Bool} (h : onInt v k false = true) : ∃ i n, v = .int i n ∧ k i n = true := (onInt_inv h).resolve_right (by simp)
theorem onNat_inv {v : Value} {k : Nat → Bool} (h : onNat v k = true) : ∃ i n, v = .int i (.ofNat n) ∧ k n = true := by
  obtain ⟨i, n, rfl, h⟩ := onInt0 h
  cases n with
  | ofNat n => exact ⟨i, n, rfl, h⟩
  | negSucc n => exact absurd (show false = true from h) (by simp)
theorem onBool_inv {v : Value} {k : Bool → Bool} (h : onBool v k = true) : ∃ b, v = .bool b ∧ k b = true := by cases v <;> first | exact ⟨_, rfl, h⟩ | (simp [onBool] at h)
theorem onBoolZ_inv {v : Value} {k : Bool → Bool} {z : Bool} (h : onBoolZ v k z = true) : (∃ b, v = .bool b ∧ k b = true) ∨ ((∀ b, v ≠ .bool b) ∧ z = true) := by cases v <;> first | exact .inl ⟨_, rfl, h⟩ | exact .inr ⟨by simp, h⟩
theorem onPtr_inv {v : Value} {k : Nat → Nat → Bool} (h : onPtr v k = true) : ∃ b o, v = .pointer (some ⟨b, o, none⟩) ∧ k b o = true := by
  cases v with
  | pointer a => rcases onAddr_inv h with ⟨_, h⟩ | ⟨b, o, rfl, h⟩
                 · cases h
                 · exact ⟨b, o, rfl, h⟩
  | _ => simp [onPtr] at h
theorem onSlice_inv {v : Value} {z : Nat → Nat → Bool} {k : Nat → Nat → Nat → Nat → Bool} (h : onSlice v z k = true) : (∃ n c, v = .slice none n c ∧ z n c = true) ∨ ∃ b o n c, v = .slice (some ⟨b, o, none⟩) n c ∧ k b o n c = true := by
  cases v with
  | slice a n c => rcases onAddr_inv (show onAddr a (z n c) (fun b off => k b off n c) = true from h) with ⟨rfl, h⟩ | ⟨b, o, rfl, h⟩
                   · exact .inl ⟨n, c, rfl, h⟩
                   · exact .inr ⟨b, o, n, c, rfl, h⟩
  | _ => simp [onSlice] at h
theorem onAgg_inv {v : Value} {k : List Value → Bool} (h : onAgg v k = true) : ∃ l, v = .agg ⟨l⟩ ∧ k l = true := by
  cases v with
  | agg a => obtain ⟨l⟩ := a; exact ⟨l, rfl, h⟩
  | _ => simp [onAgg] at h
theorem onTuple_inv {v : Value} {k : List Value → Bool} (h : onTuple v k = true) : ∃ l, v = .tuple ⟨l⟩ ∧ k l = true := by
  cases v with
  | tuple a => obtain ⟨l⟩ := a; exact ⟨l, rfl, h⟩
  | _ => simp [onTuple] at h
theorem onFunc_inv {v : Value} {k : Nat → List Value → List Value → Bool} {y : Nat → List Value → Bool} (h : onFunc v k y = true) :
    (∃ g p c, v = .func (.func g) ⟨p⟩ ⟨c⟩ ∧ k g p c = true) ∨ ∃ l p c, v = .func (.yield l) ⟨p⟩ ⟨c⟩ ∧ y l p = true := by
  cases v with
  | func f p c =>
    obtain ⟨p⟩ := p; obtain ⟨c⟩ := c
    cases f with
    | func g => exact .inl ⟨g, p, c, rfl, h⟩
    | yield l => exact .inr ⟨l, p, c, rfl, h⟩
    | _ => simp [onFunc] at h
  | _ => simp [onFunc] at h

theorem objK_inv {s : St} {b : Nat} {k : CObj → Bool} (h : objK s b k = true) : ∃ o, s.h.get b = some o ∧ k o = true := by
  obtain ⟨h', n⟩ := s; exact getK_inv h
theorem rowK_inv {s : St} {b : Nat} {k : Nat → BT Value → Nat → Bool → Bool} (h : rowK s b k = true) : ∃ n c e op, s.h.get b = some (.cells n c e op) ∧ k n c e op = true := by
  obtain ⟨o, ho, hk⟩ := objK_inv h
  cases o with
  | cells n c e op => exact ⟨n, c, e, op, ho, hk⟩
  | _ => simp at hk
theorem loopK_inv {s : St} {b : Nat} {k : LoopState → Out → BT Value → List Nat → CC → CC → Nat → Bool} (h : loopK s b k = true) : ∃ st x T ps a c q, s.h.get b = some (.loop st x T ps a c q) ∧ k st x T ps a c q = true := by
  obtain ⟨o, ho, hk⟩ := objK_inv h
  cases o with
  | loop st x T ps a c q => exact ⟨st, x, T, ps, a, c, q, ho, hk⟩
  | _ => simp at hk
theorem newK_inv {s : St} {o : CObj} {k : St → Bool} (h : newK s o k = true) : ∃ h', k ⟨h', s.n + 1⟩ = true ∧ s.h.get s.n = none ∧ ∀ j, h'.get j = if j = s.n then some o else s.h.get j := by
  obtain ⟨h0, n⟩ := s
  have h' : addK h0 n o (fun h => forceN (Nat.succ n) (fun m => k ⟨h, m⟩)) = true := h
  obtain ⟨t, hk, hn, hg⟩ := addK_inv h'
  exact ⟨t, by simpa using hk, hn, hg⟩
theorem storeK_inv {s : St} {b : Nat} {o : CObj} {k : St → Bool} (h : storeK s b o k = true) : ∃ h', k ⟨h', s.n⟩ = true ∧ (s.h.get b).isSome = true ∧ ∀ j, h'.get j = if j = b then some o else s.h.get j := by
  obtain ⟨h0, n⟩ := s
  exact updK_inv (k := fun h => k ⟨h, n⟩) h
theorem nOf_inv {s : St} {k : Nat → Bool} (h : nOf s k = true) : k s.n = true := by obtain ⟨h0, n⟩ := s; exact h
theorem nthK_inv {k : Value → Bool} : ∀ {l : List Value} {i : Nat}, nthK l i k = true → ∃ v, l[i]? = some v ∧ k v = true := by
  intro l
  induction l with
  | nil => intro i h; simp [nthK] at h
  | cons v l ih =>
    intro i h
    cases i with
    | zero => exact ⟨v, rfl, h⟩
    | succ i => simpa using ih (i := i) h
theorem takeK_inv : ∀ {l : List Value} {i n : Nat} {k : List Value → Bool}, takeK l i n k = true → i + n ≤ l.length ∨ n = 0 := by
  intro l
  induction l with
  | nil => intro i n k h; cases n with
    | zero => exact .inr rfl
    | succ n => simp [takeK] at h
  | cons v l ih =>
    intro i n k h
    cases i with
    | zero => cases n with
      | zero => exact .inr rfl
      | succ n => rcases ih (i := 0) (n := n) (k := fun l => k (v :: l)) h with h' | h' <;> simp <;> omega
    | succ i => rcases ih (i := i) (n := n) (k := k) h with h' | h' <;> simp <;> omega
theorem takeK_eq : ∀ {l : List Value} {i n : Nat} {k : List Value → Bool}, takeK l i n k = true → k ((l.drop i).take n) = true := by
  intro l
  induction l with
  | nil => intro i n k h; cases n with
    | zero => rw [List.drop_nil, List.take_nil]; exact h
    | succ n => simp [takeK] at h
  | cons v l ih =>
    intro i n k h
    cases i with
    | zero => cases n with
      | zero => exact h
      | succ n => simpa using ih (i := 0) (n := n) (k := fun l => k (v :: l)) h
    | succ i => simpa using ih (i := i) (n := n) (k := k) h
theorem lenL_eq (l : List Value) : lenL l = l.length := by
  induction l with
  | nil => rfl
  | cons v l ih => show Nat.succ (lenL l) = _; rw [ih]; rfl
theorem allOne_eq (l : List Value) (h : allOne l = true) : ∀ v ∈ l, oneCell v = true := by
  induction l with
  | nil => simp
  | cons v l ih =>
    obtain ⟨h1, h2⟩ := ifB_true (b := oneCell v) (x := allOne l) h
    intro u hu
    rcases List.mem_cons.1 hu with rfl | hu
    · exact h1
    · exact ih h2 u hu
end Go.Proofs.YtpedbdicjgdgkaaGreat.Ev

/- The evaluator's memory and a world: how the one stands for the other. No program here. -/
namespace Go.Proofs.YtpedbdicjgdgkaaGreat.Ev
open Go

/-- Where a row of the evaluator's lies in the world; of one that came of an append: how many elements it bears there. -/
abbrev Mp := Nat → Option (Nat × Nat)

mutual
/-- A value of the evaluator's stands for a value of the world's. -/
def VR (m : Mp) : Value → Value → Prop
  | .pointer (some a), v => a.spot = none ∧ ∃ x y, m a.block = some (x, y) ∧ v = .pointer (some ⟨x, a.off, none⟩)
  | .slice (some a) n c, v => a.spot = none ∧
      (if c < OPEN then ∃ x y, m a.block = some (x, y) ∧ v = .slice (some ⟨x, a.off, none⟩) n c
       else if c = OPEN ∨ n ≠ 0 then ∃ x y, m a.block = some (x, y) ∧ v = .slice (some ⟨x, a.off, none⟩) n (y - (c - OPEN))
       else ∃ a' c', v = .slice (some a') 0 c')
  | .slice none n c, v => c < OPEN ∧ v = .slice none n c
  | .func fn p c, v => match fn with
      | .func f => ∃ p' c', v = .func (.func f) p' c' ∧ AR m p p' ∧ AR m c c'
      | .yield l => ∃ x y p' c', m l = some (x, y) ∧ v = .func (.yield x) p' c' ∧ AR m p p' ∧ AR m c c'
      | _ => False
  | .map (some _), _ => False
  | .chan (some _), _ => False
  | .iface t u, v => ∃ u', v = .iface t u' ∧ VR m u u'
  | .agg l, v => ∃ l', v = .agg l' ∧ AR m l l'
  | .tuple l, v => ∃ l', v = .tuple l' ∧ AR m l l'
  | .bool b, v => v = .bool b
  | .int k n, v => v = .int k n
  | .float k n, v => v = .float k n
  | .complex k a b, v => v = .complex k a b
  | .string b, v => v = .string b
  | .pointer none, v => v = .pointer none
  | .map none, v => v = .map none
  | .chan none, v => v = .chan none
  | .nilFunc, v => v = .nilFunc
  | .nilIface, v => v = .nilIface
def AR (m : Mp) : Array Value → Array Value → Prop
  | ⟨l⟩, a => ∃ l', a = ⟨l'⟩ ∧ LR m l l'
def LR (m : Mp) : List Value → List Value → Prop
  | [], l' => l' = []
  | v :: l, l' => ∃ v' t, l' = v' :: t ∧ VR m v v' ∧ LR m l t
end

def Mp.le (m m' : Mp) : Prop := ∀ i p, m i = some p → m' i = some p
theorem Mp.le_refl (m : Mp) : m.le m := fun _ _ h => h
theorem Mp.le_trans {a b c : Mp} (h : a.le b) (k : b.le c) : a.le c := fun i p hp => k i p (h i p hp)

mutual
theorem VR.mono {m m' : Mp} (hm : m.le m') : ∀ (v : Value) {u : Value}, VR m v u → VR m' v u
  | .pointer (some a), u, h => by
    simp only [VR] at h ⊢
    obtain ⟨h1, x, y, hx, e⟩ := h
    exact ⟨h1, x, y, hm _ _ hx, e⟩
  | .slice (some a) n c, u, h => by
    simp only [VR] at h ⊢
    refine ⟨h.1, ?_⟩
    have h := h.2
    by_cases h1 : c < OPEN
    · rw [if_pos h1] at h ⊢
      obtain ⟨x, y, hx, e⟩ := h; exact ⟨x, y, hm _ _ hx, e⟩
    · rw [if_neg h1] at h ⊢
      by_cases h2 : c = OPEN ∨ n ≠ 0
      · rw [if_pos h2] at h ⊢
        obtain ⟨x, y, hx, e⟩ := h; exact ⟨x, y, hm _ _ hx, e⟩
      · rw [if_neg h2] at h ⊢
        exact h
  | .slice none n c, u, h => by simpa only [VR] using h
  | .func fn p c, u, h => by
    cases fn with
    | func f =>
      simp only [VR] at h ⊢
      obtain ⟨p', c', e, h1, h2⟩ := h
      exact ⟨p', c', e, AR.mono hm p h1, AR.mono hm c h2⟩
    | yield l =>
      simp only [VR] at h ⊢
      obtain ⟨x, y, p', c', hx, e, h1, h2⟩ := h
      exact ⟨x, y, p', c', hm _ _ hx, e, AR.mono hm p h1, AR.mono hm c h2⟩
    | _ => simp [VR] at h
  | .map (some _), u, h => by simp [VR] at h
  | .chan (some _), u, h => by simp [VR] at h
  | .iface t w, u, h => by
    simp only [VR] at h ⊢
    obtain ⟨w', e, h1⟩ := h
    exact ⟨w', e, VR.mono hm w h1⟩
  | .agg l, u, h => by
    simp only [VR] at h ⊢
    obtain ⟨l', e, h1⟩ := h
    exact ⟨l', e, AR.mono hm l h1⟩
  | .tuple l, u, h => by
    simp only [VR] at h ⊢
    obtain ⟨l', e, h1⟩ := h
    exact ⟨l', e, AR.mono hm l h1⟩
  | .bool b, u, h => by simpa only [VR] using h
  | .int k n, u, h => by simpa only [VR] using h
  | .float k n, u, h => by simpa only [VR] using h
  | .complex k a b, u, h => by simpa only [VR] using h
  | .string b, u, h => by simpa only [VR] using h
  | .pointer none, u, h => by simpa only [VR] using h
  | .map none, u, h => by simpa only [VR] using h
  | .chan none, u, h => by simpa only [VR] using h
  | .nilFunc, u, h => by simpa only [VR] using h
  | .nilIface, u, h => by simpa only [VR] using h
theorem AR.mono {m m' : Mp} (hm : m.le m') : ∀ (v : Array Value) {u : Array Value}, AR m v u → AR m' v u
  | ⟨l⟩, u, h => by
    simp only [AR] at h ⊢
    obtain ⟨l', e, h1⟩ := h
    exact ⟨l', e, LR.mono hm l h1⟩
theorem LR.mono {m m' : Mp} (hm : m.le m') : ∀ (v : List Value) {u : List Value}, LR m v u → LR m' v u
  | [], u, h => by simpa only [LR] using h
  | v :: l, u, h => by
    simp only [LR] at h ⊢
    obtain ⟨v', t, e, h1, h2⟩ := h
    exact ⟨v', t, e, VR.mono hm v h1, LR.mono hm l h2⟩
end

mutual
theorem VR.flat {m : Mp} : ∀ (v : Value), flat v = true → VR m v v
  | .pointer (some a), h => by simp [Ev.flat] at h
  | .slice (some a) n c, h => by simp [Ev.flat] at h
  | .slice none n c, h => by simp [Ev.flat, Nat.blt_eq] at h; simp only [VR]; exact ⟨h, trivial⟩
  | .func fn p c, h => by
    cases fn with
    | func f =>
      simp only [Ev.flat, Bool.true_and, Bool.and_eq_true] at h
      simp only [VR]
      exact ⟨p, c, rfl, AR.flat p h.1, AR.flat c h.2⟩
    | _ => simp [Ev.flat] at h
  | .map (some _), h => by simp [Ev.flat] at h
  | .chan (some _), h => by simp [Ev.flat] at h
  | .iface t w, h => by simp only [Ev.flat] at h; simp only [VR]; exact ⟨w, rfl, VR.flat w h⟩
  | .agg l, h => by simp only [Ev.flat] at h; simp only [VR]; exact ⟨l, rfl, AR.flat l h⟩
  | .tuple l, h => by simp only [Ev.flat] at h; simp only [VR]; exact ⟨l, rfl, AR.flat l h⟩
  | .bool b, h => by simp only [VR]
  | .int k n, h => by simp only [VR]
  | .float k n, h => by simp only [VR]
  | .complex k a b, h => by simp only [VR]
  | .string b, h => by simp only [VR]
  | .pointer none, h => by simp only [VR]
  | .map none, h => by simp only [VR]
  | .chan none, h => by simp only [VR]
  | .nilFunc, h => by simp only [VR]
  | .nilIface, h => by simp only [VR]
theorem AR.flat {m : Mp} : ∀ (v : Array Value), flatA v = true → AR m v v
  | ⟨l⟩, h => by simp only [flatA] at h; simp only [AR]; exact ⟨l, rfl, LR.flat l h⟩
theorem LR.flat {m : Mp} : ∀ (v : List Value), flatL v = true → LR m v v
  | [], h => by simp only [LR]
  | v :: l, h => by
    simp only [flatL, Bool.and_eq_true] at h
    simp only [LR]
    exact ⟨v, l, rfl, VR.flat v h.1, LR.flat l h.2⟩
end
mutual
theorem VR.same {m : Mp} : ∀ (v : Value) {u : Value}, flat v = true → VR m v u → u = v
  | .pointer (some a), u, h, _ => by simp [Ev.flat] at h
  | .slice (some a) n c, u, h, _ => by simp [Ev.flat] at h
  | .slice none n c, u, h, k => by simp only [VR] at k; exact k.2
  | .func fn p c, u, h, k => by
    cases fn with
    | func f =>
      simp only [Ev.flat, Bool.true_and, Bool.and_eq_true] at h
      simp only [VR] at k
      obtain ⟨p', c', rfl, h1, h2⟩ := k
      rw [AR.same p h.1 h1, AR.same c h.2 h2]
    | _ => simp [Ev.flat] at h
  | .map (some _), u, h, _ => by simp [Ev.flat] at h
  | .chan (some _), u, h, _ => by simp [Ev.flat] at h
  | .iface t w, u, h, k => by
    simp only [Ev.flat] at h; simp only [VR] at k
    obtain ⟨w', rfl, h1⟩ := k
    rw [VR.same w h h1]
  | .agg l, u, h, k => by
    simp only [Ev.flat] at h; simp only [VR] at k
    obtain ⟨l', rfl, h1⟩ := k
    rw [AR.same l h h1]
  | .tuple l, u, h, k => by
    simp only [Ev.flat] at h; simp only [VR] at k
    obtain ⟨l', rfl, h1⟩ := k
    rw [AR.same l h h1]
  | .bool b, u, h, k => by simpa only [VR] using k
  | .int _ n, u, h, k => by simpa only [VR] using k
  | .float _ n, u, h, k => by simpa only [VR] using k
  | .complex _ a b, u, h, k => by simpa only [VR] using k
  | .string b, u, h, k => by simpa only [VR] using k
  | .pointer none, u, h, k => by simpa only [VR] using k
  | .map none, u, h, k => by simpa only [VR] using k
  | .chan none, u, h, k => by simpa only [VR] using k
  | .nilFunc, u, h, k => by simpa only [VR] using k
  | .nilIface, u, h, k => by simpa only [VR] using k
theorem AR.same {m : Mp} : ∀ (v : Array Value) {u : Array Value}, flatA v = true → AR m v u → u = v
  | ⟨l⟩, u, h, k => by
    simp only [flatA] at h; simp only [AR] at k
    obtain ⟨l', rfl, h1⟩ := k
    rw [LR.same l h h1]
theorem LR.same {m : Mp} : ∀ (v : List Value) {u : List Value}, flatL v = true → LR m v u → u = v
  | [], u, h, k => by simpa only [LR] using k
  | v :: l, u, h, k => by
    simp only [flatL, Bool.and_eq_true] at h
    simp only [LR] at k
    obtain ⟨v', t, rfl, h1, h2⟩ := k
    rw [VR.same v h.1 h1, LR.same l h.2 h2]
end

theorem LR.length {m : Mp} : ∀ {l l' : List Value}, LR m l l' → l'.length = l.length
  | [], _, h => by simp only [LR] at h; simp [h]
  | v :: l, _, h => by simp only [LR] at h; obtain ⟨v', t, rfl, _, h2⟩ := h; simp [LR.length h2]
theorem LR.get {m : Mp} : ∀ {l l' : List Value} {i : Nat} {v : Value}, LR m l l' → l[i]? = some v → ∃ v', l'[i]? = some v' ∧ VR m v v'
  | [], _, i, v, h, hv => by simp at hv
  | w :: l, _, i, v, h, hv => by
    simp only [LR] at h
    obtain ⟨w', t, rfl, h1, h2⟩ := h
    rcases i with _ | i
    · simp at hv; subst hv; exact ⟨w', rfl, h1⟩
    · simp at hv ⊢; exact LR.get h2 hv
theorem LR.of_get {m : Mp} : ∀ {l l' : List Value}, l'.length = l.length → (∀ (i : Nat) (v : Value), l[i]? = some v → ∃ v', l'[i]? = some v' ∧ VR m v v') → LR m l l'
  | [], l', h, _ => by simp only [LR]; exact List.eq_nil_of_length_eq_zero (by simpa using h)
  | v :: l, l', h, k => by
    rcases l' with _ | ⟨v', t⟩
    · simp at h
    · simp only [LR]
      obtain ⟨u, hu, hr⟩ := k 0 v rfl
      simp at hu; subst hu
      exact ⟨v', t, rfl, hr, LR.of_get (by simpa using h) (fun i w hw => by simpa using k (i + 1) w (by simpa using hw))⟩
theorem LR.append {m : Mp} : ∀ {a a' b b' : List Value}, LR m a a' → LR m b b' → LR m (a ++ b) (a' ++ b')
  | [], _, _, _, h, k => by simp only [LR] at h; subst h; simpa using k
  | v :: l, _, _, _, h, k => by
    simp only [LR] at h
    obtain ⟨v', t, rfl, h1, h2⟩ := h
    simp only [List.cons_append, LR]
    exact ⟨v', t ++ _, rfl, h1, LR.append h2 k⟩
theorem VR.plain {m : Mp} {v u : Value} (h : VR m v u) (hv : ∀ l, v ≠ .agg l) : (v.cells = #[v] ∧ u.cells = #[u]) ∧ oneCell u = oneCell v := by
  cases v with
  | agg l => exact absurd rfl (hv l)
  | pointer a =>
    cases a with
    | none => simp only [VR] at h; subst h; exact ⟨⟨rfl, rfl⟩, rfl⟩
    | some a => simp only [VR] at h; obtain ⟨_, x, y, _, rfl⟩ := h; exact ⟨⟨rfl, rfl⟩, rfl⟩
  | slice a n c =>
    cases a with
    | none => simp only [VR] at h; obtain ⟨_, rfl⟩ := h; exact ⟨⟨rfl, rfl⟩, rfl⟩
    | some a =>
      simp only [VR] at h
      have h := h.2
      by_cases h1 : c < OPEN
      · rw [if_pos h1] at h; obtain ⟨x, y, _, rfl⟩ := h; exact ⟨⟨rfl, rfl⟩, rfl⟩
      · rw [if_neg h1] at h
        by_cases h2 : c = OPEN ∨ n ≠ 0
        · rw [if_pos h2] at h; obtain ⟨x, y, _, rfl⟩ := h; exact ⟨⟨rfl, rfl⟩, rfl⟩
        · rw [if_neg h2] at h; obtain ⟨x, y, rfl⟩ := h; exact ⟨⟨rfl, rfl⟩, rfl⟩
  | func fn p c =>
    cases fn with
    | func f => simp only [VR] at h; obtain ⟨p', c', rfl, _⟩ := h; exact ⟨⟨rfl, rfl⟩, rfl⟩
    | yield l => simp only [VR] at h; obtain ⟨x, y, p', c', _, rfl, _⟩ := h; exact ⟨⟨rfl, rfl⟩, rfl⟩
    | _ => simp [VR] at h
  | map a =>
    cases a with
    | none => simp only [VR] at h; subst h; exact ⟨⟨rfl, rfl⟩, rfl⟩
    | some a => simp [VR] at h
  | chan a =>
    cases a with
    | none => simp only [VR] at h; subst h; exact ⟨⟨rfl, rfl⟩, rfl⟩
    | some a => simp [VR] at h
  | iface t w => simp only [VR] at h; obtain ⟨w', rfl, _⟩ := h; exact ⟨⟨rfl, rfl⟩, rfl⟩
  | tuple l => simp only [VR] at h; obtain ⟨w', rfl, _⟩ := h; exact ⟨⟨rfl, rfl⟩, rfl⟩
  | _ => simp only [VR] at h; subst h; exact ⟨⟨rfl, rfl⟩, rfl⟩
theorem VR.cells {m : Mp} {v u : Value} (h : VR m v u) : LR m v.cells.toList u.cells.toList := by
  by_cases hv : ∃ l, v = .agg l
  · obtain ⟨⟨l⟩, rfl⟩ := hv
    simp only [VR, AR] at h
    obtain ⟨l', rfl, l2, rfl, h1⟩ := h
    exact h1
  · obtain ⟨⟨h1, h2⟩, _⟩ := h.plain (fun l e => hv ⟨l, e⟩)
    rw [h1, h2]
    simp only [LR]
    exact ⟨u, [], rfl, h, rfl⟩
theorem VR.one {m : Mp} {v u : Value} (h : VR m v u) : oneCell u = oneCell v := by
  by_cases hv : ∃ l, v = .agg l
  · obtain ⟨l, rfl⟩ := hv
    simp only [VR] at h
    obtain ⟨l', rfl, h1⟩ := h
    rfl
  · exact (h.plain (fun l e => hv ⟨l, e⟩)).2
end Go.Proofs.YtpedbdicjgdgkaaGreat.Ev

/- The evaluator's memory stands for the world's; what each operation does to both. No program here. -/
namespace Go.Proofs.YtpedbdicjgdgkaaGreat.Ev
open Go Go.RowKit

def Out.code : Out → Option Code
  | .normal => none
  | .ret => some .ret
  | .exit id => some (.exit id)
  | .goto l => some (.goto l)

def TR (m : Mp) (T : BT Value) (a : Array Value) : Prop := ∀ t v, T.get t = some v → ∃ v', a[t]? = some v' ∧ VR m v v'

/-- An object of the evaluator's stands for one of the world's. -/
def OR (P : Program) (m : Mp) (i : Nat) : CObj → Obj → Prop
  | .dead, _ => True
  | .cells n c e op, o => ∃ cs : Array Value, o = .cells cs e (0, 0) ∧ n ≤ cs.size ∧ (∀ j v, c.get j = some v → ∃ v', cs[j]? = some v' ∧ VR m v v') ∧
      (op = true → ∃ x y, m i = some (x, y) ∧ y * P.cellsOf e = cs.size) ∧ (∀ j v, c.get j = some v → oneCell v = true ∧ j < n)
  | .loop st x T ps a b q, o => ∃ r : Loop, o = .loop r ∧ r.state = st ∧ r.pending = x.code ∧ TR m T r.tmps ∧ r.params.toList = ps ∧ comp P r.assign = a ∧ comp P r.body = b ∧
      ∃ z y, m q = some (z, y) ∧ r.defers = z
  | .deferred d, o => o = .deferred (if d then some [] else none)

theorem TR.mono {m m' : Mp} (hm : m.le m') {T : BT Value} {a : Array Value} (h : TR m T a) : TR m' T a := fun t v ht => by
  obtain ⟨v', h1, h2⟩ := h t v ht
  exact ⟨v', h1, h2.mono hm⟩
theorem OR.mono {P : Program} {m m' : Mp} (hm : m.le m') {i : Nat} {o : CObj} {o' : Obj} (h : OR P m i o o') : OR P m' i o o' := by
  cases o with
  | dead => trivial
  | cells n c e op =>
    obtain ⟨cs, h1, h2, h3, h4, h7⟩ := h
    refine ⟨cs, h1, h2, fun j v hj => ?_, fun ho => ?_, h7⟩
    · obtain ⟨v', h5, h6⟩ := h3 j v hj; exact ⟨v', h5, h6.mono hm⟩
    · obtain ⟨x, y, h5, h6⟩ := h4 ho; exact ⟨x, y, hm _ _ h5, h6⟩
  | loop st x T ps a b q =>
    obtain ⟨r, h1, h2, h3, h4, h5, h6, h7, z, y, h8, h9⟩ := h
    exact ⟨r, h1, h2, h3, h4.mono hm, h5, h6, h7, z, y, hm _ _ h8, h9⟩
  | deferred d => exact h

/-- Objects that lie in the evaluator's memory alone, for later. -/
abbrev Kp := Nat → Option CObj
structure Emb (P : Program) (K : Kp) (B : Nat) (m : Mp) (s : St) (w : World) : Prop where
  low : ∀ i x y, m i = some (x, y) → B ≤ x ∧ x < w.heap.size
  old : ∀ i p, m i = some p → i < s.n
  obj : ∀ i x y o, m i = some (x, y) → s.h.get i = some o → ∃ o', w.heap[x]? = some o' ∧ OR P m i o o'
  inj : ∀ i j x y y', m i = some (x, y) → m j = some (x, y') → i ≠ j → s.h.get i = some .dead ∨ s.h.get j = some .dead
  base : B ≤ w.heap.size
  kept : ∀ i o, K i = some o → m i = none ∧ s.h.get i = some o ∧ i < s.n

/-- A world that went on from another one, and whose heap differs at places behind B alone. -/
theorem below_of {B : Nat} {w w' : World} (ho : w'.os = w.os) (ht : w'.tape = w.tape) (hp : w'.output = w.output) (hs : w.heap.size ≤ w'.heap.size) (hb : ∀ k, k < B → w'.heap[k]? = w.heap[k]?) : Below B w w' := ⟨ho, ht, hp, hs, hb⟩

def Mp.put (m : Mp) (i x y : Nat) : Mp := fun j => if j = i then some (x, y) else m j
theorem Mp.put_le {m : Mp} {i x y : Nat} (h : m i = none) : m.le (m.put i x y) := by
  intro j p hj
  unfold Mp.put
  rw [if_neg]
  · exact hj
  · rintro rfl; rw [h] at hj; cases hj
@[simp] theorem Mp.put_same (m : Mp) (i x y : Nat) : m.put i x y i = some (x, y) := by simp [Mp.put]
theorem Mp.put_ne {m : Mp} {i x y j : Nat} (h : j ≠ i) : m.put i x y j = m j := by simp [Mp.put, h]

theorem Emb.none {P : Program} {K : Kp} {B : Nat} {m : Mp} {s : St} {w : World} (E : Emb P K B m s w) : m s.n = none := by
  cases h : m s.n with
  | none => rfl
  | some p => exact absurd (E.old _ _ h) (by omega)

/-- A new object. -/
theorem Emb.new {P : Program} {K : Kp} {B : Nat} {m : Mp} {s : St} {w : World} (E : Emb P K B m s w) {h' : BT CObj} {o : CObj} {o' : Obj} (y : Nat) (hg : ∀ j, h'.get j = if j = s.n then some o else s.h.get j)
    (hr : OR P (m.put s.n w.heap.size y) s.n o o') : Emb P K B (m.put s.n w.heap.size y) ⟨h', s.n + 1⟩ (w.alloc o') := by
  have hn := E.none
  refine ⟨fun i x z hi => ?_, fun i p hi => ?_, fun i x z c hi hc => ?_, fun i j x z z' hi hj hij => ?_, by have := E.base; simp; omega, fun i o2 hi => ?_⟩
  · by_cases he : i = s.n
    · subst he; simp at hi; have := E.base; simp; omega
    · rw [Mp.put_ne he] at hi
      have := E.low i x z hi
      simp; omega
  · by_cases he : i = s.n
    · subst he; exact Nat.lt_succ_self _
    · rw [Mp.put_ne he] at hi; exact Nat.lt_succ_of_lt (E.old i p hi)
  · have hc' : h'.get i = some c := hc
    rw [hg] at hc'
    by_cases he : i = s.n
    · subst he
      rw [if_pos rfl] at hc'
      simp only [Mp.put_same, Option.some.injEq, Prod.mk.injEq] at hi
      cases hc'
      refine ⟨o', ?_, hr⟩
      rw [← hi.1]
      show (w.heap.push o')[w.heap.size]? = some o'
      simp
    · rw [if_neg he] at hc'
      rw [Mp.put_ne he] at hi
      obtain ⟨o2, h1, h2⟩ := E.obj i x z c hi hc'
      refine ⟨o2, ?_, h2.mono (Mp.put_le hn)⟩
      have := (E.low i x z hi).2
      show (w.heap.push o')[x]? = some o2
      rw [Array.getElem?_push_lt this]
      rw [Array.getElem?_eq_getElem this] at h1
      exact h1
  · show h'.get i = some .dead ∨ h'.get j = some .dead
    rw [hg, hg]
    by_cases hi' : i = s.n
    · subst hi'
      rw [Mp.put_ne (Ne.symm hij)] at hj
      simp only [Mp.put_same, Option.some.injEq, Prod.mk.injEq] at hi
      have := (E.low j x z' hj).2
      omega
    · by_cases hj' : j = s.n
      · subst hj'
        rw [Mp.put_ne hij] at hi
        simp only [Mp.put_same, Option.some.injEq, Prod.mk.injEq] at hj
        have := (E.low i x z hi).2
        omega
      · rw [if_neg hi', if_neg hj']
        rw [Mp.put_ne hi'] at hi
        rw [Mp.put_ne hj'] at hj
        exact E.inj i j x z z' hi hj hij
  · obtain ⟨h1, h2, h3⟩ := E.kept i o2 hi
    have he : i ≠ s.n := by omega
    exact ⟨by rw [Mp.put_ne he]; exact h1, by show h'.get i = _; rw [hg, if_neg he]; exact h2, Nat.lt_succ_of_lt h3⟩
theorem below_alloc {B : Nat} {w : World} (hB : B ≤ w.heap.size) (o : Obj) : Below B w (w.alloc o) := (Below.refl B w).alloc hB o

/-- An object put in the place of one that was alive. -/
theorem Emb.put {P : Program} {K : Kp} {B : Nat} {m : Mp} {s : St} {w w' : World} (E : Emb P K B m s w) {h' : BT CObj} {b x y : Nat} {o c : CObj} {o' : Obj} (hb : m b = some (x, y)) (hc : s.h.get b = some c) (hd : c ≠ .dead)
    (hg : ∀ j, h'.get j = if j = b then some o else s.h.get j) (hs : w'.heap.size = w.heap.size) (hx : w'.heap[x]? = some o') (hw : ∀ k, k ≠ x → w'.heap[k]? = w.heap[k]?) (hr : OR P m b o o') : Emb P K B m ⟨h', s.n⟩ w' := by
  refine ⟨fun i z u hi => by rw [hs]; exact E.low i z u hi, E.old, fun i z u d hi hd' => ?_, fun i j z u u' hi hj hij => ?_, by rw [hs]; exact E.base, fun i o2 hi => ?_⟩
  · have hd2 : h'.get i = some d := hd'
    rw [hg] at hd2
    by_cases he : i = b
    · subst he
      rw [if_pos rfl] at hd2
      cases hd2
      rw [hb] at hi
      cases hi
      exact ⟨o', hx, hr⟩
    · rw [if_neg he] at hd2
      obtain ⟨o2, h1, h2⟩ := E.obj i z u d hi hd2
      by_cases hz : z = x
      · subst hz
        rcases E.inj i b z u y hi hb he with h3 | h3
        · rw [hd2] at h3; cases h3; exact ⟨o', hx, trivial⟩
        · rw [hc] at h3; cases h3; exact absurd rfl hd
      · exact ⟨o2, by rw [hw z hz]; exact h1, h2⟩
  · show h'.get i = some .dead ∨ h'.get j = some .dead
    have := E.inj i j z u u' hi hj hij
    rw [hg, hg]
    by_cases hi' : i = b
    · subst hi'
      rw [hb] at hi; cases hi
      rcases this with h3 | h3
      · rw [hc] at h3; cases h3; exact absurd rfl hd
      · right; rw [if_neg (Ne.symm hij)]; exact h3
    · by_cases hj' : j = b
      · subst hj'
        rcases this with h3 | h3
        · left; rw [if_neg hij]; exact h3
        · rw [hc] at h3; cases h3; exact absurd rfl hd
      · rw [if_neg hi', if_neg hj']; exact this
  · obtain ⟨h1, h2, h3⟩ := E.kept i o2 hi
    have he : i ≠ b := by rintro rfl; rw [hb] at h1; cases h1
    exact ⟨h1, by show h'.get i = _; rw [hg, if_neg he]; exact h2, h3⟩
end Go.Proofs.YtpedbdicjgdgkaaGreat.Ev

/- What each operation does, in the evaluator's memory and in the world: loads, stores, new objects. No program here. -/
namespace Go.Proofs.YtpedbdicjgdgkaaGreat.Ev
open Go Go.RowKit

def nv : Next → Value
  | .value v => v
  | _ => undef
def Fine : Next → Prop
  | .value _ | .skip => True
  | _ => False
/-- An operation went through: what it hands back stands for v, the world for s'. -/
def OpOk (P : Program) (K : Kp) (B : Nat) (m : Mp) (w : World) (r : Result Next) (v : Value) (s' : St) : Prop :=
  ∃ m' w' n, r = .ok n w' ∧ Fine n ∧ m.le m' ∧ Emb P K B m' s' w' ∧ Below B w w' ∧ VR m' v (nv n)
theorem OpOk.pure {P : Program} {K : Kp} {B : Nat} {m : Mp} {s : St} {w : World} (E : Emb P K B m s w) {v u : Value} (h : VR m v u) {r : Result Next} (hr : r = .ok (.value u) w) : OpOk P K B m w r v s :=
  ⟨m, w, .value u, hr, trivial, Mp.le_refl m, E, Below.refl _ _, h⟩

theorem cell_of {w : World} {x : Nat} {cs : Array Value} {e : Nat} (h : w.heap[x]? = some (.cells cs e (0, 0))) (j : Nat) : w.cell? ⟨x, j, none⟩ = cs[j]? := by simp [World.cell?, h]
theorem run_sizeOf {P : Program} {t : TypeId} {i : TypeInfo} (h : P.info? t = some i) (w : World) : (sizeOf t).run P w = .ok i.size w := by simp [sizeOf, typeInfo, h]
theorem run_typeInfo {P : Program} {t : TypeId} {i : TypeInfo} (h : P.info? t = some i) (w : World) : (typeInfo t).run P w = .ok i w := by simp [typeInfo, h]
theorem run_und {P : Program} {t : TypeId} {d : TypeDesc} (h : P.underlying t = some d) (w : World) : (underlying t).run P w = .ok d w := by simp [underlying, h]
theorem aggOf_none {P : Program} {t : TypeId} (h : aggOf P t = some none) (w : World) : (isAgg t).run P w = .ok false w := by
  unfold aggOf at h
  cases hu : P.underlying t with
  | none => simp [hu] at h
  | some d =>
    cases hi : P.info? t with
    | none => cases d <;> simp [hu, hi] at h
    | some i => cases d <;> simp [hu, hi] at h <;> simp [isAgg, underlying, hu]
theorem aggOf_some {P : Program} {t : TypeId} {k : Nat} (h : aggOf P t = some (some k)) (w : World) : (isAgg t).run P w = .ok true w ∧ (sizeOf t).run P w = .ok k w := by
  unfold aggOf at h
  cases hu : P.underlying t with
  | none => simp [hu] at h
  | some d =>
    cases hi : P.info? t with
    | none => cases d <;> simp [hu, hi] at h
    | some i => cases d <;> simp [hu, hi] at h <;> exact ⟨by simp [isAgg, underlying, hu], by rw [← h]; exact run_sizeOf hi w⟩

theorem VR.ptr_inv {m : Mp} {b o : Nat} {u : Value} (h : VR m (.pointer (some ⟨b, o, none⟩)) u) : ∃ x y, m b = some (x, y) ∧ u = .pointer (some ⟨x, o, none⟩) := by
  simp only [VR] at h
  exact h.2
theorem add_none (x o n : Nat) : (⟨x, o, none⟩ : Addr).add n = ⟨x, o + n, none⟩ := by
  unfold Addr.add; split
  · rename_i h; subst h; rfl
  · rfl

theorem cutK_inv {c : BT Value} {off : Nat} {n : Option Nat} {k : Value → Bool} (h : cutK c off n k = true) :
    match n with
    | none => ∃ v, c.get off = some v ∧ k v = true
    | some n => ∃ l, l.length = n ∧ (∀ j, j < n → c.get (off + j) = l[j]?) ∧ k (.agg ⟨l⟩) = true := by
  cases n with
  | none => exact getK_inv h
  | some n => obtain ⟨l, h1, h2, h3⟩ := segK_inv (k := fun l => k (.agg ⟨l⟩)) h; exact ⟨l, h2, h3, h1⟩

/-- Cells that are there, and what lies in the world in their place. -/
theorem seg_rel {m : Mp} {c : BT Value} {cs : Array Value} {off : Nat} {l : List Value} (hc : ∀ j v, c.get j = some v → ∃ v', cs[j]? = some v' ∧ VR m v v') (hl : ∀ j, j < l.length → c.get (off + j) = l[j]?) :
    ∃ l', l'.length = l.length ∧ LR m l l' ∧ ∀ j v, l'[j]? = some v → cs[off + j]? = some v := by
  refine ⟨(List.range l.length).map (fun j => cs.getD (off + j) undef), by simp, LR.of_get (by simp) (fun i v hv => ?_), fun j v hj => ?_⟩
  · have hi : i < l.length := (List.getElem?_eq_some_iff.1 hv).1
    obtain ⟨v', h1, h2⟩ := hc (off + i) v (by rw [hl i hi]; exact hv)
    refine ⟨v', ?_, h2⟩
    have : cs.getD (off + i) undef = v' := by simp [Array.getD_eq_getD_getElem?, h1]
    simp [hi, ← this, Array.getD_eq_getD_getElem?]
  · have hi : j < l.length := by
      have := (List.getElem?_eq_some_iff.1 hj).1
      simpa using this
    obtain ⟨v', h1, h2⟩ := hc (off + j) (l[j]) (by rw [hl j hi]; exact List.getElem?_eq_getElem hi)
    simp [hi, h1] at hj
    rw [h1, ← hj]

theorem ld_ok {P : Program} {K : Kp} {B : Nat} {m : Mp} {s : St} {w : World} {t : TypeId} {n : Option Nat} {v u : Value} {k : Value → Bool} (hn : aggOf P t = some n) (E : Emb P K B m s w) (hv : VR m v u) (hk : ldK s n v k = true) :
    ∃ r, k r = true ∧ ∃ r', (Instr.loadAt t u).run P w = .ok r' w ∧ VR m r r' := by
  obtain ⟨b, off, rfl, hk⟩ := onPtr_inv hk
  obtain ⟨x, y, hm, rfl⟩ := hv.ptr_inv
  obtain ⟨N, c, e, op, hg, hk⟩ := rowK_inv hk
  obtain ⟨o', ho, cs, rfl, hsz, hcs, _⟩ := E.obj b x y _ hm hg
  have hk := cutK_inv hk
  cases n with
  | none =>
    obtain ⟨v, h1, h2⟩ := hk
    obtain ⟨v', h3, h4⟩ := hcs off v h1
    refine ⟨v, h2, v', ?_, h4⟩
    simp [Instr.loadAt, Instr.sureAddr, loadVar, aggOf_none hn, cell_of ho, h3]
  | some n =>
    obtain ⟨l, h1, h2, h3⟩ := hk
    obtain ⟨l', h4, h5, h6⟩ := seg_rel (off := off) hcs (by rw [h1]; exact h2)
    obtain ⟨ha, hsz⟩ := aggOf_some hn w
    refine ⟨_, h3, .agg ⟨l'⟩, ?_, by simp only [VR, AR]; exact ⟨_, rfl, l', rfl, h5⟩⟩
    have hl := run_loadCells_list (P := P) w ⟨x, off, none⟩ l' (fun j v hj => by rw [add_none, cell_of ho]; exact h6 j v hj)
    rw [h4, h1] at hl
    simp [Instr.loadAt, Instr.sureAddr, loadVar, ha, hsz, hl]

/-- Cells written in a row that is there. -/
theorem row_upd {P : Program} {m : Mp} {i N e : Nat} {c c' : BT Value} {op : Bool} {cs : Array Value} {off : Nat} {l l' : List Value} (hN : N ≤ cs.size) (hcs : ∀ j v, c.get j = some v → ∃ v', cs[j]? = some v' ∧ VR m v v')
    (hop : op = true → ∃ x y, m i = some (x, y) ∧ y * P.cellsOf e = cs.size) (hl : LR m l l') (h1 : ∀ v ∈ l, oneCell v = true) (h2 : ∀ j v, c.get j = some v → oneCell v = true ∧ j < N) (ho : off + l.length ≤ N) (hg : ∀ j, c'.get j = if off ≤ j ∧ j < off + l.length then l[j - off]? else c.get j) :
    OR P m i (.cells N c' e op) (.cells (cs.toList.take off ++ l' ++ cs.toList.drop (off + l'.length)).toArray e (0, 0)) := by
  have hll := LR.length hl
  have hsz : (cs.toList.take off ++ l' ++ cs.toList.drop (off + l'.length)).toArray.size = cs.size := by
    simp [hll]; omega
  refine ⟨_, rfl, by rw [hsz]; exact hN, fun j v hj => ?_, fun h => by obtain ⟨x, y, h1, h2⟩ := hop h; exact ⟨x, y, h1, by rw [hsz]; exact h2⟩, fun j v hj => by
    rw [hg] at hj
    by_cases h : off ≤ j ∧ j < off + l.length
    · rw [if_pos h] at hj; exact ⟨h1 v (List.mem_of_getElem? hj), by omega⟩
    · rw [if_neg h] at hj; exact h2 j v hj⟩
  rw [hg] at hj
  have key : (cs.toList.take off ++ l' ++ cs.toList.drop (off + l'.length)).toArray[j]? = if off ≤ j ∧ j < off + l.length then l'[j - off]? else cs[j]? := by
    rw [List.getElem?_toArray]
    have h1 : (cs.toList.take off).length = off := by simp; omega
    by_cases h2 : j < off
    · rw [if_neg (by omega), List.append_assoc, List.getElem?_append_left (by omega)]
      simp [h2]
    · by_cases h3 : j < off + l.length
      · rw [if_pos ⟨by omega, h3⟩, List.append_assoc, List.getElem?_append_right (by omega), h1, List.getElem?_append_left (by omega)]
      · rw [if_neg (by omega), List.getElem?_append_right (by simp; omega)]
        simp only [List.length_append, h1, List.getElem?_drop]
        rw [show off + l'.length + (j - (off + l'.length)) = j by omega]
        simp
  rw [key]
  by_cases h : off ≤ j ∧ j < off + l.length
  · rw [if_pos h] at hj ⊢
    exact LR.get hl hj
  · rw [if_neg h] at hj ⊢
    exact hcs j v hj

theorem oneCell_eq (v : Value) : v.oneCell' = oneCell v := by cases v <;> rfl
theorem LR.ones {m : Mp} : ∀ {l l' : List Value}, LR m l l' → (∀ v ∈ l, oneCell v = true) → ∀ v ∈ l', v.oneCell' = true
  | [], _, h, _, v, hv => by simp only [LR] at h; subst h; cases hv
  | u :: l, _, h, k, v, hv => by
    simp only [LR] at h
    obtain ⟨u', t, rfl, h1, h2⟩ := h
    rcases List.mem_cons.1 hv with rfl | hv
    · rw [oneCell_eq, h1.one]; exact k u (by simp)
    · exact LR.ones h2 (fun x hx => k x (by simp [hx])) v hv

/-- Cells stored in a row that is there: in the world, and in the evaluator's memory. -/
theorem rowSt {P : Program} {K : Kp} {B : Nat} {m : Mp} {s : St} {w : World} (E : Emb P K B m s w) {b x y N e : Nat} {c c' : BT Value} {op : Bool} {off : Nat} {l l' : List Value} {h' : BT CObj} (hm : m b = some (x, y)) (hb : s.h.get b = some (.cells N c e op))
    (hl : LR m l l') (h1 : ∀ v ∈ l, oneCell v = true) (ho : off + l.length ≤ N) (hg : ∀ j, c'.get j = if off ≤ j ∧ j < off + l.length then l[j - off]? else c.get j) (hh : ∀ j, h'.get j = if j = b then some (.cells N c' e op) else s.h.get j) :
    ∃ w', (storeCells ⟨x, off, none⟩ l').run P w = .ok () w' ∧ Emb P K B m ⟨h', s.n⟩ w' ∧ Below B w w' := by
  obtain ⟨o', hx, cs, rfl, hsz, hcs, hop, hon⟩ := E.obj b x y _ hm hb
  have hll := LR.length hl
  have hrun := run_storeCells_at (P := P) x off e l' 0 cs w hx (by rw [hll]; omega) (hl.ones h1)
  simp only [Nat.add_zero] at hrun
  refine ⟨_, hrun, E.put hm hb (by simp) hh (by simp) (setRow_heap w x cs _ e _ hx) (fun k hk => setRow_other w x k _ hk) (row_upd hsz hcs hop hl h1 hon (by omega) hg), ?_⟩
  have := (E.low b x y hm).1
  exact below_of (by simp) (by simp) (by simp) (by simp) (fun k hk => setRow_other w x k _ (by omega))

theorem st_ok {P : Program} {K : Kp} {B : Nat} {m : Mp} {s : St} {w : World} {t : TypeId} {i : TypeInfo} {n : Option Nat} {v u a b : Value} {k : St → Bool} (hn : aggOf P t = some n) (hi : P.info? t = some i) (h1 : n = none → i.size = 1)
    (E : Emb P K B m s w) (hv : VR m v u) (ha : VR m a b) (hk : stK s n v a k = true) :
    ∃ s', k s' = true ∧ ∃ w', (Instr.storeAt t b u).run P w = .ok () w' ∧ Emb P K B m s' w' ∧ Below B w w' := by
  obtain ⟨g, off, rfl, hk⟩ := onPtr_inv hk
  obtain ⟨x, y, hm, rfl⟩ := ha.ptr_inv
  obtain ⟨N, c, e, op, hg, hk⟩ := rowK_inv hk
  cases n with
  | none =>
    obtain ⟨hone, hk⟩ := ifB_true (x := ifB (Nat.blt off N) _ false) hk
    obtain ⟨hlt, hk⟩ := ifB_true hk
    obtain ⟨c', hk, _, hc'⟩ := updK_inv hk
    obtain ⟨h', hk, _, hh⟩ := storeK_inv hk
    have hna : ∀ l, v ≠ .agg l := by rintro l rfl; simp [Ev.oneCell] at hone
    obtain ⟨⟨_, hu⟩, _⟩ := hv.plain hna
    have hlt' : off < N := by simpa [Nat.blt_eq] using hlt
    obtain ⟨w', hr, hE, hB⟩ := rowSt E (off := off) (l := [v]) (l' := [u]) (c' := c') hm hg (by simp only [LR]; exact ⟨u, [], rfl, hv, rfl⟩) (by simpa using hone) (by simp; omega) (fun j => by
      rw [hc']
      by_cases hj : j = off
      · subst hj; simp
      · rw [if_neg hj, if_neg (by simp; omega)]) hh
    refine ⟨_, hk, w', ?_, hE, hB⟩
    simp [Instr.storeAt, Instr.sureAddr, storeVar, run_sizeOf hi, hu, h1 rfl, hr]
  | some n =>
    obtain ⟨hs1, hs2⟩ := aggOf_some hn w
    have hin : i.size = n := by rw [run_sizeOf hi] at hs2; exact (Result.ok.inj hs2).1
    obtain ⟨l, rfl, hk⟩ := onAgg_inv hk
    obtain ⟨hlen, hk⟩ := ifB_true hk
    obtain ⟨hle, hk⟩ := ifB_true hk
    obtain ⟨hall, hk⟩ := ifB_true hk
    obtain ⟨c', hk, _, hc'⟩ := putsK_inv hk
    obtain ⟨h', hk, _, hh⟩ := storeK_inv hk
    simp only [VR, AR] at hv
    obtain ⟨_, rfl, l', rfl, hl⟩ := hv
    have hlen' : l.length = n := by simpa using hlen
    have hle' : off + n ≤ N := by simpa using hle
    obtain ⟨w', hr, hE, hB⟩ := rowSt E (l := l) (l' := l') (c' := c') hm hg hl (allOne_eq l hall) (by omega) hc' hh
    refine ⟨_, hk, w', ?_, hE, hB⟩
    have := LR.length hl
    simp [Instr.storeAt, Instr.sureAddr, storeVar, run_sizeOf hi, Value.cells, hin, this, hlen', hr]
end Go.Proofs.YtpedbdicjgdgkaaGreat.Ev
