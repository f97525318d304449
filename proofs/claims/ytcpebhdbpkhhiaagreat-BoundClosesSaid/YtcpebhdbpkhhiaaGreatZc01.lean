import Derived.Test.YtcpebhdbpkhhiaaGreatZa10
import Derived.IntWalk
set_option linter.unusedVariables false
set_option linter.unusedSimpArgs false
/- The evaluator run on what is not known: what makes its steps answer true. No program here. -/
namespace Go.Proofs.YtcpebhdbpkhhiaaGreat.Ev
open Go Go.RowKit

/-! ## Trees -/
/-- A tree with the numbers below n, and no other ones. -/
def Full {α : Type} : BT α → Nat → Prop
  | .leaf, n => n = 0
  | .node _ l r, n => n ≠ 0 ∧ Full l (n / 2) ∧ Full r ((n - 1) / 2)
theorem Full.some {α : Type} : ∀ {t : BT α} {n : Nat}, Full t n → ∀ j, j < n → (t.get j).isSome = true
  | .leaf, n, h, j, hj => by have : n = 0 := h; omega
  | .node a l r, n, ⟨h0, h1, h2⟩, j, hj => by
    simp only [BT.get]
    by_cases hj0 : j = 0
    · simp [hj0]
    · rw [if_neg hj0]
      by_cases hj1 : j % 2 = 1
      · rw [if_pos hj1]; exact h1.some _ (by omega)
      · rw [if_neg hj1]; exact h2.some _ (by omega)
theorem Full.none {α : Type} : ∀ {t : BT α} {n : Nat}, Full t n → ∀ j, n ≤ j → t.get j = none
  | .leaf, n, h, j, hj => rfl
  | .node a l r, n, ⟨h0, h1, h2⟩, j, hj => by
    simp only [BT.get]
    rw [if_neg (by omega)]
    by_cases hj1 : j % 2 = 1
    · rw [if_pos hj1]; exact h1.none _ (by omega)
    · rw [if_neg hj1]; exact h2.none _ (by omega)
theorem Full.lt {α : Type} {t : BT α} {n j : Nat} {v : α} (h : Full t n) (hv : t.get j = Option.some v) : j < n := by
  rcases Nat.lt_or_ge j n with h1 | h1
  · exact h1
  · rw [h.none j h1] at hv; cases hv

theorem updK_of {α : Type} {v : α} : ∀ {t : BT α} {n m : Nat} {k : BT α → Bool}, Full t m → n < m → (∀ t', Full t' m → (∀ j, t'.get j = if j = n then some v else t.get j) → k t' = true) → updK t n v k = true := by
  intro t
  induction t with
  | leaf => intro n m k h hn _; have : m = 0 := h; omega
  | node a l r il ir =>
    intro n m k h hn hk
    obtain ⟨h0', hl, hr⟩ := h
    show @Bool.rec (fun _ => Bool) (@Bool.rec (fun _ => Bool) (updK r (Nat.pred (Nat.div n 2)) v (fun r => k (.node a l r))) (updK l (Nat.div n 2) v (fun l => k (.node a l r))) (Nat.beq (Nat.mod n 2) 1)) (k (.node v l r)) (Nat.beq n 0) = true
    rw [beq0, par]
    by_cases h0 : n = 0
    · subst h0
      refine hk _ ⟨h0', hl, hr⟩ (fun j => ?_)
      by_cases hj : j = 0
      · simp [hj, BT.get]
      · simp [hj, BT.get]
    · rw [decide_eq_false h0]
      by_cases h1 : n % 2 = 1
      · rw [decide_eq_true h1]
        refine il hl (by show n / 2 < m / 2; omega) (fun t' hf hg => hk _ ⟨h0', hf, hr⟩ (fun j => ?_))
        simp only [BT.get]
        by_cases hj : j = 0
        · simp [hj, Ne.symm h0]
        · by_cases hj1 : j % 2 = 1
          · rw [if_neg hj, if_pos hj1, hg]
            by_cases he : j = n
            · subst he; simp; intro hh; exact absurd rfl hh
            · have : j / 2 ≠ Nat.div n 2 := by show j / 2 ≠ n / 2; omega
              simp [this, he, hj, hj1]
          · rw [if_neg hj, if_neg hj1]
            have : j ≠ n := fun e => hj1 (e ▸ h1)
            simp [this, hj, hj1]
      · rw [decide_eq_false h1]
        refine ir hr (by show n / 2 - 1 < (m - 1) / 2; omega) (fun t' hf hg => hk _ ⟨h0', hl, hf⟩ (fun j => ?_))
        simp only [BT.get]
        by_cases hj : j = 0
        · simp [hj, Ne.symm h0]
        · by_cases hj1 : j % 2 = 1
          · rw [if_neg hj, if_pos hj1]
            have : j ≠ n := fun e => h1 (e ▸ hj1)
            simp [this, hj, hj1]
          · rw [if_neg hj, if_neg hj1, hg]
            by_cases he : j = n
            · subst he; simp; intro hh; exact absurd rfl hh
            · have : ¬ (j / 2 - 1 = Nat.pred (Nat.div n 2)) := by
                show ¬ (j / 2 - 1 = n / 2 - 1); omega
              rw [if_neg this, if_neg he, if_neg hj, if_neg hj1]

theorem addK_of {α : Type} {v : α} : ∀ {t : BT α} {n : Nat} {k : BT α → Bool}, Full t n → (∀ t', Full t' (n + 1) → (∀ j, t'.get j = if j = n then some v else t.get j) → k t' = true) → addK t n v k = true := by
  intro t
  induction t with
  | leaf =>
    intro n k h hk
    have h0 : n = 0 := h
    subst h0
    refine hk _ ⟨by omega, by simp [Full], by simp [Full]⟩ (fun j => ?_)
    by_cases hj : j = 0
    · simp [hj, BT.get]
    · simp only [BT.get, hj, if_false]; split <;> rfl
  | node a l r il ir =>
    intro n k h hk
    obtain ⟨h0, hl, hr⟩ := h
    show @Bool.rec (fun _ => Bool) (@Bool.rec (fun _ => Bool) (addK r (Nat.pred (Nat.div n 2)) v (fun r => k (.node a l r))) (addK l (Nat.div n 2) v (fun l => k (.node a l r))) (Nat.beq (Nat.mod n 2) 1)) false (Nat.beq n 0) = true
    rw [beq0, par, decide_eq_false h0]
    by_cases h1 : n % 2 = 1
    · rw [decide_eq_true h1]
      refine il (n := n / 2) hl (fun t' hf hg => hk _ ⟨by omega, by rw [show (n + 1) / 2 = n / 2 + 1 by omega]; exact hf, by rw [show (n + 1 - 1) / 2 = (n - 1) / 2 by omega]; exact hr⟩ (fun j => ?_))
      simp only [BT.get]
      by_cases hj : j = 0
      · simp [hj, Ne.symm h0]
      · by_cases hj1 : j % 2 = 1
        · rw [if_neg hj, if_pos hj1, hg]
          by_cases he : j = n
          · subst he; simp
          · have : j / 2 ≠ n / 2 := by omega
            simp [this, he, hj, hj1]
        · rw [if_neg hj, if_neg hj1]
          have : j ≠ n := fun e => hj1 (e ▸ h1)
          simp [this, hj, hj1]
    · rw [decide_eq_false h1]
      refine ir (n := n / 2 - 1) (by rw [show n / 2 - 1 = (n - 1) / 2 by omega]; exact hr) (fun t' hf hg => hk _ ⟨by omega, by rw [show (n + 1) / 2 = n / 2 by omega]; exact hl, by rw [show (n + 1 - 1) / 2 = n / 2 - 1 + 1 by omega]; exact hf⟩ (fun j => ?_))
      simp only [BT.get]
      by_cases hj : j = 0
      · simp [hj, Ne.symm h0]
      · by_cases hj1 : j % 2 = 1
        · rw [if_neg hj, if_pos hj1]
          have : j ≠ n := fun e => h1 (e ▸ hj1)
          simp [this, hj, hj1]
        · rw [if_neg hj, if_neg hj1, hg]
          by_cases he : j = n
          · subst he; simp
          · have : ¬ (j / 2 - 1 = n / 2 - 1) := by omega
            rw [if_neg this, if_neg he, if_neg hj, if_neg hj1]

theorem getK_of2 {α : Type} {t : BT α} {n : Nat} {a : α} {k : α → Bool} (h : t.get n = some a) (hk : k a = true) : getK t n k = true := getK_of h hk

theorem addsK_of {α : Type} : ∀ {l : List α} {t : BT α} {n : Nat} {k : BT α → Bool}, Full t n → (∀ t', Full t' (n + l.length) → (∀ j, t'.get j = if n ≤ j ∧ j < n + l.length then l[j - n]? else t.get j) → k t' = true) → addsK t n l k = true
  | [], t, n, k, hf, hk => hk t hf (fun j => by rw [if_neg (by simp)])
  | v :: l, t, n, k, hf, hk => by
    show addK t n v (fun t => addsK t (Nat.succ n) l k) = true
    refine addK_of hf (fun t' hf' hg => addsK_of (n := n + 1) hf' (fun t2 hf2 hg2 => hk t2 (by rw [show n + (v :: l).length = n + 1 + l.length by simp; omega]; exact hf2) (fun j => ?_)))
    rw [hg2]
    by_cases h1 : n + 1 ≤ j ∧ j < n + 1 + l.length
    · rw [if_pos h1, if_pos (by simp; omega)]
      obtain ⟨i, hi⟩ : ∃ i, j - n = i + 1 := ⟨j - n - 1, by omega⟩
      rw [hi, List.getElem?_cons_succ]; congr 1; omega
    · rw [if_neg h1, hg]
      by_cases h2 : j = n
      · subst h2; rw [if_pos rfl, if_pos (by simp)]; simp
      · rw [if_neg h2, if_neg (by simp; omega)]
theorem putsK_of {α : Type} : ∀ {l : List α} {t : BT α} {n m : Nat} {k : BT α → Bool}, Full t m → n + l.length ≤ m → (∀ t', Full t' m → (∀ j, t'.get j = if n ≤ j ∧ j < n + l.length then l[j - n]? else t.get j) → k t' = true) → putsK t n l k = true
  | [], t, n, m, k, hf, hm, hk => hk t hf (fun j => by rw [if_neg (by simp)])
  | v :: l, t, n, m, k, hf, hm, hk => by
    show updK t n v (fun t => putsK t (Nat.succ n) l k) = true
    simp only [List.length_cons] at hm
    refine updK_of hf (by omega) (fun t' hf' hg => putsK_of (n := n + 1) hf' (by omega) (fun t2 hf2 hg2 => hk t2 hf2 (fun j => ?_)))
    rw [hg2]
    by_cases h1 : n + 1 ≤ j ∧ j < n + 1 + l.length
    · rw [if_pos h1, if_pos (by simp; omega)]
      obtain ⟨i, hi⟩ : ∃ i, j - n = i + 1 := ⟨j - n - 1, by omega⟩
      rw [hi, List.getElem?_cons_succ]; congr 1; omega
    · rw [if_neg h1, hg]
      by_cases h2 : j = n
      · subst h2; rw [if_pos rfl, if_pos (by simp)]; simp
      · rw [if_neg h2, if_neg (by simp; omega)]
theorem segK_of {α : Type} {t : BT α} : ∀ {l : List α} {i n : Nat} {k : List α → Bool}, l.length = n → (∀ j, j < n → t.get (i + j) = l[j]?) → k l = true → segK t i n k = true
  | [], i, n, k, hn, hl, hk => by subst hn; exact hk
  | v :: l, i, n, k, hn, hl, hk => by
    subst hn
    show getK t i (fun v => segK t (Nat.succ i) l.length (fun l => k (v :: l))) = true
    refine getK_of (by simpa using hl 0 (by simp)) ?_
    exact segK_of (i := i + 1) rfl (fun j hj => by have := hl (j + 1) (by simp; omega); simpa [Nat.add_assoc, Nat.add_comm 1 j] using this) hk
theorem romSegK_of {g : Nat → Option Value} : ∀ {l : List Value} {i n : Nat} {k : List Value → Bool}, l.length = n → (∀ j, j < n → g (i + j) = l[j]?) → k l = true → romSegK g i n k = true
  | [], i, n, k, hn, hl, hk => by subst hn; exact hk
  | v :: l, i, n, k, hn, hl, hk => by
    subst hn
    show optK (g i) (fun v => romSegK g (Nat.succ i) l.length (fun l => k (v :: l))) = true
    have h0 : g i = some v := by simpa using hl 0 (by simp)
    rw [h0]
    exact romSegK_of (i := i + 1) rfl (fun j hj => by have := hl (j + 1) (by simp; omega); simpa [Nat.add_assoc, Nat.add_comm 1 j] using this) hk

/-! ## Memory -/
def Wf (s : St) : Prop := Full s.h s.n
/-- A state that went on from another one; only the objects of a list may be others. -/
def Mod (s s' : St) (ch : List Nat) : Prop := Wf s' ∧ s.n ≤ s'.n ∧ ∀ b, b < s.n → b ∉ ch → s'.h.get b = s.h.get b
def Ext (s s' : St) : Prop := Wf s' ∧ s.n ≤ s'.n ∧ ∀ b, b < s.n → s'.h.get b = s.h.get b
theorem Ext.refl {s : St} (h : Wf s) : Ext s s := ⟨h, Nat.le_refl _, fun _ _ => rfl⟩
theorem Ext.trans {a b c : St} (h : Ext a b) (k : Ext b c) : Ext a c := ⟨k.1, Nat.le_trans h.2.1 k.2.1, fun i hi => (k.2.2 i (Nat.lt_of_lt_of_le hi h.2.1)).trans (h.2.2 i hi)⟩
theorem Ext.mod {a b c : St} {ch : List Nat} (h : Ext a b) (k : Mod b c ch) (hc : ∀ i ∈ ch, a.n ≤ i) : Ext a c :=
  ⟨k.1, Nat.le_trans h.2.1 k.2.1, fun i hi => (k.2.2 i (Nat.lt_of_lt_of_le hi h.2.1) (fun hm => by have := hc i hm; omega)).trans (h.2.2 i hi)⟩
/-- A cell of a row, its own or one that came in. -/
def At (s : St) (b off : Nat) (v : Value) : Prop := ∃ f, Sees s b f ∧ f off = some v
def Ats (s : St) (b : Nat) : Nat → List Value → Prop
  | _, [] => True
  | off, v :: l => At s b off v ∧ Ats s b (off + 1) l
theorem sees_lt {s : St} (h : Wf s) {b : Nat} {f : Nat → Option Value} (hs : Sees s b f) : b < s.n := by
  rcases hs with ⟨n, c, e, op, h1, _⟩ | h1 <;> exact Full.lt h h1
theorem Sees.same {s s' : St} {b : Nat} {f : Nat → Option Value} (h : Sees s b f) (hb : s'.h.get b = s.h.get b) : Sees s' b f := by
  rcases h with ⟨n, c, e, op, h1, h2⟩ | h1
  · exact .inl ⟨n, c, e, op, hb.trans h1, h2⟩
  · exact .inr (hb.trans h1)
theorem At.ext {s s' : St} (hw : Wf s) {b off : Nat} {v : Value} (h : At s b off v) (e : Ext s s') : At s' b off v := by
  obtain ⟨f, h1, h2⟩ := h
  exact ⟨f, h1.same (e.2.2 b (sees_lt hw h1)), h2⟩
theorem At.mod {s s' : St} (hw : Wf s) {b off : Nat} {v : Value} {ch : List Nat} (h : At s b off v) (e : Mod s s' ch) (hb : b ∉ ch) : At s' b off v := by
  obtain ⟨f, h1, h2⟩ := h
  exact ⟨f, h1.same (e.2.2 b (sees_lt hw h1) hb), h2⟩
theorem Ats.ext {s s' : St} (hw : Wf s) {b : Nat} : ∀ {l : List Value} {off : Nat}, Ats s b off l → Ext s s' → Ats s' b off l
  | [], _, _, _ => trivial
  | _ :: _, _, ⟨h1, h2⟩, e => ⟨h1.ext hw e, h2.ext hw e⟩
theorem Ats.mod {s s' : St} (hw : Wf s) {b : Nat} {ch : List Nat} : ∀ {l : List Value} {off : Nat}, Ats s b off l → Mod s s' ch → b ∉ ch → Ats s' b off l
  | [], _, _, _, _ => trivial
  | _ :: _, _, ⟨h1, h2⟩, e, hb => ⟨h1.mod hw e hb, h2.mod hw e hb⟩
theorem At.same {s : St} {b off : Nat} {v v' : Value} (h : At s b off v) (h' : At s b off v') : v = v' := by
  obtain ⟨f, h1, h2⟩ := h
  obtain ⟨g, h3, h4⟩ := h'
  have : f = g := by
    rcases h1 with ⟨n, c, e, op, h5, rfl⟩ | h5 <;> rcases h3 with ⟨n', c', e', op', h6, rfl⟩ | h6
    · rw [h5] at h6; cases h6; rfl
    · rw [h5] at h6; cases h6
    · rw [h5] at h6; cases h6
    · rw [h5] at h6; cases h6; rfl
  subst this
  rw [h2] at h4; exact Option.some.inj h4
theorem Ats.see {s : St} {b : Nat} : ∀ {l : List Value} {off : Nat}, Ats s b off l → l ≠ [] → ∃ f, Sees s b f ∧ ∀ j, j < l.length → f (off + j) = l[j]?
  | [], _, _, h => absurd rfl h
  | [v], off, ⟨⟨f, h1, h2⟩, _⟩, _ => ⟨f, h1, fun j hj => by have : j = 0 := by simpa using hj
                                                            subst this; simpa using h2⟩
  | v :: u :: l, off, ⟨⟨f, h1, h2⟩, h3⟩, _ => by
    obtain ⟨g, h4, h5⟩ := Ats.see h3 (by simp)
    have : f = g := by
      rcases h1 with ⟨n, c, e, op, h6, rfl⟩ | h6 <;> rcases h4 with ⟨n', c', e', op', h7, rfl⟩ | h7
      · rw [h6] at h7; cases h7; rfl
      · rw [h6] at h7; cases h7
      · rw [h6] at h7; cases h7
      · rw [h6] at h7; cases h7; rfl
    subst this
    refine ⟨f, h1, fun j hj => ?_⟩
    cases j with
    | zero => simpa using h2
    | succ j => have := h5 j (by simp at hj ⊢; omega); rw [List.getElem?_cons_succ, ← this]; congr 1; omega

/-- A row of the call's own, all of it. -/
def Obj (s : St) (b e : Nat) (op : Bool) (l : List Value) : Prop := ∃ c, s.h.get b = some (.cells l.length c e op) ∧ Full c l.length ∧ ∀ j, c.get j = l[j]?
theorem Obj.same {s s' : St} {b e : Nat} {op : Bool} {l : List Value} (h : Obj s b e op l) (hb : s'.h.get b = s.h.get b) : Obj s' b e op l := by
  obtain ⟨c, h1, h2⟩ := h
  exact ⟨c, hb.trans h1, h2⟩
theorem Obj.lt {s : St} (hw : Wf s) {b e : Nat} {op : Bool} {l : List Value} (h : Obj s b e op l) : b < s.n := by
  obtain ⟨c, h1, _⟩ := h
  exact Full.lt hw h1
theorem Obj.ext {s s' : St} (hw : Wf s) {b e : Nat} {op : Bool} {l : List Value} (h : Obj s b e op l) (x : Ext s s') : Obj s' b e op l := h.same (x.2.2 b (h.lt hw))
theorem Obj.mod {s s' : St} (hw : Wf s) {b e : Nat} {op : Bool} {l : List Value} {ch : List Nat} (h : Obj s b e op l) (x : Mod s s' ch) (hb : b ∉ ch) : Obj s' b e op l := h.same (x.2.2 b (h.lt hw) hb)
theorem Obj.at {s : St} {b e : Nat} {op : Bool} {l : List Value} (h : Obj s b e op l) {off : Nat} {v : Value} (hv : l[off]? = some v) : At s b off v := by
  obtain ⟨c, h1, _, h2⟩ := h
  exact ⟨c.get, .inl ⟨_, c, e, op, h1, rfl⟩, (h2 off).trans hv⟩
theorem Obj.ats {s : St} {b e : Nat} {op : Bool} {l : List Value} (h : Obj s b e op l) : ∀ {r : List Value} {off : Nat}, (∀ j, j < r.length → l[off + j]? = r[j]?) → Ats s b off r
  | [], _, _ => trivial
  | v :: r, off, hr => ⟨h.at (by simpa using hr 0 (by simp)), h.ats (fun j hj => by have := hr (j + 1) (by simp; omega); simpa [Nat.add_assoc, Nat.add_comm 1 j] using this)⟩
theorem Obj.all {s : St} {b e : Nat} {op : Bool} {l : List Value} (h : Obj s b e op l) : Ats s b 0 l := h.ats (fun j _ => by rw [Nat.zero_add])

/-! ## Primitive steps -/
theorem nOf_of {s : St} {k : Nat → Bool} (h : k s.n = true) : nOf s k = true := by obtain ⟨h0, n⟩ := s; exact h
theorem objK_of {s : St} {b : Nat} {o : CObj} {k : CObj → Bool} (h : s.h.get b = some o) (hk : k o = true) : objK s b k = true := by obtain ⟨h0, n⟩ := s; exact getK_of h hk
theorem newK_of {s : St} {o : CObj} {k : St → Bool} (hw : Wf s) (hk : ∀ s', Ext s s' → s'.n = s.n + 1 → s'.h.get s.n = some o → k s' = true) : newK s o k = true := by
  obtain ⟨h0, n⟩ := s
  show addK h0 n o (fun h => forceN (Nat.succ n) (fun m => k ⟨h, m⟩)) = true
  refine addK_of hw (fun t hf hg => ?_)
  rw [forceN_eq]
  refine hk ⟨t, n + 1⟩ ⟨hf, Nat.le_succ n, fun b hb => ?_⟩ rfl ?_
  · show t.get b = h0.get b
    rw [hg, if_neg (by have : b < n := hb; omega)]
  · show t.get n = _
    rw [hg, if_pos rfl]
theorem storeK_of {s : St} {b : Nat} {o : CObj} {k : St → Bool} (hw : Wf s) (hb : b < s.n) (hk : ∀ s', Mod s s' [b] → s'.n = s.n → s'.h.get b = some o → k s' = true) : storeK s b o k = true := by
  obtain ⟨h0, n⟩ := s
  show updK h0 b o (fun h => k ⟨h, n⟩) = true
  refine updK_of hw hb (fun t hf hg => hk ⟨t, n⟩ ⟨hf, Nat.le_refl _, fun i hi hne => ?_⟩ rfl ?_)
  · show t.get i = h0.get i
    rw [hg, if_neg (by simpa using hne)]
  · show t.get b = _
    rw [hg, if_pos rfl]
theorem seeK_of {s : St} {b : Nat} {f : Nat → Option Value} {kc : BT Value → Bool} {kr : (Nat → Option Value) → Bool} (h : Sees s b f) (h1 : ∀ c, f = c.get → kc c = true) (h2 : kr f = true) : seeK s b kc kr = true := by
  rcases h with ⟨n, c, e, op, h3, rfl⟩ | h3
  · exact objK_of (k := fun o => @CObj.casesOn (fun _ => Bool) o false (fun _ c _ _ => kc c) (fun _ _ _ _ _ _ _ => false) (fun _ => false) (fun _ => false) kr) h3 (h1 c rfl)
  · exact objK_of (k := fun o => @CObj.casesOn (fun _ => Bool) o false (fun _ c _ _ => kc c) (fun _ _ _ _ _ _ _ => false) (fun _ => false) (fun _ => false) kr) h3 h2
theorem ldK_one {s : St} {b off : Nat} {v : Value} {k : Value → Bool} (h : At s b off v) (hk : k v = true) : ldK s none (.pointer (some ⟨b, off, none⟩)) k = true := by
  obtain ⟨f, h1, h2⟩ := h
  show seeK s b (fun c => cutK c off none k) (fun g => romCutK g off none k) = true
  refine seeK_of h1 (fun c hc => ?_) ?_
  · subst hc; exact getK_of h2 hk
  · show optK (f off) k = true
    rw [h2]; exact hk
theorem ldK_agg {s : St} {b off n : Nat} {l : List Value} {k : Value → Bool} (h : Ats s b off l) (hn : l.length = n) (h0 : n ≠ 0) (hk : k (.agg ⟨l⟩) = true) : ldK s (some n) (.pointer (some ⟨b, off, none⟩)) k = true := by
  obtain ⟨f, h1, h2⟩ := h.see (by intro h; subst h; simp at hn; omega)
  show seeK s b (fun c => cutK c off (some n) k) (fun g => romCutK g off (some n) k) = true
  refine seeK_of h1 (fun c hc => ?_) ?_
  · subst hc; exact segK_of (k := fun l => k (.agg ⟨l⟩)) hn (fun j hj => h2 j (by omega)) hk
  · exact romSegK_of (k := fun l => k (.agg ⟨l⟩)) hn (fun j hj => h2 j (by omega)) hk
theorem rowK_of2 {s : St} {b e : Nat} {op : Bool} {l : List Value} {k : Nat → BT Value → Nat → Bool → Bool} (h : Obj s b e op l) (hk : ∀ c, Full c l.length → (∀ j, c.get j = l[j]?) → k l.length c e op = true) : rowK s b k = true := by
  obtain ⟨c, h1, h2, h3⟩ := h
  exact rowK_of h1 (hk c h2 h3)
/-- A store into one cell of a row of the call's own. -/
theorem stK_one {s : St} {b off e : Nat} {op : Bool} {l : List Value} {v : Value} {k : St → Bool} (hw : Wf s) (h : Obj s b e op l) (ho : off < l.length) (h1 : oneCell v = true) (hk : ∀ s', Mod s s' [b] → s'.n = s.n → Obj s' b e op (l.set off v) → k s' = true) :
    stK s none v (.pointer (some ⟨b, off, none⟩)) k = true := by
  refine rowK_of2 (k := fun m c e op => ifB (oneCell v) (ifB (Nat.blt off m) (updK c off v (fun c => storeK s b (.cells m c e op) k)) false) false) h (fun c hf hc => ?_)
  rw [h1, show Nat.blt off l.length = true from by rw [Nat.blt_eq]; exact ho]
  refine updK_of hf ho (fun c' hf' hg => storeK_of hw (h.lt hw) (fun s' hm hn hs => hk s' hm hn ⟨c', by simpa using hs, by simpa using hf', fun j => ?_⟩))
  rw [hg, List.getElem?_set]
  by_cases hj : j = off
  · subst hj; simp [ho]
  · rw [if_neg hj, if_neg (Ne.symm hj)]; exact hc j
/-- A list with another one written over a part of it. -/
def over (l : List Value) (off : Nat) (r : List Value) : List Value := l.take off ++ r ++ l.drop (off + r.length)
theorem over_length {l r : List Value} {off : Nat} (h : off + r.length ≤ l.length) : (over l off r).length = l.length := by
  unfold over; simp; omega
theorem over_get {l r : List Value} {off : Nat} (h : off + r.length ≤ l.length) (j : Nat) : (over l off r)[j]? = if off ≤ j ∧ j < off + r.length then r[j - off]? else l[j]? := by
  unfold over
  by_cases h1 : j < off
  · rw [if_neg (by omega), List.append_assoc, List.getElem?_append_left (by simp; omega), List.getElem?_take, if_pos h1]
  · by_cases h2 : j < off + r.length
    · rw [if_pos ⟨by omega, h2⟩, List.append_assoc, List.getElem?_append_right (by simp; omega)]
      rw [List.getElem?_append_left (by simp; omega)]; congr 1; simp; omega
    · rw [if_neg (by omega), List.getElem?_append_right (by simp; omega), List.getElem?_drop]
      congr 1; simp; omega
theorem allOne_of : ∀ {l : List Value}, (∀ v ∈ l, oneCell v = true) → allOne l = true
  | [], _ => rfl
  | v :: l, h => by
    show ifB (oneCell v) (allOne l) false = true
    rw [h v (by simp)]; exact allOne_of (fun u hu => h u (by simp [hu]))
theorem stK_agg {s : St} {b off e n : Nat} {op : Bool} {l r : List Value} {k : St → Bool} (hw : Wf s) (h : Obj s b e op l) (ho : off + n ≤ l.length) (hn : r.length = n) (h1 : allOne r = true) (hk : ∀ s', Mod s s' [b] → s'.n = s.n → Obj s' b e op (over l off r) → k s' = true) :
    stK s (some n) (.agg ⟨r⟩) (.pointer (some ⟨b, off, none⟩)) k = true := by
  refine rowK_of2 (k := fun m c e op => onAgg (.agg ⟨r⟩) (fun l => ifB (Nat.beq l.length n) (ifB (Nat.ble (Nat.add off n) m) (ifB (allOne l) (putsK c off l (fun c => storeK s b (.cells m c e op) k)) false) false) false)) h (fun c hf hc => ?_)
  show ifB (Nat.beq r.length n) (ifB (Nat.ble (Nat.add off n) l.length) (ifB (allOne r) _ false) false) false = true
  rw [h1, show Nat.beq r.length n = true from by rw [Nat.beq_eq]; exact hn, show Nat.ble (Nat.add off n) l.length = true from by rw [Nat.ble_eq]; exact ho]
  have ho' : off + r.length ≤ l.length := by omega
  refine putsK_of hf ho' (fun c' hf' hg => storeK_of hw (h.lt hw) (fun s' hm hn hs => hk s' hm hn ⟨c', by rw [over_length ho']; exact hs, by rw [over_length ho']; exact hf', fun j => ?_⟩))
  rw [hg, over_get ho', hc]
/-- A new row, of a list. -/
theorem newRow_of {s : St} {e : Nat} {op : Bool} {l : List Value} {c : BT Value} {k : St → Bool} {m : Nat} (hm : m = l.length) (hw : Wf s) (hf : Full c l.length) (hc : ∀ j, c.get j = l[j]?) (hk : ∀ s', Ext s s' → s'.n = s.n + 1 → Obj s' s.n e op l → k s' = true) : newK s (.cells m c e op) k = true := by
  subst hm
  exact newK_of hw (fun s' h1 h2 h3 => hk s' h1 h2 ⟨c, h3, hf, hc⟩)
theorem rowOfList {l : List Value} {k : BT Value → Bool} (hk : ∀ c, Full c l.length → (∀ j, c.get j = l[j]?) → k c = true) : addsK .leaf 0 l k = true := by
  refine addsK_of (n := 0) (by simp [Full]) (fun c hf hg => hk c (by simpa using hf) (fun j => ?_))
  rw [hg]
  by_cases h : 0 ≤ j ∧ j < 0 + l.length
  · rw [if_pos h]; simp
  · rw [if_neg h, List.getElem?_eq_none (by omega)]; rfl
end Go.Proofs.YtcpebhdbpkhhiaaGreat.Ev

/- Calls of which something is known beforehand; the evaluator's code and calls by what stands behind them. No program here. -/
namespace Go.Proofs.YtcpebhdbpkhhiaaGreat.Ev
open Go Go.RowKit
noncomputable section

/-- The evaluator, with calls of which something is known beforehand. -/
def oracX (P : Program) (C : Nat → (CF → Bool) → Bool) (X : FuncId → List Value → St → (Value → St → Bool) → Bool) (n : Nat) : OK :=
  @Nat.rec (fun _ => OK) { code := fun _ _ _ _ _ _ => false, call := X } (fun _ ih => { code := codeK P ih, call := fun f vs s k => X f vs s k || callK C ih f vs s k }) n
/-- What is known of calls is so in every world. -/
def KnownOk (P : Program) (X : FuncId → List Value → St → (Value → St → Bool) → Bool) : Prop :=
  ∀ {K : Kp} {B : Nat} {f : FuncId} {vs : List Value} {s : St} {k : Value → St → Bool}, X f vs s k = true → ∀ {m : Mp} {w : World} {us : List Value}, Emb P K B m s w → LR m vs us →
    (∀ w, (callFunc f ⟨us⟩).run P w = .ok (.enter f ⟨us⟩) w) ∧ CallsIn Fence.wide 0 P f ⟨us⟩ w (Ends P K B m w k)
theorem levelX {P : Program} {B : Nat} {C : Nat → (CF → Bool) → Bool} {X : FuncId → List Value → St → (Value → St → Bool) → Bool} (hC : ∀ f k, C f k = true → ∃ c, compF P f = some c ∧ k c = true) (hX : KnownOk P X) (n : Nat) : ∀ K, CodeOk P K B (oracX P C X n).code ∧ CallOk P K B (oracX P C X n) := by
  induction n with
  | zero =>
    intro K
    have hcode : CodeOk P K B (oracX P C X 0).code := { code := (by intro r c T D s k h; cases h), loop := (by intro r c T D s k h; cases h) }
    exact ⟨hcode, { call := (by intro f vs s k h m w us E hv; exact hX h E hv), round := (by intro l vs s k hk m w us x y hm E hv; exact round_ok hcode hk hm E hv) }⟩
  | succ n ih =>
    intro K
    have hcode : CodeOk P K B (oracX P C X (n + 1)).code := code_ok (ih K).2 (ih K).1 (draw_ok (fun K => (ih K).2) K) (range_ok (ih K).2)
    refine ⟨hcode, { call := ?_, round := (by intro l vs s k hk m w us x y hm E hv; exact round_ok hcode hk hm E hv) }⟩
    intro f vs s k hk m w us E hv
    have hk' : (X f vs s k || callK C (oracX P C X n) f vs s k) = true := hk
    rcases Bool.or_eq_true _ _ ▸ hk' with h | h
    · exact hX h E hv
    · exact call_ok hC (ih K).1 h E hv
/-- What the evaluator says of a call, the program does. -/
theorem open_ok {P : Program} {t : BT (Option CF)} (h : Holds P t 0 1) {X : FuncId → List Value → St → (Value → St → Bool) → Bool} (hX : KnownOk P X) {n : Nat} {f : FuncId} {vs us : List Value} {s : St} {m : Mp} {w : World} {k : Value → St → Bool}
    (hk : (oracX P (tabK t) X n).call f vs s k = true) (E : Emb P (fun _ => none) w.heap.size m s w) (hv : LR m vs us) :
    Calls P f ⟨us⟩ w (fun e w' => ∃ u, e = .returned u ∧ Below w.heap.size w w' ∧ ∃ v s' m', k v s' = true ∧ m.le m' ∧ Emb P (fun _ => none) w.heap.size m' s' w' ∧ VR m' v u) := by
  obtain ⟨_, hcall⟩ := (levelX (B := w.heap.size) (tab_ok h) hX n (fun _ => none)).2.call hk E hv
  refine (callsIn_wide (n := 0)).1 (CallsIn.mono hcall (fun e w' he => ?_))
  cases e with
  | returned u =>
    obtain ⟨v, s', m', h1, h2, h3, h4, h5⟩ := he
    exact ⟨u, rfl, h4, v, s', m', h1, h2, h3, h5⟩
  | panicked => exact he.elim
  | outgrown => exact he.elim

/-! ## What is known of temporaries -/
theorem beqF {a b : Nat} (h : a ≠ b) : Nat.beq a b = false := by
  cases hb : Nat.beq a b with
  | false => rfl
  | true => exact absurd (by simpa using hb) h
def look : List (Nat × Value) → Nat → Option Value
  | [], _ => none
  | (t, v) :: l, i => sel (Nat.beq t i) (some v) (look l i)
def Cov (nt : Nat) (T : BT Value) (env : List (Nat × Value)) : Prop := Full T nt ∧ ∀ t v, look env t = some v → T.get t = some v
def xv (env : List (Nat × Value)) : X → Option Value
  | .t i => look env i
  | .c v => some v
def xvs (env : List (Nat × Value)) : List X → Option (List Value)
  | [] => some []
  | x :: l => match xv env x, xvs env l with
    | some v, some l => some (v :: l)
    | _, _ => none
def xps (env : List (Nat × Value)) : List (Nat × Nat × X) → Option (List (Nat × Nat × Value))
  | [] => some []
  | (o, n, x) :: l => match xv env x, xps env l with
    | some v, some l => some ((o, n, v) :: l)
    | _, _ => none
def xo (env : List (Nat × Value)) : Option X → Option (Option Value)
  | none => some none
  | some x => match xv env x with
    | some v => some (some v)
    | none => none
theorem valE_of {nt : Nat} {T : BT Value} {env : List (Nat × Value)} (h : Cov nt T env) {x : X} {v : Value} {k : Value → Bool} (hx : xv env x = some v) (hk : k v = true) : valK T x k = true := by
  cases x with
  | t i => exact getK_of (h.2 i v hx) hk
  | c u => cases hx; exact hk
theorem valsE_of {nt : Nat} {T : BT Value} {env : List (Nat × Value)} (h : Cov nt T env) : ∀ {l : List X} {vs : List Value} {k : List Value → Bool}, xvs env l = some vs → k vs = true → valsK T l k = true
  | [], vs, k, hx, hk => by cases hx; exact hk
  | x :: l, vs, k, hx, hk => by
    simp only [xvs] at hx
    split at hx
    · rename_i v vs' h1 h2
      cases hx
      exact valE_of h (k := fun v => valsK T l (fun l => k (v :: l))) h1 (valsE_of h (k := fun l => k (v :: l)) h2 hk)
    · cases hx
theorem partsE_of {nt : Nat} {T : BT Value} {env : List (Nat × Value)} (h : Cov nt T env) : ∀ {l : List (Nat × Nat × X)} {vs : List (Nat × Nat × Value)} {k : List (Nat × Nat × Value) → Bool}, xps env l = some vs → k vs = true → partsK T l k = true
  | [], vs, k, hx, hk => by cases hx; exact hk
  | (o, n, x) :: l, vs, k, hx, hk => by
    simp only [xps] at hx
    split at hx
    · rename_i v vs' h1 h2
      cases hx
      exact valE_of h (k := fun v => partsK T l (fun l => k ((o, n, v) :: l))) h1 (partsE_of h (k := fun l => k ((o, n, v) :: l)) h2 hk)
    · cases hx
theorem valOE_of {nt : Nat} {T : BT Value} {env : List (Nat × Value)} (h : Cov nt T env) {x : Option X} {v : Option Value} {k : Option Value → Bool} (hx : xo env x = some v) (hk : k v = true) : valOK T x k = true := by
  cases x with
  | none => cases hx; exact hk
  | some x =>
    simp only [xo] at hx
    split at hx
    · rename_i u h1
      cases hx
      exact valE_of h (k := fun v => k (some v)) h1 hk
    · cases hx
def putE (d : Option Nat) (v : Value) (env : List (Nat × Value)) : List (Nat × Value) := match d with | some d => (d, v) :: env | none => env
def okD (d : Option Nat) (nt : Nat) : Bool := match d with | some d => Nat.blt d nt | none => true
theorem putTK_of {nt : Nat} {T : BT Value} {env : List (Nat × Value)} (h : Cov nt T env) {d : Option Nat} {v : Value} {k : BT Value → Bool} (hd : okD d nt = true) (hk : ∀ T', Cov nt T' (putE d v env) → k T' = true) : putTK T d v k = true := by
  cases d with
  | none => exact hk T h
  | some d =>
    have hd' : d < nt := by simpa [okD, Nat.blt_eq] using hd
    refine updK_of h.1 hd' (fun T' hf hg => hk T' ⟨hf, fun t u hu => ?_⟩)
    rw [hg]
    simp only [putE, look] at hu
    by_cases ht : t = d
    · subst ht
      rw [show Nat.beq t t = true from by rw [Nat.beq_eq]] at hu
      rw [if_pos rfl]; exact hu
    · rw [show Nat.beq d t = false from beqF (Ne.symm ht)] at hu
      rw [if_neg ht]; exact h.2 t u hu
/-- Less of the temporaries is enough. -/
def Less (env env' : List (Nat × Value)) : Prop := ∀ t v, look env' t = some v → look env t = some v
theorem Cov.less {nt : Nat} {T : BT Value} {env env' : List (Nat × Value)} (h : Cov nt T env) (hl : Less env env') : Cov nt T env' := ⟨h.1, fun t v hv => h.2 t v (hl t v hv)⟩
theorem Less.nil {env : List (Nat × Value)} : Less env [] := fun t v h => by cases h
theorem Less.cons {env env' : List (Nat × Value)} {t : Nat} {v : Value} (h1 : look env t = some v) (h : Less env env') : Less env ((t, v) :: env') := fun i u hu => by
  simp only [look] at hu
  by_cases hi : t = i
  · subst hi
    rw [show Nat.beq t t = true from by rw [Nat.beq_eq]] at hu
    rw [h1]; exact hu
  · rw [show Nat.beq t i = false from beqF hi] at hu
    exact h i u hu

/-! ## Code by what stands behind it -/
section
variable (P : Program) (C : Nat → (CF → Bool) → Bool) (X : FuncId → List Value → St → (Value → St → Bool) → Bool)
def CallQ (n : Nat) (f : FuncId) (vs : List Value) (s : St) (Q : Value → St → Prop) : Prop := ∀ k, (∀ v s', Q v s' → k v s' = true) → (oracX P C X n).call f vs s k = true
def RunE (n nt : Nat) (r : Option Nat) (c : CC) (env : List (Nat × Value)) (D : List Nat) (s : St) (Q : Out → List (Nat × Value) → List Nat → St → Prop) : Prop :=
  ∀ T, Cov nt T env → ∀ k, (∀ x env' T' D' s', Cov nt T' env' → Q x env' D' s' → k x T' D' s' = true) → (oracX P C X n).code r c T D s k = true
def ItE (n nt : Nat) (l : List Item) (env : List (Nat × Value)) (s : St) (Q : List (Nat × Value) → St → Prop) : Prop :=
  ∀ T, Cov nt T env → ∀ k, (∀ env' T' s', Cov nt T' env' → Q env' s' → k T' s' = true) → itemsK P (oracX P C X n) l T s k = true
def OpE (n nt : Nat) (c : COp) (env : List (Nat × Value)) (s : St) (R : Value → St → Prop) : Prop :=
  ∀ T, Cov nt T env → ∀ k, (∀ v s', R v s' → k v s' = true) → runAnyK P (oracX P C X n) T s c k = true
end
def thenQ (N : List (Nat × Value) → List Nat → St → Prop) (Q : Out → List (Nat × Value) → List Nat → St → Prop) : Out → List (Nat × Value) → List Nat → St → Prop
  | .normal, e, D, s => N e D s
  | .ret, e, D, s => Q .ret e D s
  | .exit i, e, D, s => Q (.exit i) e D s
  | .goto i, e, D, s => Q (.goto i) e D s
def blockQ (id : Nat) (Q : Out → List (Nat × Value) → List Nat → St → Prop) : Out → List (Nat × Value) → List Nat → St → Prop
  | .exit j, e, D, s => sel (Nat.beq j id) (Q .normal e D s) (Q (.exit j) e D s)
  | .normal, e, D, s => Q .normal e D s
  | .ret, e, D, s => Q .ret e D s
  | .goto i, e, D, s => Q (.goto i) e D s
def scopeQ (Q : Out → List (Nat × Value) → List Nat → St → Prop) : Out → List (Nat × Value) → List Nat → St → Prop
  | .goto _, _, _, _ => False
  | .normal, e, D, s => Q .normal e D s
  | .ret, e, D, s => Q .ret e D s
  | .exit i, e, D, s => Q (.exit i) e D s

section
variable {P : Program} {C : Nat → (CF → Bool) → Bool} {X : FuncId → List Value → St → (Value → St → Bool) → Bool} {n nt : Nat} {r : Option Nat} {env : List (Nat × Value)} {D : List Nat} {s : St} {Q : Out → List (Nat × Value) → List Nat → St → Prop}
theorem run_skip (h : Q .normal env D s) : RunE P C X (n + 1) nt r .skip env D s Q := fun T hT k hk => hk _ _ T D s hT h
theorem run_ret (h : Q .ret env D s) : RunE P C X (n + 1) nt r .ret env D s Q := fun T hT k hk => hk _ _ T D s hT h
theorem run_exit {i : Nat} (h : Q (.exit i) env D s) : RunE P C X (n + 1) nt r (.exit i) env D s Q := fun T hT k hk => hk _ _ T D s hT h
theorem run_goto {i : Nat} (h : Q (.goto i) env D s) : RunE P C X (n + 1) nt r (.goto i) env D s Q := fun T hT k hk => hk _ _ T D s hT h
theorem run_seq {a b : CC} (h : RunE P C X n nt r a env D s (thenQ (fun e D s => RunE P C X n nt r b e D s Q) Q)) : RunE P C X (n + 1) nt r (.seq a b) env D s Q := fun T hT k hk => by
  refine h T hT _ (fun x e T' D' s' hT' hq => ?_)
  cases x with
  | normal => exact hq T' hT' k hk
  | ret => exact hk _ _ T' D' s' hT' hq
  | exit i => exact hk _ _ T' D' s' hT' hq
  | goto i => exact hk _ _ T' D' s' hT' hq
theorem run_block {id : Nat} {b : CC} (h : RunE P C X n nt r b env D s (blockQ id Q)) : RunE P C X (n + 1) nt r (.block id b) env D s Q := fun T hT k hk => by
  refine h T hT _ (fun x e T' D' s' hT' hq => ?_)
  cases x with
  | normal => exact hk _ _ T' D' s' hT' hq
  | ret => exact hk _ _ T' D' s' hT' hq
  | goto i => exact hk _ _ T' D' s' hT' hq
  | exit j =>
    show ifB (Nat.beq j id) (k .normal T' D' s') (k (.exit j) T' D' s') = true
    have hq' : sel (Nat.beq j id) (Q .normal e D' s') (Q (.exit j) e D' s') := hq
    cases hb : Nat.beq j id with
    | true => rw [hb] at hq'; exact hk _ _ T' D' s' hT' hq'
    | false => rw [hb] at hq'; exact hk _ _ T' D' s' hT' hq'
theorem run_scope {b : CC} (h : RunE P C X n nt r b env D s (scopeQ Q)) : RunE P C X (n + 1) nt r (.scope b) env D s Q := fun T hT k hk => by
  refine h T hT _ (fun x e T' D' s' hT' hq => ?_)
  cases x with
  | normal => exact hk _ _ T' D' s' hT' hq
  | ret => exact hk _ _ T' D' s' hT' hq
  | exit i => exact hk _ _ T' D' s' hT' hq
  | goto i => exact hq.elim
theorem run_cond_t {x : Ev.X} {a b : CC} (hx : xv env x = some (.bool true)) (h : RunE P C X n nt r a env D s Q) : RunE P C X (n + 1) nt r (.cond x a b) env D s Q := fun T hT k hk =>
  valE_of hT (k := fun v => onBool v (fun t => @Bool.rec (fun _ => Bool) ((oracX P C X n).code r b T D s k) ((oracX P C X n).code r a T D s k) t)) hx (h T hT k hk)
theorem run_cond_f {x : Ev.X} {a b : CC} (hx : xv env x = some (.bool false)) (h : RunE P C X n nt r b env D s Q) : RunE P C X (n + 1) nt r (.cond x a b) env D s Q := fun T hT k hk =>
  valE_of hT (k := fun v => onBool v (fun t => @Bool.rec (fun _ => Bool) ((oracX P C X n).code r b T D s k) ((oracX P C X n).code r a T D s k) t)) hx (h T hT k hk)
theorem run_cond {x : Ev.X} {a b : CC} {c : Bool} (hx : xv env x = some (.bool c)) (h1 : c = true → RunE P C X n nt r a env D s Q) (h2 : c = false → RunE P C X n nt r b env D s Q) : RunE P C X (n + 1) nt r (.cond x a b) env D s Q := by
  cases c with
  | true => exact run_cond_t hx (h1 rfl)
  | false => exact run_cond_f hx (h2 rfl)
theorem run_items {l : List Item} (h : ItE P C X n nt l env s (fun e s => Q .normal e D s)) : RunE P C X (n + 1) nt r (.items l) env D s Q := fun T hT k hk =>
  h T hT (fun T s => k .normal T D s) (fun e T' s' hT' hq => hk _ _ T' D s' hT' hq)
theorem RunE.less {c : CC} {env' : List (Nat × Value)} (hl : Less env env') (h : RunE P C X n nt r c env' D s Q) : RunE P C X n nt r c env D s Q := fun T hT k hk => h T (hT.less hl) k hk
theorem RunE.mono {c : CC} {Q' : Out → List (Nat × Value) → List Nat → St → Prop} (h : RunE P C X n nt r c env D s Q') (hq : ∀ x e D s, Q' x e D s → Q x e D s) : RunE P C X n nt r c env D s Q := fun T hT k hk => h T hT k (fun x e T' D' s' hT' hq' => hk x e T' D' s' hT' (hq _ _ _ _ hq'))
/-- A loop, by what holds at its head; the number falls with each round. -/
theorem run_loop {b : CC} (I : Nat → List (Nat × Value) → St → Prop) (c K : Nat) (hb : ∀ n, K ≤ n → ∀ j e s, I j e s → RunE P C X (n + c) nt r b e D s (thenQ (fun e' D' s' => D' = D ∧ ∃ j' e2, j' < j ∧ Less e' e2 ∧ I j' e2 s') Q)) :
    ∀ {n j : Nat} {env : List (Nat × Value)} {s : St}, K ≤ n → I j env s → RunE P C X (n + j + c + 1) nt r (.loop b) env D s Q := by
  intro n j
  induction j using Nat.strongRecOn generalizing n with
  | ind j ih =>
    intro env s hK hI T hT k hk
    show (oracX P C X (n + j + c)).code r b T D s (fun x T D s => onOut x ((oracX P C X (n + j + c)).code r (.loop b) T D s k) (k x T D s) (fun _ => k x T D s) (fun _ => k x T D s)) = true
    refine hb (n + j) (by omega) j env s hI T hT _ (fun x e T' D' s' hT' hq => ?_)
    cases x with
    | normal =>
      obtain ⟨rfl, j', e2, hlt, hl, hI'⟩ := hq
      have e1 : n + j + c = (n + (j - j' - 1)) + j' + c + 1 := by omega
      show (oracX P C X (n + j + c)).code r (.loop b) T' D' s' k = true
      rw [e1]
      exact ih j' hlt (n := n + (j - j' - 1)) (by omega) hI' T' (hT'.less hl) k hk
    | ret => exact hk _ _ T' D' s' hT' hq
    | exit i => exact hk _ _ T' D' s' hT' hq
    | goto i => exact hk _ _ T' D' s' hT' hq
/-- The same, with fuel that is plenty. -/
theorem run_loop_in {b : CC} (I : Nat → List (Nat × Value) → St → Prop) (c K L : Nat) (hb : ∀ n, K ≤ n → ∀ j e s, I j e s → RunE P C X (n + c) nt r b e D s (thenQ (fun e' D' s' => D' = D ∧ ∃ j' e2, j' < j ∧ Less e' e2 ∧ I j' e2 s') Q))
    {j : Nat} {env2 : List (Nat × Value)} (hn : K + L ≤ n) (hj : j ≤ L) (hl : Less env env2) (hI : I j env2 s) : RunE P C X (n + c + 1) nt r (.loop b) env D s Q := by
  have := run_loop (P := P) (C := C) (X := X) (nt := nt) (r := r) (D := D) (Q := Q) I c K hb (n := n - j) (by omega) hI
  rw [show n - j + j + c + 1 = n + c + 1 by omega] at this
  exact this.less hl
end

/-! ## Calls -/
def argsE : Nat → List Value → List (Nat × Value)
  | _, [] => []
  | i, v :: l => (i, v) :: argsE (i + 1) l
theorem look_args {l : List Value} : ∀ {i t : Nat} {v : Value}, look (argsE i l) t = some v → i ≤ t ∧ t < i + l.length ∧ l[t - i]? = some v := by
  induction l with
  | nil => intro i t v h; cases h
  | cons u l ih =>
    intro i t v h
    simp only [argsE, look] at h
    by_cases ht : i = t
    · subst ht
      rw [show Nat.beq i i = true from by rw [Nat.beq_eq]] at h
      cases h
      exact ⟨Nat.le_refl _, by simp, by simp⟩
    · rw [show Nat.beq i t = false from beqF ht] at h
      obtain ⟨h1, h2, h3⟩ := ih h
      refine ⟨by omega, by simp; omega, ?_⟩
      obtain ⟨q, hq⟩ : ∃ q, t - i = q + 1 := ⟨t - i - 1, by omega⟩
      rw [hq, List.getElem?_cons_succ, ← h3]; congr 1; omega
theorem full_adds {α : Type} : ∀ {l : List α} {t : BT α} {n : Nat}, Full t n → Full (BT.adds t n l) (n + l.length) := by
  intro l
  induction l with
  | nil => intro t n h; exact h
  | cons v l ih =>
    intro t n h
    have key : ∀ {t : BT α} {n : Nat}, Full t n → Full (t.add n v) (n + 1) := by
      intro t
      induction t with
      | leaf =>
        intro n h
        have h0 : n = 0 := h
        subst h0
        exact ⟨by omega, by simp [Full], by simp [Full]⟩
      | node a l r il ir =>
        intro n h
        obtain ⟨h0, hl, hr⟩ := h
        simp only [BT.add]
        rw [if_neg h0]
        by_cases h1 : n % 2 = 1
        · rw [if_pos h1]
          exact ⟨by omega, by rw [show (n + 1) / 2 = n / 2 + 1 by omega]; exact il hl, by rw [show (n + 1 - 1) / 2 = (n - 1) / 2 by omega]; exact hr⟩
        · rw [if_neg h1]
          exact ⟨by omega, by rw [show (n + 1) / 2 = n / 2 by omega]; exact hl, by rw [show (n + 1 - 1) / 2 = n / 2 - 1 + 1 by omega]; exact ir (by rw [show n / 2 - 1 = (n - 1) / 2 by omega]; exact hr)⟩
    have := ih (key h)
    rw [show n + (v :: l).length = n + 1 + l.length by simp; omega]
    exact this
theorem full_full (n : Nat) : Full (full n) n := by
  have := full_adds (l := undefs n) (t := (.leaf : BT Value)) (n := 0) (by simp [Full])
  have hl : ∀ n, (undefs n).length = n := fun n => by induction n with
    | zero => rfl
    | succ n ih => simp [undefs, ih]
  rw [hl, Nat.zero_add] at this
  exact this
/-- The results of a call. -/
def ResE : List CRes → List (Nat × Value) → St → List Value → Prop
  | [], _, _, vs => vs = []
  | .tmp t :: l, env, s, vs => ∃ v vs', vs = v :: vs' ∧ look env t = some v ∧ ResE l env s vs'
  | .cell a none :: l, env, s, vs => ∃ b o v vs', vs = v :: vs' ∧ look env a = some (.pointer (some ⟨b, o, none⟩)) ∧ At s b o v ∧ ResE l env s vs'
  | .cell a (some n) :: l, env, s, vs => ∃ b o r vs', vs = .agg ⟨r⟩ :: vs' ∧ look env a = some (.pointer (some ⟨b, o, none⟩)) ∧ r.length = n ∧ n ≠ 0 ∧ Ats s b o r ∧ ResE l env s vs'
def one : List Value → Value
  | [v] => v
  | l => .tuple ⟨l⟩
theorem oneK_of {l : List Value} {k : Value → Bool} (h : k (one l) = true) : oneK l k = true := by
  rcases l with _ | ⟨v, _ | ⟨u, l⟩⟩ <;> exact h
theorem resK_of {nt : Nat} {T : BT Value} {env : List (Nat × Value)} {s : St} (hT : Cov nt T env) : ∀ {l : List CRes} {vs : List Value} {k : List Value → Bool}, ResE l env s vs → k vs = true → resK s T l k = true
  | [], vs, k, h, hk => by
    have : vs = [] := h
    subst this; exact hk
  | .tmp t :: l, vs, k, h, hk => by
    obtain ⟨v, vs', rfl, h1, h2⟩ := h
    exact getK_of (k := fun v => resK s T l (fun l => k (v :: l))) (hT.2 t v h1) (resK_of hT (k := fun l => k (v :: l)) h2 hk)
  | .cell a none :: l, vs, k, h, hk => by
    obtain ⟨b, o, v, vs', rfl, h1, h2, h3⟩ := h
    exact getK_of (k := fun a => ldK s none a (fun v => resK s T l (fun l => k (v :: l)))) (hT.2 a _ h1) (ldK_one h2 (resK_of hT (k := fun l => k (v :: l)) h3 hk))
  | .cell a (some n) :: l, vs, k, h, hk => by
    obtain ⟨b, o, r, vs', rfl, h1, h2, h0, h4, h3⟩ := h
    exact getK_of (k := fun a => ldK s (some n) a (fun v => resK s T l (fun l => k (v :: l)))) (hT.2 a _ h1) (ldK_agg h4 h2 h0 (resK_of hT (k := fun l => k (.agg ⟨r⟩ :: l)) h3 hk))
def EndQ (res : List CRes) (Q : Value → St → Prop) : Out → List (Nat × Value) → List Nat → St → Prop
  | .normal, e, D, s => D = [] ∧ ∃ vs, ResE res e s vs ∧ Q (one vs) s
  | .ret, e, D, s => D = [] ∧ ∃ vs, ResE res e s vs ∧ Q (one vs) s
  | _, _, _, _ => False
theorem call_enter {P : Program} {C : Nat → (CF → Bool) → Bool} {X : FuncId → List Value → St → (Value → St → Bool) → Bool} {n nt : Nat} {f : FuncId} {vs : List Value} {s : St} {Q : Value → St → Prop} {body : CC} {res : List CRes} (hC : ∀ k, k ⟨body, nt, res⟩ = true → C f k = true) (hl : vs.length ≤ nt)
    (h : RunE P C X n nt none body (argsE 0 vs) [] s (EndQ res Q)) : CallQ P C X (n + 1) f vs s Q := fun k hk => by
  have key : callK C (oracX P C X n) f vs s k = true := by
    refine hC _ ?_
    show ifB (Nat.ble (lenL vs) nt) (putsK (full nt) 0 vs (fun T => (oracX P C X n).code none body T [] s (fun x T D s => onOut x (endCallK res T D s k) (endCallK res T D s k) (fun _ => false) (fun _ => false)))) false = true
    rw [lenL_eq, show Nat.ble vs.length nt = true from by rw [Nat.ble_eq]; exact hl]
    refine putsK_of (full_full nt) (by omega) (fun T hf hg => h T ⟨hf, fun t v hv => ?_⟩ _ (fun x e T' D' s' hT' hq => ?_))
    · obtain ⟨h1, h2, h3⟩ := look_args hv
      rw [hg, if_pos ⟨h1, h2⟩]; exact h3
    · have fin : D' = [] ∧ (∃ vs, ResE res e s' vs ∧ Q (one vs) s') → endCallK res T' D' s' k = true := by
        rintro ⟨rfl, vs, h1, h2⟩
        exact resK_of hT' (k := fun l => oneK l (fun v => k v s')) h1 (oneK_of (hk _ _ h2))
      cases x with
      | normal => exact fin hq
      | ret => exact fin hq
      | exit i => exact hq.elim
      | goto i => exact hq.elim
  show (X f vs s k || callK C (oracX P C X n) f vs s k) = true
  rw [key, Bool.or_true]
theorem CallQ.mono {P : Program} {C : Nat → (CF → Bool) → Bool} {X : FuncId → List Value → St → (Value → St → Bool) → Bool} {n : Nat} {f : FuncId} {vs : List Value} {s : St} {Q Q' : Value → St → Prop} (h : CallQ P C X n f vs s Q') (hq : ∀ v s, Q' v s → Q v s) : CallQ P C X n f vs s Q := fun k hk => h k (fun v s' h' => hk v s' (hq v s' h'))
end
end Go.Proofs.YtcpebhdbpkhhiaaGreat.Ev

/- The evaluator's operations by what stands behind them. No program here. -/
namespace Go.Proofs.YtcpebhdbpkhhiaaGreat.Ev
open Go Go.RowKit
noncomputable section
section
variable {P : Program} {C : Nat → (CF → Bool) → Bool} {X : FuncId → List Value → St → (Value → St → Bool) → Bool} {n nt : Nat} {env : List (Nat × Value)} {s : St}

/-! ## Operations in a row -/
def wants (env : List (Nat × Value)) : Option (Nat × Bool) → Option Bool
  | none => some true
  | some (t, w) => match look env t with
    | some (.bool b) => some (match b, w with | true, true | false, false => true | _, _ => false)
    | some (.tuple _) => some false
    | _ => none
theorem wants_yes {T : BT Value} (hT : Cov nt T env) {g : Option (Nat × Bool)} {y z : Bool} (h : wants env g = some true) (hy : y = true) : wantsK T g y z = true := by
  subst hy
  rcases g with _ | ⟨t, w⟩
  · rfl
  · simp only [wants] at h
    split at h
    · rename_i b hb
      refine getK_of (k := fun v => onBoolZ v (fun b => @Bool.rec (fun _ => Bool) (@Bool.rec (fun _ => Bool) true z w) (@Bool.rec (fun _ => Bool) z true w) b) z) (hT.2 t _ hb) ?_
      cases b <;> cases w <;> first | rfl | (simp at h)
    · cases h
    · cases h
theorem wants_no {T : BT Value} (hT : Cov nt T env) {g : Option (Nat × Bool)} {y z : Bool} (h : wants env g = some false) (hz : z = true) : wantsK T g y z = true := by
  subst hz
  rcases g with _ | ⟨t, w⟩
  · simp [wants] at h
  · simp only [wants] at h
    split at h
    · rename_i b hb
      refine getK_of (k := fun v => onBoolZ v (fun b => @Bool.rec (fun _ => Bool) (@Bool.rec (fun _ => Bool) y true w) (@Bool.rec (fun _ => Bool) true y w) b) true) (hT.2 t _ hb) ?_
      cases b <;> cases w <;> first | rfl | (simp at h)
    · rename_i a ha
      exact getK_of (k := fun v => onBoolZ v (fun b => @Bool.rec (fun _ => Bool) (@Bool.rec (fun _ => Bool) y true w) (@Bool.rec (fun _ => Bool) true y w) b) true) (hT.2 t _ ha) rfl
    · cases h
variable {Q : List (Nat × Value) → St → Prop}
theorem it_nil (h : Q env s) : ItE P C X n nt [] env s Q := fun T hT k hk => hk env T s hT h
theorem it_op {g : Option (Nat × Bool)} {d : Nat} {c : COp} {l : List Item} (hg : wants env g = some true) (hd : okD (some d) nt = true) (h : OpE P C X n nt c env s (fun v s' => ItE P C X n nt l ((d, v) :: env) s' Q)) : ItE P C X n nt (⟨g, some d, c⟩ :: l) env s Q := fun T hT k hk => by
  show wantsK T g (runAnyK P (oracX P C X n) T s c (fun v s => putTK T (some d) v (fun T => itemsK P (oracX P C X n) l T s k))) (putTK T (some d) undef (fun T => itemsK P (oracX P C X n) l T s k)) = true
  exact wants_yes hT hg (h T hT _ (fun v s' hl => putTK_of hT hd (fun T' hT' => hl T' hT' k hk)))
theorem it_opn {g : Option (Nat × Bool)} {c : COp} {l : List Item} (hg : wants env g = some true) (h : OpE P C X n nt c env s (fun _ s' => ItE P C X n nt l env s' Q)) : ItE P C X n nt (⟨g, none, c⟩ :: l) env s Q := fun T hT k hk => by
  show wantsK T g (runAnyK P (oracX P C X n) T s c (fun v s => putTK T none v (fun T => itemsK P (oracX P C X n) l T s k))) (putTK T none undef (fun T => itemsK P (oracX P C X n) l T s k)) = true
  exact wants_yes hT hg (h T hT _ (fun v s' hl => hl T hT k hk))
theorem it_no {g : Option (Nat × Bool)} {d : Nat} {c : COp} {l : List Item} (hg : wants env g = some false) (hd : okD (some d) nt = true) (h : ItE P C X n nt l ((d, undef) :: env) s Q) : ItE P C X n nt (⟨g, some d, c⟩ :: l) env s Q := fun T hT k hk => by
  show wantsK T g (runAnyK P (oracX P C X n) T s c (fun v s => putTK T (some d) v (fun T => itemsK P (oracX P C X n) l T s k))) (putTK T (some d) undef (fun T => itemsK P (oracX P C X n) l T s k)) = true
  exact wants_no hT hg (putTK_of hT hd (fun T' hT' => h T' hT' k hk))
theorem it_non {g : Option (Nat × Bool)} {c : COp} {l : List Item} (hg : wants env g = some false) (h : ItE P C X n nt l env s Q) : ItE P C X n nt (⟨g, none, c⟩ :: l) env s Q := fun T hT k hk => by
  show wantsK T g (runAnyK P (oracX P C X n) T s c (fun v s => putTK T none v (fun T => itemsK P (oracX P C X n) l T s k))) (putTK T none undef (fun T => itemsK P (oracX P C X n) l T s k)) = true
  exact wants_no hT hg (h T hT k hk)
theorem ItE.less {l : List Item} {env' : List (Nat × Value)} (hl : Less env env') (h : ItE P C X n nt l env' s Q) : ItE P C X n nt l env s Q := fun T hT k hk => h T (hT.less hl) k hk
end

section
variable {P : Program} {C : Nat → (CF → Bool) → Bool} {X : FuncId → List Value → St → (Value → St → Bool) → Bool} {n nt : Nat} {env : List (Nat × Value)} {s : St} {R : Value → St → Prop}
/-! ## The operations -/
theorem o_mov {x : Ev.X} {v : Value} (hx : xv env x = some v) (h : R v s) : OpE P C X n nt (.mov x) env s R := fun T hT k hk => valE_of hT (k := vK s k) hx (hk _ _ h)
theorem o_pick_t {c a b : Ev.X} {v u : Value} (hc : xv env c = some (.bool true)) (ha : xv env a = some v) (hb : xv env b = some u) (h : R v s) : OpE P C X n nt (.pick c a b) env s R := fun T hT k hk =>
  valE_of hT (k := fun c => valK T a (fun a => valK T b (fun b => pickK c a b (vK s k)))) hc (valE_of hT (k := fun a => valK T b (fun b => pickK (.bool true) a b (vK s k))) ha (valE_of hT (k := fun b => pickK (.bool true) v b (vK s k)) hb (hk _ _ h)))
theorem o_pick_f {c a b : Ev.X} {v u : Value} (hc : xv env c = some (.bool false)) (ha : xv env a = some v) (hb : xv env b = some u) (h : R u s) : OpE P C X n nt (.pick c a b) env s R := fun T hT k hk =>
  valE_of hT (k := fun c => valK T a (fun a => valK T b (fun b => pickK c a b (vK s k)))) hc (valE_of hT (k := fun a => valK T b (fun b => pickK (.bool false) a b (vK s k))) ha (valE_of hT (k := fun b => pickK (.bool false) v b (vK s k)) hb (hk _ _ h)))

/-! Memory. -/
def fullB {α : Type} : BT α → Nat → Bool
  | .leaf, n => Nat.beq n 0
  | .node _ l r, n => !Nat.beq n 0 && fullB l (n / 2) && fullB r ((n - 1) / 2)
theorem fullB_eq {α : Type} : ∀ {t : BT α} {n : Nat}, fullB t n = true → Full t n
  | .leaf, n, h => by show n = 0; simpa [fullB] using h
  | .node _ l r, n, h => by
    simp only [fullB, Bool.and_eq_true, Bool.not_eq_true', beq0, decide_eq_false_iff_not] at h
    exact ⟨h.1.1, fullB_eq h.1.2, fullB_eq h.2⟩
def firstN {α : Type} (t : BT α) : Nat → Nat → Option (List α)
  | _, 0 => some []
  | i, n + 1 => match t.get i, firstN t (i + 1) n with
    | some v, some l => some (v :: l)
    | _, _ => none
theorem firstN_eq {α : Type} {t : BT α} : ∀ {n i : Nat} {l : List α}, firstN t i n = some l → l.length = n ∧ ∀ j, j < n → t.get (i + j) = l[j]?
  | 0, i, l, h => by cases h; exact ⟨rfl, fun j hj => absurd hj (Nat.not_lt_zero j)⟩
  | n + 1, i, l, h => by
    simp only [firstN] at h
    split at h
    · rename_i v l' h1 h2
      cases h
      obtain ⟨h3, h4⟩ := firstN_eq h2
      refine ⟨by simp [h3], fun j hj => ?_⟩
      cases j with
      | zero => exact h1
      | succ j => rw [List.getElem?_cons_succ, ← h4 j (by omega)]; congr 1; omega
    · cases h
theorem o_new {e m : Nat} {z : BT Value} {l : List Value} (hw : Wf s) (hf : fullB z m = true) (hz : firstN z 0 m = some l) (h : ∀ s', Ext s s' → s'.n = s.n + 1 → Obj s' s.n e false l → R (ptr s.n) s') : OpE P C X n nt (.new e m z) env s R := fun T hT k hk => by
  show nOf s (fun g => newK s (.cells m z e false) (k (ptr g))) = true
  obtain ⟨h1, h2⟩ := firstN_eq hz
  have hf' := fullB_eq hf
  refine nOf_of (newRow_of h1.symm hw (by rw [h1]; exact hf') (fun j => ?_) (fun s' a b c => hk _ _ (h s' a b c)))
  rcases Nat.lt_or_ge j m with hj | hj
  · have := h2 j hj; simpa using this
  · rw [hf'.none j hj, List.getElem?_eq_none (by omega)]
theorem o_box {e : Nat} {x : Ev.X} {v : Value} {l : List Value} (hw : Wf s) (hx : xv env x = some v) (hc : v.cells = ⟨l⟩) (h1 : allOne l = true) (h : ∀ s', Ext s s' → s'.n = s.n + 1 → Obj s' s.n e false l → R (ptr s.n) s') : OpE P C X n nt (.box e x) env s R := fun T hT k hk => by
  refine valE_of hT (k := fun v => boxK s e v k) hx ?_
  unfold boxK
  refine nOf_of ?_
  rw [forceV_eq, hc]
  show ifB (allOne l) (forceN (lenL l) (fun m => addsK .leaf 0 l (fun c => newK s (.cells m c e false) (k (ptr s.n))))) false = true
  rw [h1, forceN_eq]
  exact rowOfList (fun c hf hg => newRow_of (lenL_eq l) hw hf hg (fun s' a b c => hk _ _ (h s' a b c)))
theorem o_ld {a : Ev.X} {b off : Nat} {v : Value} (ha : xv env a = some (.pointer (some ⟨b, off, none⟩))) (hv : At s b off v) (h : R v s) : OpE P C X n nt (.ld a none) env s R := fun T hT k hk =>
  valE_of hT (k := fun a => ldK s none a (vK s k)) ha (ldK_one hv (hk _ _ h))
theorem o_lda {a : Ev.X} {b off m : Nat} {l : List Value} (ha : xv env a = some (.pointer (some ⟨b, off, none⟩))) (hv : Ats s b off l) (hm : l.length = m) (h0 : m ≠ 0) (h : R (.agg ⟨l⟩) s) : OpE P C X n nt (.ld a (some m)) env s R := fun T hT k hk =>
  valE_of hT (k := fun a => ldK s (some m) a (vK s k)) ha (ldK_agg hv hm h0 (hk _ _ h))
theorem o_st {a x : Ev.X} {b off e : Nat} {op : Bool} {v : Value} {l : List Value} (hw : Wf s) (ha : xv env a = some (.pointer (some ⟨b, off, none⟩))) (hx : xv env x = some v) (ho : Obj s b e op l) (hlt : off < l.length) (h1 : oneCell v = true)
    (h : ∀ s', Mod s s' [b] → s'.n = s.n → Obj s' b e op (l.set off v) → R undef s') : OpE P C X n nt (.st a x none) env s R := fun T hT k hk =>
  valE_of hT (k := fun a => valK T x (fun x => stK s none x a (k undef))) ha (valE_of hT (k := fun x => stK s none x _ (k undef)) hx (stK_one hw ho hlt h1 (fun s' a b c => hk _ _ (h s' a b c))))
theorem o_sta {a x : Ev.X} {b off e m : Nat} {op : Bool} {r l : List Value} (hw : Wf s) (ha : xv env a = some (.pointer (some ⟨b, off, none⟩))) (hx : xv env x = some (.agg ⟨r⟩)) (ho : Obj s b e op l) (hlt : off + m ≤ l.length) (hm : r.length = m) (h1 : allOne r = true)
    (h : ∀ s', Mod s s' [b] → s'.n = s.n → Obj s' b e op (over l off r) → R undef s') : OpE P C X n nt (.st a x (some m)) env s R := fun T hT k hk =>
  valE_of hT (k := fun a => valK T x (fun x => stK s (some m) x a (k undef))) ha (valE_of hT (k := fun x => stK s (some m) x _ (k undef)) hx (stK_agg hw ho hlt hm h1 (fun s' a b c => hk _ _ (h s' a b c))))
theorem eqV_refl_one {v : Value} (h : eqV v v = true) : eqV v v = true := h
theorem o_again {a : Ev.X} {d b off : Nat} {v : Value} (ha : xv env a = some (.pointer (some ⟨b, off, none⟩))) (hd : look env d = some v) (hv : At s b off v) (he : eqV v v = true) (h : R undef s) : OpE P C X n nt (.again a none d) env s R := fun T hT k hk =>
  valE_of hT (k := fun a => valK T (.t d) (fun d => againK s none a d k)) ha (valE_of (x := .t d) hT (k := fun d => againK s none _ d k) hd (ldK_one (k := fun u => ifB (eqV u v) (k undef s) false) hv (by show ifB (eqV v v) (k undef s) false = true; rw [he]; exact hk _ _ h)))
theorem o_againa {a : Ev.X} {d b off m : Nat} {l : List Value} (ha : xv env a = some (.pointer (some ⟨b, off, none⟩))) (hd : look env d = some (.agg ⟨l⟩)) (hv : Ats s b off l) (hm : l.length = m) (h0 : m ≠ 0) (he : eqL l l = true) (h : R undef s) : OpE P C X n nt (.again a (some m) d) env s R := fun T hT k hk =>
  valE_of hT (k := fun a => valK T (.t d) (fun d => againK s (some m) a d k)) ha (valE_of (x := .t d) hT (k := fun d => againK s (some m) _ d k) hd (ldK_agg (k := fun u => ifB (eqV u (.agg ⟨l⟩)) (k undef s) false) hv hm h0 (by show ifB (eqL l l) (k undef s) false = true; rw [he]; exact hk _ _ h)))
theorem o_fa {x : Ev.X} {b o off : Nat} (hx : xv env x = some (.pointer (some ⟨b, o, none⟩))) (h : R (.pointer (some ⟨b, o + off, none⟩)) s) : OpE P C X n nt (.fa x off) env s R := fun T hT k hk =>
  valE_of hT (k := fun x => faK x off (vK s k)) hx (by show forceN (Nat.add o off) (fun o => vK s k (.pointer (some ⟨b, o, none⟩))) = true; rw [forceN_eq]; exact hk _ _ h)
theorem o_ia {x i : Ev.X} {b o m c j size : Nat} {ik : IntKind} {z : Int} (hx : xv env x = some (.slice (some ⟨b, o, none⟩) m c)) (hi : xv env i = some (.int ik z)) (hz : z = (j : Int)) (hj : j < m) (h : R (.pointer (some ⟨b, o + j * size, none⟩)) s) : OpE P C X n nt (.ia x i size) env s R := fun T hT k hk => by
  subst hz
  refine valE_of hT (k := fun x => valK T i (fun i => iaK x i size (vK s k))) hx (valE_of hT (k := fun i => iaK _ i size (vK s k)) hi ?_)
  show ifB (Nat.blt j m) (forceN (Nat.add o (Nat.mul j size)) (fun o => vK s k (.pointer (some ⟨b, o, none⟩)))) false = true
  rw [show Nat.blt j m = true from by rw [Nat.blt_eq]; exact hj, forceN_eq]
  exact hk _ _ h
theorem o_iaa {x i : Ev.X} {b o m j size : Nat} {ik : IntKind} {z : Int} (hx : xv env x = some (.pointer (some ⟨b, o, none⟩))) (hi : xv env i = some (.int ik z)) (hz : z = (j : Int)) (hj : j < m) (h : R (.pointer (some ⟨b, o + j * size, none⟩)) s) : OpE P C X n nt (.iaa x i m size) env s R := fun T hT k hk => by
  subst hz
  refine valE_of hT (k := fun x => valK T i (fun i => iaaK x i m size (vK s k))) hx (valE_of hT (k := fun i => iaaK _ i m size (vK s k)) hi ?_)
  show ifB (Nat.blt j m) (forceN (Nat.add o (Nat.mul j size)) (fun o => vK s k (.pointer (some ⟨b, o, none⟩)))) false = true
  rw [show Nat.blt j m = true from by rw [Nat.blt_eq]; exact hj, forceN_eq]
  exact hk _ _ h
theorem o_nilc {x : Ev.X} {a : Addr} (hx : xv env x = some (.pointer (some a))) (h : R (.pointer (some a)) s) : OpE P C X n nt (.nilc x) env s R := fun T hT k hk => valE_of hT (k := fun v => nilcK v (vK s k)) hx (hk _ _ h)
theorem o_nilf {x : Ev.X} {f : Nat} {p c : Array Value} (hx : xv env x = some (.func (.func f) p c)) (h : R (.func (.func f) p c) s) : OpE P C X n nt (.nilc x) env s R := fun T hT k hk => valE_of hT (k := fun v => nilcK v (vK s k)) hx (hk _ _ h)
theorem o_len {x : Ev.X} {a : Option Addr} {m c : Nat} (hx : xv env x = some (.slice a m c)) (ha : ∀ b, a = some b → b.spot = none) (h : R (.int .i64 (m : Int)) s) : OpE P C X n nt (.len x) env s R := fun T hT k hk => by
  refine valE_of hT (k := fun x => onSlice x (fun n _ => k (.int .i64 (.ofNat n)) s) (fun _ _ n _ => k (.int .i64 (.ofNat n)) s)) hx ?_
  rcases a with _ | ⟨b, o, sp⟩
  · exact hk _ _ h
  · have : sp = none := ha _ rfl
    subst this
    exact hk _ _ h
theorem o_ext {x : Ev.X} {l : List Value} {i : Nat} {v : Value} (hx : xv env x = some (.tuple ⟨l⟩)) (hi : l[i]? = some v) (h : R v s) : OpE P C X n nt (.ext x i) env s R := fun T hT k hk => by
  refine valE_of hT (k := fun x => onTuple x (fun l => nthK l i (vK s k))) hx ?_
  have key : ∀ {l : List Value} {i : Nat}, l[i]? = some v → nthK l i (vK s k) = true := by
    intro l
    induction l with
    | nil => intro i h; simp at h
    | cons u l ih =>
      intro i hi
      cases i with
      | zero => simp at hi; subst hi; exact hk _ _ h
      | succ i => exact ih (by simpa using hi)
  exact key hi
/-- A part of a struct. -/
def partL (l : List Value) (off : Nat) : Option Nat → Option Value
  | none => l[off]?
  | some m => sel (Nat.ble (off + m) l.length) (some (.agg ⟨(l.drop off).take m⟩)) none
theorem nthK_of {v : Value} {k : Value → Bool} (hk : k v = true) : ∀ {l : List Value} {i : Nat}, l[i]? = some v → nthK l i k = true := by
  intro l
  induction l with
  | nil => intro i h; simp at h
  | cons u l ih =>
    intro i hi
    cases i with
    | zero => simp at hi; subst hi; exact hk
    | succ i => exact ih (by simpa using hi)
theorem takeK_of : ∀ {l : List Value} {i m : Nat} {k : List Value → Bool}, i + m ≤ l.length → k ((l.drop i).take m) = true → takeK l i m k = true := by
  intro l
  induction l with
  | nil =>
    intro i m k h hk
    have : m = 0 := by simp at h; omega
    subst this
    rw [List.drop_nil, List.take_nil] at hk; exact hk
  | cons v l ih =>
    intro i m k h hk
    cases i with
    | zero => cases m with
      | zero => exact hk
      | succ m => exact ih (i := 0) (m := m) (k := fun l => k (v :: l)) (by simp at h ⊢; omega) (by simpa using hk)
    | succ i => exact ih (i := i) (m := m) (k := k) (by simp at h ⊢; omega) (by simpa using hk)
theorem partK_of {l : List Value} {off : Nat} {m : Option Nat} {v : Value} {k : Value → Bool} (hv : partL l off m = some v) (hk : k v = true) : partK l off m k = true := by
  cases m with
  | none => exact nthK_of hk hv
  | some m =>
    simp only [partL] at hv
    obtain ⟨h1, h2⟩ := sel_inv hv
    cases h2
    exact takeK_of (k := fun l => k (.agg ⟨l⟩)) (by simpa using h1) hk
theorem o_fld {x : Ev.X} {l : List Value} {off : Nat} {m : Option Nat} {v : Value} (hx : xv env x = some (.agg ⟨l⟩)) (hv : partL l off m = some v) (h : R v s) : OpE P C X n nt (.fld x off m) env s R := fun T hT k hk =>
  valE_of hT (k := fun x => onAgg x (fun l => partK l off m (vK s k))) hx (partK_of hv (hk _ _ h))
theorem o_ix {x i : Ev.X} {l : List Value} {len size j : Nat} {m : Option Nat} {v : Value} {ik : IntKind} {z : Int} (hx : xv env x = some (.agg ⟨l⟩)) (hi : xv env i = some (.int ik z)) (hz : z = (j : Int)) (hj : j < len) (hv : partL l (j * size) m = some v) (h : R v s) : OpE P C X n nt (.ix x i len size m) env s R := fun T hT k hk => by
  subst hz
  refine valE_of hT (k := fun x => valK T i (fun i => ixK x i len size m (vK s k))) hx (valE_of hT (k := fun i => ixK _ i len size m (vK s k)) hi ?_)
  show ifB (Nat.blt j len) (partK l (Nat.mul j size) m (vK s k)) false = true
  rw [show Nat.blt j len = true from by rw [Nat.blt_eq]; exact hj]
  exact partK_of hv (hk _ _ h)
theorem o_fn {f : Nat} {p c : List Ev.X} {ps cs : List Value} (hp : xvs env p = some ps) (hc : xvs env c = some cs) (h : R (.func (.func f) ⟨ps⟩ ⟨cs⟩) s) : OpE P C X n nt (.fn f p c) env s R := fun T hT k hk =>
  valsE_of hT (k := fun p => valsK T c (fun c => k (.func (.func f) ⟨p⟩ ⟨c⟩) s)) hp (valsE_of hT (k := fun c => k (.func (.func f) ⟨ps⟩ ⟨c⟩) s) hc (hk _ _ h))

/-! Numbers. -/
theorem o_bin {b : BinOp} {t d : Nat} {x y : Ev.X} {u v r : Value} (hx : xv env x = some u) (hy : xv env y = some v) (hr : evBin P b t d u v = some r) (h : R r s) : OpE P C X n nt (.bin b t d x y) env s R := fun T hT k hk => by
  refine valE_of hT (k := fun x => valK T y (fun y => binK P b t d x y (vK s k))) hx (valE_of hT (k := fun y => binK P b t d u y (vK s k)) hy ?_)
  unfold binK
  rw [hr]
  show forceV r _ = true
  rw [forceV_eq]; exact hk _ _ h
theorem kindEq_refl (k : IntKind) : kindEq k k = true := by cases k <;> rfl
theorem evBin_int {b : BinOp} {t d : Nat} {k : IntKind} {m q : Int} {r : Value} (h : intBin b k m q = some r) : evBin P b t d (.int k m) (.int k q) = some r := by
  simp only [evBin, kindEq_refl, h]; rfl
theorem o_add {t d : Nat} {x y : Ev.X} {a b : Int} (hx : xv env x = some (.int .i64 a)) (hy : xv env y = some (.int .i64 b)) (hr : -9223372036854775808 ≤ a + b ∧ a + b < 9223372036854775808) (h : R (.int .i64 (a + b)) s) : OpE P C X n nt (.bin .add t d x y) env s R :=
  o_bin hx hy (evBin_int (by simp only [intBin, wrapq_eq]; rw [IntWalk.i64_in _ (by omega)])) h
theorem o_sub {t d : Nat} {x y : Ev.X} {a b : Int} (hx : xv env x = some (.int .i64 a)) (hy : xv env y = some (.int .i64 b)) (hr : -9223372036854775808 ≤ a - b ∧ a - b < 9223372036854775808) (h : R (.int .i64 (a - b)) s) : OpE P C X n nt (.bin .sub t d x y) env s R :=
  o_bin hx hy (evBin_int (by simp only [intBin, wrapq_eq]; rw [IntWalk.i64_in _ (by omega)])) h
theorem o_mul {t d : Nat} {x y : Ev.X} {a b : Int} (hx : xv env x = some (.int .i64 a)) (hy : xv env y = some (.int .i64 b)) (hr : -9223372036854775808 ≤ a * b ∧ a * b < 9223372036854775808) (h : R (.int .i64 (a * b)) s) : OpE P C X n nt (.bin .mul t d x y) env s R :=
  o_bin hx hy (evBin_int (by simp only [intBin, wrapq_eq]; rw [IntWalk.i64_in _ (by omega)])) h
theorem o_quo {t d : Nat} {x y : Ev.X} {a b : Int} (hx : xv env x = some (.int .i64 a)) (hy : xv env y = some (.int .i64 b)) (h0 : b ≠ 0) (hr : -9223372036854775808 ≤ a.tdiv b ∧ a.tdiv b < 9223372036854775808) (h : R (.int .i64 (a.tdiv b)) s) : OpE P C X n nt (.bin .quo t d x y) env s R :=
  o_bin hx hy (evBin_int (by simp only [intBin, wrapq_eq, intEq_eq]; rw [IntWalk.i64_in _ (by omega), show (b == 0) = false from by simpa using h0]; rfl)) h
theorem o_rem {t d : Nat} {x y : Ev.X} {a b : Int} (hx : xv env x = some (.int .i64 a)) (hy : xv env y = some (.int .i64 b)) (h0 : b ≠ 0) (h : R (.int .i64 (a.tmod b)) s) : OpE P C X n nt (.bin .rem t d x y) env s R :=
  o_bin hx hy (evBin_int (by simp only [intBin, intEq_eq]; rw [show (b == 0) = false from by simpa using h0]; rfl)) h
theorem o_lss {t d : Nat} {x y : Ev.X} {k : IntKind} {a b : Int} (hx : xv env x = some (.int k a)) (hy : xv env y = some (.int k b)) (h1 : a < b → R (.bool true) s) (h2 : ¬ a < b → R (.bool false) s) : OpE P C X n nt (.bin .lss t d x y) env s R := by
  by_cases h : a < b
  · exact o_bin hx hy (evBin_int (by simp only [intBin, intLt_eq]; rw [decide_eq_true h])) (h1 h)
  · exact o_bin hx hy (evBin_int (by simp only [intBin, intLt_eq]; rw [decide_eq_false h])) (h2 h)
theorem o_gtr {t d : Nat} {x y : Ev.X} {k : IntKind} {a b : Int} (hx : xv env x = some (.int k a)) (hy : xv env y = some (.int k b)) (h1 : b < a → R (.bool true) s) (h2 : ¬ b < a → R (.bool false) s) : OpE P C X n nt (.bin .gtr t d x y) env s R := by
  by_cases h : b < a
  · exact o_bin hx hy (evBin_int (by simp only [intBin, intLt_eq]; rw [decide_eq_true h])) (h1 h)
  · exact o_bin hx hy (evBin_int (by simp only [intBin, intLt_eq]; rw [decide_eq_false h])) (h2 h)
theorem o_leq {t d : Nat} {x y : Ev.X} {k : IntKind} {a b : Int} (hx : xv env x = some (.int k a)) (hy : xv env y = some (.int k b)) (h1 : a ≤ b → R (.bool true) s) (h2 : ¬ a ≤ b → R (.bool false) s) : OpE P C X n nt (.bin .leq t d x y) env s R := by
  by_cases h : a ≤ b
  · exact o_bin hx hy (evBin_int (by simp only [intBin, intLt_eq]; rw [decide_eq_false (by omega)]; rfl)) (h1 h)
  · exact o_bin hx hy (evBin_int (by simp only [intBin, intLt_eq]; rw [decide_eq_true (by omega)]; rfl)) (h2 h)
theorem o_geq {t d : Nat} {x y : Ev.X} {k : IntKind} {a b : Int} (hx : xv env x = some (.int k a)) (hy : xv env y = some (.int k b)) (h1 : b ≤ a → R (.bool true) s) (h2 : ¬ b ≤ a → R (.bool false) s) : OpE P C X n nt (.bin .geq t d x y) env s R := by
  by_cases h : b ≤ a
  · exact o_bin hx hy (evBin_int (by simp only [intBin, intLt_eq]; rw [decide_eq_false (by omega)]; rfl)) (h1 h)
  · exact o_bin hx hy (evBin_int (by simp only [intBin, intLt_eq]; rw [decide_eq_true (by omega)]; rfl)) (h2 h)
theorem o_eql {t d : Nat} {x y : Ev.X} {k : IntKind} {a b : Int} (hx : xv env x = some (.int k a)) (hy : xv env y = some (.int k b)) (h1 : a = b → R (.bool true) s) (h2 : ¬ a = b → R (.bool false) s) : OpE P C X n nt (.bin .eql t d x y) env s R := by
  by_cases h : a = b
  · exact o_bin hx hy (evBin_int (by simp only [intBin, intEq_eq]; rw [beq_iff_eq.2 h])) (h1 h)
  · exact o_bin hx hy (evBin_int (by simp only [intBin, intEq_eq]; rw [beq_eq_false_iff_ne.2 h])) (h2 h)
theorem o_neq {t d : Nat} {x y : Ev.X} {k : IntKind} {a b : Int} (hx : xv env x = some (.int k a)) (hy : xv env y = some (.int k b)) (h1 : ¬ a = b → R (.bool true) s) (h2 : a = b → R (.bool false) s) : OpE P C X n nt (.bin .neq t d x y) env s R := by
  by_cases h : a = b
  · exact o_bin hx hy (evBin_int (by simp only [intBin, intEq_eq]; rw [beq_iff_eq.2 h]; rfl)) (h2 h)
  · exact o_bin hx hy (evBin_int (by simp only [intBin, intEq_eq]; rw [beq_eq_false_iff_ne.2 h]; rfl)) (h1 h)
theorem oK_of {r : Option Value} {v : Value} {k : Value → St → Bool} (hr : r = some v) (hk : k v s = true) : oK s k r = true := by
  subst hr
  exact oK_some hk
theorem o_un {u : UnOp} {x : Ev.X} {v r : Value} (hx : xv env x = some v) (hr : ev1 P (Op.unary u) v = some r) (h : R r s) : OpE P C X n nt (.un u x) env s R := fun T hT k hk =>
  valE_of hT (k := fun x => oK s k (ev1 P (Op.unary u) x)) hx (oK_of hr (hk _ _ h))
theorem o_conv {a b : Nat} {x : Ev.X} {v r : Value} (hx : xv env x = some v) (hr : ev1 P (convert a b) v = some r) (h : R r s) : OpE P C X n nt (.conv a b x) env s R := fun T hT k hk =>
  valE_of hT (k := fun x => oK s k (ev1 P (convert a b) x)) hx (oK_of hr (hk _ _ h))
theorem o_bi {b : Builtin} {ts : Array Nat} {t : Nat} {l : List Ev.X} {vs : List Value} {r : Value} (hx : xvs env l = some vs) (hr : evBi P b ts t vs = some r) (h : R r s) : OpE P C X n nt (.bi b ts t l) env s R := fun T hT k hk =>
  valsE_of hT (k := fun l => oK s k (evBi P b ts t l)) hx (oK_of hr (hk _ _ h))

/-! Calls. -/
theorem o_call {f : Ev.X} {l : List Ev.X} {g : Nat} {p c vs : List Value} (hf : xv env f = some (.func (.func g) ⟨p⟩ ⟨c⟩)) (hl : xvs env l = some vs) (h : CallQ P C X n g (p ++ (vs ++ c)) s R) : OpE P C X n nt (.call f l) env s R := fun T hT k hk => by
  show valK T f (fun f => valsK T l (fun l => callVK (oracX P C X n) s l f k)) = true
  refine valE_of hT (k := fun f => valsK T l (fun l => callVK (oracX P C X n) s l f k)) hf (valsE_of hT (k := fun l => callVK (oracX P C X n) s l (.func (.func g) ⟨p⟩ ⟨c⟩) k) hl ?_)
  show (oracX P C X n).call g (appL p (appL vs c)) s k = true
  rw [appL_eq, appL_eq]
  exact h k hk
end
end
end Go.Proofs.YtcpebhdbpkhhiaaGreat.Ev
