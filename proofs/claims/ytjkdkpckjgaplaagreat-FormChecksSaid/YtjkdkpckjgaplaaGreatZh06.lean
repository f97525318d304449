import Derived.Test.YtjkdkpckjgaplaaGreatZh05
import Derived.IntWalk
set_option linter.unusedVariables false
set_option linter.unusedSimpArgs false
namespace Go.Proofs.YtjkdkpckjgaplaaGreat.Ev
open Go Go.RowKit
/-! ## Trees -/
def dC {α : Type} : BT α -> Nat -> Prop
 | .leaf, n => n = 0
 | .node _ l r, n => n ≠ 0 /\ dC l (n / 2) /\ dC r ((n - 1) / 2)
theorem dC.some {α : Type} : ∀ {t : BT α} {n : Nat}, dC t n -> ∀ j, j < n -> (t.get j).isSome = true
 | .leaf, n, h, j, hj => by have : n = 0 := h; omega
 | .node a l r, n, ⟨h0, h1, h2⟩, j, hj => by
  simp only [BT.get];by_cases hj0 : j = 0
  ·simp [hj0]
  ·rw [if_neg hj0]
   by_cases hj1 : j % 2 = 1
   ·rw [if_pos hj1]; exact h1.some _ oM
   ·rw [if_neg hj1]; exact h2.some _ oM
theorem dC.none {α : Type} : ∀ {t : BT α} {n : Nat}, dC t n -> ∀ j, n <= j -> t.get j = none
 | .leaf, n, h, j, hj => rfl
 | .node a l r, n, ⟨h0, h1, h2⟩, j, hj => by
  simp only [BT.get];rw [if_neg oM];by_cases hj1 : j % 2 = 1
  ·rw [if_pos hj1]; exact h1.none _ oM
  ·rw [if_neg hj1]; exact h2.none _ oM
theorem dC.lt {α : Type} {t : BT α} {n j : Nat} {v : α} (h : dC t n) (hv : t.get j = Option.some v) : j < n := by
 rcases Nat.lt_or_ge j n with h1 | h1
 ·exact h1
 ·rw [h.none j h1] at hv; cases hv
theorem vL {α : Type} {v : α} : ∀ {t : BT α} {n m : Nat} {k : BT α -> Bool}, dC t m -> n < m -> (∀ t', dC t' m -> (∀ j, t'.get j = if j = n then some v else t.get j) -> k t' = true) -> lM t n v k = true := by
 intro t
 induction t with
 | leaf => intro n m k h hn _; have : m = 0 := h; omega
 | node a l r il ir =>
  intro n m k h hn hk;obtain ⟨h0', hl, hr⟩ := h;show @Bool.rec (fun _ => Bool) (@Bool.rec (fun _ => Bool) (lM r (Nat.pred (Nat.div n 2)) v (fun r => k (.node a l r))) (lM l (Nat.div n 2) v (fun l => k (.node a l r))) (Nat.beq (Nat.mod n 2) 1)) (k (.node v l r)) (Nat.beq n 0) = true;rw [Bf, par];by_cases h0 : n = 0
  ·subst h0
   refine hk _ ⟨h0', hl, hr⟩ (fun j => ?_);by_cases hj : j = 0
   ·simp [hj, BT.get]
   ·simp [hj, BT.get]
  ·rw [decide_eq_false h0]
   by_cases h1 : n % 2 = 1
   ·rw [decide_eq_true h1]
    refine il hl (by show n / 2 < m / 2; omega) (fun t' hf hg => hk _ ⟨h0', hf, hr⟩ (fun j => ?_));simp only [BT.get];by_cases hj : j = 0
    ·simp [hj, Ne.symm h0]
    ·by_cases hj1 : j % 2 = 1
     ·rw [if_neg hj, if_pos hj1, hg]
      by_cases he : j = n
      ·subst he; simp; intro hh; exact absurd rfl hh
      ·have : j / 2 ≠ Nat.div n 2 := by show j / 2 ≠ n / 2; omega
       simp [this, he, hj, hj1]
     ·rw [if_neg hj, if_neg hj1]
      have : j ≠ n := fun e => hj1 (e ▸ h1)
      simp [this, hj, hj1]
   ·rw [decide_eq_false h1]
    refine ir hr (by show n / 2 - 1 < (m - 1) / 2; omega) (fun t' hf hg => hk _ ⟨h0', hl, hf⟩ (fun j => ?_));simp only [BT.get];by_cases hj : j = 0
    ·simp [hj, Ne.symm h0]
    ·by_cases hj1 : j % 2 = 1
     ·rw [if_neg hj, if_pos hj1]
      have : j ≠ n := fun e => h1 (e ▸ hj1)
      simp [this, hj, hj1]
     ·rw [if_neg hj, if_neg hj1, hg]
      by_cases he : j = n
      ·subst he; simp; intro hh; exact absurd rfl hh
      ·have : ¬ (j / 2 - 1 = Nat.pred (Nat.div n 2)) := by
        show ¬ (j / 2 - 1 = n / 2 - 1); omega
       rw [if_neg this, if_neg he, if_neg hj, if_neg hj1]
theorem DB {α : Type} {v : α} : ∀ {t : BT α} {n : Nat} {k : BT α -> Bool}, dC t n -> (∀ t', dC t' (n + 1) -> (∀ j, t'.get j = if j = n then some v else t.get j) -> k t' = true) -> oN t n v k = true := by
 intro t
 induction t with
 | leaf =>
  intro n k h hk;have h0 : n = 0 := h;subst h0;refine hk _ ⟨oM, by simp [dC], by simp [dC]⟩ (fun j => ?_);by_cases hj : j = 0
  ·simp [hj, BT.get]
  ·simp only [BT.get, hj, if_false]; split <;> rfl
 | node a l r il ir =>
  intro n k h hk;obtain ⟨h0, hl, hr⟩ := h;show @Bool.rec (fun _ => Bool) (@Bool.rec (fun _ => Bool) (oN r (Nat.pred (Nat.div n 2)) v (fun r => k (.node a l r))) (oN l (Nat.div n 2) v (fun l => k (.node a l r))) (Nat.beq (Nat.mod n 2) 1)) false (Nat.beq n 0) = true;rw [Bf, par, decide_eq_false h0];by_cases h1 : n % 2 = 1
  ·rw [decide_eq_true h1]
   refine il (n := n / 2) hl (fun t' hf hg => hk _ ⟨oM, by rw [show (n + 1) / 2 = n / 2 + 1 by omega]; exact hf, by rw [show (n + 1 - 1) / 2 = (n - 1) / 2 by omega]; exact hr⟩ (fun j => ?_));simp only [BT.get];by_cases hj : j = 0
   ·simp [hj, Ne.symm h0]
   ·by_cases hj1 : j % 2 = 1
    ·rw [if_neg hj, if_pos hj1, hg]
     by_cases he : j = n
     ·subst he; simp
     ·have : j / 2 ≠ n / 2 := oM
      simp [this, he, hj, hj1]
    ·rw [if_neg hj, if_neg hj1]
     have : j ≠ n := fun e => hj1 (e ▸ h1)
     simp [this, hj, hj1]
  ·rw [decide_eq_false h1]
   refine ir (n := n / 2 - 1) (by rw [show n / 2 - 1 = (n - 1) / 2 by omega]; exact hr) (fun t' hf hg => hk _ ⟨oM, by rw [show (n + 1) / 2 = n / 2 by omega]; exact hl, by rw [show (n + 1 - 1) / 2 = n / 2 - 1 + 1 by omega]; exact hf⟩ (fun j => ?_));simp only [BT.get];by_cases hj : j = 0
   ·simp [hj, Ne.symm h0]
   ·by_cases hj1 : j % 2 = 1
    ·rw [if_neg hj, if_pos hj1]
     have : j ≠ n := fun e => h1 (e ▸ hj1)
     simp [this, hj, hj1]
    ·rw [if_neg hj, if_neg hj1, hg]
     by_cases he : j = n
     ·subst he; simp
     ·have : ¬ (j / 2 - 1 = n / 2 - 1) := oM
      rw [if_neg this, if_neg he, if_neg hj, if_neg hj1]
theorem sC {α : Type} : ∀ {l : List α} {t : BT α} {n : Nat} {k : BT α -> Bool}, dC t n -> (∀ t', dC t' (n + l.length) -> (∀ j, t'.get j = if n <= j /\ j < n + l.length then l[j - n]? else t.get j) -> k t' = true) -> eB t n l k = true
 | [], t, n, k, hf, hk => hk t hf (fun j => by rw [if_neg sM])
 | v :: l, t, n, k, hf, hk => by
  show oN t n v (fun t => eB t (Nat.succ n) l k) = true;refine DB hf (fun t' hf' hg => sC (n := n + 1) hf' (fun t2 hf2 hg2 => hk t2 (by rw [show n + (v :: l).length = n + 1 + l.length by simp; omega]; exact hf2) (fun j => ?_)));rw [hg2];by_cases h1 : n + 1 <= j /\ j < n + 1 + l.length
  ·rw [if_pos h1, if_pos (by simp; omega)]
   obtain ⟨i, hi⟩ : ∃ i, j - n = i + 1 := ⟨j - n - 1, oM⟩;rw [hi, List.getElem?_cons_succ]; congr 1; omega
  ·rw [if_neg h1, hg]
   by_cases h2 : j = n
   ·subst h2; rw [if_pos rfl, if_pos sM]; simp
   ·rw [if_neg h2, if_neg (by simp; omega)]
theorem kB {α : Type} : ∀ {l : List α} {t : BT α} {n m : Nat} {k : BT α -> Bool}, dC t m -> n + l.length <= m -> (∀ t', dC t' m -> (∀ j, t'.get j = if n <= j /\ j < n + l.length then l[j - n]? else t.get j) -> k t' = true) -> dT t n l k = true
 | [], t, n, m, k, hf, hm, hk => hk t hf (fun j => by rw [if_neg sM])
 | v :: l, t, n, m, k, hf, hm, hk => by
  show lM t n v (fun t => dT t (Nat.succ n) l k) = true;simp only [List.length_cons] at hm;refine vL hf oM (fun t' hf' hg => kB (n := n + 1) hf' oM (fun t2 hf2 hg2 => hk t2 hf2 (fun j => ?_)));rw [hg2];by_cases h1 : n + 1 <= j /\ j < n + 1 + l.length
  ·rw [if_pos h1, if_pos (by simp; omega)]
   obtain ⟨i, hi⟩ : ∃ i, j - n = i + 1 := ⟨j - n - 1, oM⟩;rw [hi, List.getElem?_cons_succ]; congr 1; omega
  ·rw [if_neg h1, hg]
   by_cases h2 : j = n
   ·subst h2; rw [if_pos rfl, if_pos sM]; simp
   ·rw [if_neg h2, if_neg (by simp; omega)]
theorem sD {α : Type} {t : BT α} : ∀ {l : List α} {i n : Nat} {k : List α -> Bool}, l.length = n -> (∀ j, j < n -> t.get (i + j) = l[j]?) -> k l = true -> lN t i n k = true
 | [], i, n, k, hn, hl, hk => by subst hn; exact hk
 | v :: l, i, n, k, hn, hl, hk => by
  subst hn;show jR t i (fun v => lN t (Nat.succ i) l.length (fun l => k (v :: l))) = true;refine eV (by simpa using hl 0 sM) ?_;exact sD (i := i + 1) J (fun j hj => by have := hl (j + 1) (by simp; omega); simpa [Nat.add_assoc, Nat.add_comm 1 j] using this) hk
theorem qU {g : Nat -> Option Value} : ∀ {l : List Value} {i n : Nat} {k : List Value -> Bool}, l.length = n -> (∀ j, j < n -> g (i + j) = l[j]?) -> k l = true -> eL g i n k = true
 | [], i, n, k, hn, hl, hk => by subst hn; exact hk
 | v :: l, i, n, k, hn, hl, hk => by
  subst hn;show nE (g i) (fun v => eL g (Nat.succ i) l.length (fun l => k (v :: l))) = true;have h0 : g i = some v := by simpa using hl 0 sM
  rw [h0];exact qU (i := i + 1) J (fun j hj => by have := hl (j + 1) (by simp; omega); simpa [Nat.add_assoc, Nat.add_comm 1 j] using this) hk
/-! ## Memory -/
def Wf (s : St) : Prop := dC s.h s.n
def FA (s s' : St) (ch : List Nat) : Prop := Wf s' /\ s.n <= s'.n /\ ∀ b, b < s.n -> b ∉ ch -> s'.h.get b = s.h.get b
def qI (s s' : St) : Prop := Wf s' /\ s.n <= s'.n /\ ∀ b, b < s.n -> s'.h.get b = s.h.get b
theorem qI.refl {s : St} (h : Wf s) : qI s s := ⟨h, Nat.le_refl _, fun _ _ => rfl⟩
theorem qI.trans {a b c : St} (h : qI a b) (k : qI b c) : qI a c := ⟨k.1, Nat.le_trans h.2.1 k.2.1, fun i hi => (k.2.2 i (Nat.lt_of_lt_of_le hi h.2.1)).trans (h.2.2 i hi)⟩
theorem qI.mod {a b c : St} {ch : List Nat} (h : qI a b) (k : FA b c ch) (hc : ∀ i ∈ ch, a.n <= i) : qI a c :=
 ⟨k.1, Nat.le_trans h.2.1 k.2.1, fun i hi => (k.2.2 i (Nat.lt_of_lt_of_le hi h.2.1) (fun hm => by have := hc i hm; omega)).trans (h.2.2 i hi)⟩
def At (s : St) (b off : Nat) (v : Value) : Prop := ∃ f, tF s b f /\ f off = some v
def oR (s : St) (b : Nat) : Nat -> List Value -> Prop
 | _, [] => True
 | off, v :: l => At s b off v /\ oR s b (off + 1) l
theorem JC {s : St} (h : Wf s) {b : Nat} {f : Nat -> Option Value} (hs : tF s b f) : b < s.n := by
 rcases hs with ⟨n, c, e, op, h1, _⟩ | h1 <;> exact dC.lt h h1
theorem tF.same {s s' : St} {b : Nat} {f : Nat -> Option Value} (h : tF s b f) (hb : s'.h.get b = s.h.get b) : tF s' b f := by
 rcases h with ⟨n, c, e, op, h1, h2⟩ | h1
 ·exact .inl ⟨n, c, e, op, hb.trans h1, h2⟩
 ·exact .inr (hb.trans h1)
theorem At.ext {s s' : St} (hw : Wf s) {b off : Nat} {v : Value} (h : At s b off v) (e : qI s s') : At s' b off v := by
 obtain ⟨f, h1, h2⟩ := h;exact ⟨f, h1.same (e.2.2 b (JC hw h1)), h2⟩
theorem oR.ext {s s' : St} (hw : Wf s) {b : Nat} : ∀ {l : List Value} {off : Nat}, oR s b off l -> qI s s' -> oR s' b off l
 | [], _, _, _ => trivial
 | _ :: _, _, ⟨h1, h2⟩, e => ⟨h1.ext hw e, h2.ext hw e⟩
theorem At.same {s : St} {b off : Nat} {v v' : Value} (h : At s b off v) (h' : At s b off v') : v = v' := by
 obtain ⟨f, h1, h2⟩ := h;obtain ⟨g, h3, h4⟩ := h';have : f = g := by
  rcases h1 with ⟨n, c, e, op, h5, rfl⟩ | h5 <;> rcases h3 with ⟨n', c', e', op', h6, rfl⟩ | h6
  ·rw [h5] at h6; cases h6; rfl
  ·rw [h5] at h6; cases h6
  ·rw [h5] at h6; cases h6
  ·rw [h5] at h6; cases h6; rfl
 subst this;rw [h2] at h4; exact Option.some.inj h4
theorem oR.see {s : St} {b : Nat} : ∀ {l : List Value} {off : Nat}, oR s b off l -> l ≠ [] -> ∃ f, tF s b f /\ ∀ j, j < l.length -> f (off + j) = l[j]?
 | [], _, _, h => absurd rfl h
 | [v], off, ⟨⟨f, h1, h2⟩, _⟩, _ => ⟨f, h1, fun j hj => by
  have : j = 0 := by simpa using hj
  subst this; simpa using h2⟩
 | v :: u :: l, off, ⟨⟨f, h1, h2⟩, h3⟩, _ => by
  obtain ⟨g, h4, h5⟩ := oR.see h3 sM;have : f = g := by
   rcases h1 with ⟨n, c, e, op, h6, rfl⟩ | h6 <;> rcases h4 with ⟨n', c', e', op', h7, rfl⟩ | h7
   ·rw [h6] at h7; cases h7; rfl
   ·rw [h6] at h7; cases h7
   ·rw [h6] at h7; cases h7
   ·rw [h6] at h7; cases h7; rfl
  subst this;refine ⟨f, h1, fun j hj => ?_⟩;cases j with
  | zero => simpa using h2
  | succ j => have := h5 j (by simp at hj ⊢; omega); rw [List.getElem?_cons_succ, <- this]; congr 1; omega
def Obj (s : St) (b e : Nat) (op : Bool) (l : List Value) : Prop := ∃ c, s.h.get b = some (.cells l.length c e op) /\ dC c l.length /\ ∀ j, c.get j = l[j]?
theorem Obj.same {s s' : St} {b e : Nat} {op : Bool} {l : List Value} (h : Obj s b e op l) (hb : s'.h.get b = s.h.get b) : Obj s' b e op l := by
 obtain ⟨c, h1, h2⟩ := h;exact ⟨c, hb.trans h1, h2⟩
theorem Obj.lt {s : St} (hw : Wf s) {b e : Nat} {op : Bool} {l : List Value} (h : Obj s b e op l) : b < s.n := by
 obtain ⟨c, h1, _⟩ := h;exact dC.lt hw h1
theorem Obj.ext {s s' : St} (hw : Wf s) {b e : Nat} {op : Bool} {l : List Value} (h : Obj s b e op l) (x : qI s s') : Obj s' b e op l := h.same (x.2.2 b (h.lt hw))
theorem Obj.at {s : St} {b e : Nat} {op : Bool} {l : List Value} (h : Obj s b e op l) {off : Nat} {v : Value} (hv : l[off]? = some v) : At s b off v := by
 obtain ⟨c, h1, _, h2⟩ := h;exact ⟨c.get, .inl ⟨_, c, e, op, h1, rfl⟩, (h2 off).trans hv⟩
theorem Obj.ats {s : St} {b e : Nat} {op : Bool} {l : List Value} (h : Obj s b e op l) : ∀ {r : List Value} {off : Nat}, (∀ j, j < r.length -> l[off + j]? = r[j]?) -> oR s b off r
 | [], _, _ => trivial
 | v :: r, off, hr => ⟨h.at (by simpa using hr 0 sM), h.ats (fun j hj => by have := hr (j + 1) (by simp; omega); simpa [Nat.add_assoc, Nat.add_comm 1 j] using this)⟩
theorem Obj.all {s : St} {b e : Nat} {op : Bool} {l : List Value} (h : Obj s b e op l) : oR s b 0 l := h.ats (fun j _ => by rw [Nat.zero_add])
/-! ## Primitive steps -/
theorem lF {s : St} {k : Nat -> Bool} (h : k s.n = true) : A9 s k = true := by obtain ⟨h0, n⟩ := s; exact h
theorem eW {s : St} {b : Nat} {o : dK} {k : dK -> Bool} (h : s.h.get b = some o) (hk : k o = true) : qD s b k = true := by obtain ⟨h0, n⟩ := s; exact eV h hk
theorem As {s : St} {o : dK} {k : St -> Bool} (hw : Wf s) (hk : ∀ s', qI s s' -> s'.n = s.n + 1 -> s'.h.get s.n = some o -> k s' = true) : iH s o k = true := by
 obtain ⟨h0, n⟩ := s;show oN h0 n o (fun h => cI (Nat.succ n) (fun m => k ⟨h, m⟩)) = true;refine DB hw (fun t hf hg => ?_);rw [bB];refine hk ⟨t, n + 1⟩ ⟨hf, Nat.le_succ n, fun b hb => ?_⟩ rfl ?_
 ·show t.get b = h0.get b
  rw [hg, if_neg (by have : b < n := hb; omega)]
 ·show t.get n = _
  rw [hg, if_pos rfl]
theorem dX {s : St} {b : Nat} {o : dK} {k : St -> Bool} (hw : Wf s) (hb : b < s.n) (hk : ∀ s', FA s s' [b] -> s'.n = s.n -> s'.h.get b = some o -> k s' = true) : cK s b o k = true := by
 obtain ⟨h0, n⟩ := s;show lM h0 b o (fun h => k ⟨h, n⟩) = true;refine vL hw hb (fun t hf hg => hk ⟨t, n⟩ ⟨hf, Nat.le_refl _, fun i hi hne => ?_⟩ rfl ?_)
 ·show t.get i = h0.get i
  rw [hg, if_neg (by simpa using hne)]
 ·show t.get b = _
  rw [hg, if_pos rfl]
theorem Au {s : St} {b : Nat} {f : Nat -> Option Value} {kc : BT Value -> Bool} {kr : (Nat -> Option Value) -> Bool} (h : tF s b f) (h1 : ∀ c, f = c.get -> kc c = true) (h2 : kr f = true) : qO s b kc kr = true := by
 rcases h with ⟨n, c, e, op, h3, rfl⟩ | h3
 ·exact eW (k := fun o => @dK.casesOn (fun _ => Bool) o false (fun _ c _ _ => kc c) (fun _ _ _ _ _ _ _ => false) (fun _ => false) (fun _ => false) kr) h3 (h1 c rfl)
 ·exact eW (k := fun o => @dK.casesOn (fun _ => Bool) o false (fun _ c _ _ => kc c) (fun _ _ _ _ _ _ _ => false) (fun _ => false) (fun _ => false) kr) h3 h2
theorem Av {s : St} {b off : Nat} {v : Value} {k : Value -> Bool} (h : At s b off v) (hk : k v = true) : Cq s none (.pointer (some ⟨b, off, none⟩)) k = true := by
 obtain ⟨f, h1, h2⟩ := h;show qO s b (fun c => Cp c off none k) (fun g => nF g off none k) = true;refine Au h1 (fun c hc => ?_) ?_
 ·subst hc; exact eV h2 hk
 ·show nE (f off) k = true
  rw [h2]; exact hk
theorem Aw {s : St} {b off n : Nat} {l : List Value} {k : Value -> Bool} (h : oR s b off l) (hn : l.length = n) (h0 : n ≠ 0) (hk : k (.agg ⟨l⟩) = true) : Cq s (some n) (.pointer (some ⟨b, off, none⟩)) k = true := by
 obtain ⟨f, h1, h2⟩ := h.see (by intro h; subst h; simp at hn; omega);show qO s b (fun c => Cp c off (some n) k) (fun g => nF g off (some n) k) = true;refine Au h1 (fun c hc => ?_) ?_
 ·subst hc; exact sD (k := fun l => k (.agg ⟨l⟩)) hn (fun j hj => h2 j oM) hk
 ·exact qU (k := fun l => k (.agg ⟨l⟩)) hn (fun j hj => h2 j oM) hk
theorem BB {s : St} {b e : Nat} {op : Bool} {l : List Value} {k : Nat -> BT Value -> Nat -> Bool -> Bool} (h : Obj s b e op l) (hk : ∀ c, dC c l.length -> (∀ j, c.get j = l[j]?) -> k l.length c e op = true) : Ba s b k = true := by
 obtain ⟨c, h1, h2, h3⟩ := h;exact Jo h1 (hk c h2 h3)
theorem JD {s : St} {b off e : Nat} {op : Bool} {l : List Value} {v : Value} {k : St -> Bool} (hw : Wf s) (h : Obj s b e op l) (ho : off < l.length) (h1 : oneCell v = true) (hk : ∀ s', FA s s' [b] -> s'.n = s.n -> Obj s' b e op (l.set off v) -> k s' = true) :
 I7 s none v (.pointer (some ⟨b, off, none⟩)) k = true := by
 refine BB (k := fun m c e op => ifB (oneCell v) (ifB (Nat.blt off m) (lM c off v (fun c => cK s b (.cells m c e op) k)) false) false) h (fun c hf hc => ?_);rw [h1, show Nat.blt off l.length = true from by rw [Nat.blt_eq]; exact ho];refine vL hf ho (fun c' hf' hg => dX hw (h.lt hw) (fun s' hm hn hs => hk s' hm hn ⟨c', by simpa using hs, by simpa using hf', fun j => ?_⟩));rw [hg, List.getElem?_set];by_cases hj : j = off
 ·subst hj; simp [ho]
 ·rw [if_neg hj, if_neg (Ne.symm hj)]; exact hc j
def over (l : List Value) (off : Nat) (r : List Value) : List Value := l.take off ++ r ++ l.drop (off + r.length)
theorem kC {l r : List Value} {off : Nat} (h : off + r.length <= l.length) : (over l off r).length = l.length := by
 unfold over; simp; omega
theorem mI {l r : List Value} {off : Nat} (h : off + r.length <= l.length) (j : Nat) : (over l off r)[j]? = if off <= j /\ j < off + r.length then r[j - off]? else l[j]? := by
 unfold over;by_cases h1 : j < off
 ·rw [if_neg oM, List.append_assoc, List.getElem?_append_left (by simp; omega), List.getElem?_take, if_pos h1]
 ·by_cases h2 : j < off + r.length
  ·rw [if_pos ⟨oM, h2⟩, List.append_assoc, List.getElem?_append_right (by simp; omega)]
   rw [List.getElem?_append_left (by simp; omega)]; congr 1; simp; omega
  ·rw [if_neg oM, List.getElem?_append_right (by simp; omega), List.getElem?_drop]
   congr 1; simp; omega
theorem JE {s : St} {b off e n : Nat} {op : Bool} {l r : List Value} {k : St -> Bool} (hw : Wf s) (h : Obj s b e op l) (ho : off + n <= l.length) (hn : r.length = n) (h1 : dU r = true) (hk : ∀ s', FA s s' [b] -> s'.n = s.n -> Obj s' b e op (over l off r) -> k s' = true) :
 I7 s (some n) (.agg ⟨r⟩) (.pointer (some ⟨b, off, none⟩)) k = true := by
 refine BB (k := fun m c e op => rJ (.agg ⟨r⟩) (fun l => ifB (Nat.beq l.length n) (ifB (Nat.ble (Nat.add off n) m) (ifB (dU l) (dT c off l (fun c => cK s b (.cells m c e op) k)) false) false) false)) h (fun c hf hc => ?_);show ifB (Nat.beq r.length n) (ifB (Nat.ble (Nat.add off n) l.length) (ifB (dU r) _ false) false) false = true;rw [h1, show Nat.beq r.length n = true from by rw [Nat.beq_eq]; exact hn, show Nat.ble (Nat.add off n) l.length = true from by rw [Nat.ble_eq]; exact ho];have ho' : off + r.length <= l.length := oM
 refine kB hf ho' (fun c' hf' hg => dX hw (h.lt hw) (fun s' hm hn hs => hk s' hm hn ⟨c', by rw [kC ho']; exact hs, by rw [kC ho']; exact hf', fun j => ?_⟩));rw [hg, mI ho', hc]
theorem fX {s : St} {e : Nat} {op : Bool} {l : List Value} {c : BT Value} {k : St -> Bool} {m : Nat} (hm : m = l.length) (hw : Wf s) (hf : dC c l.length) (hc : ∀ j, c.get j = l[j]?) (hk : ∀ s', qI s s' -> s'.n = s.n + 1 -> Obj s' s.n e op l -> k s' = true) : iH s (.cells m c e op) k = true := by
 subst hm;exact As hw (fun s' h1 h2 h3 => hk s' h1 h2 ⟨c, h3, hf, hc⟩)
theorem iA {l : List Value} {k : BT Value -> Bool} (hk : ∀ c, dC c l.length -> (∀ j, c.get j = l[j]?) -> k c = true) : eB .leaf 0 l k = true := by
 refine sC (n := 0) (by simp [dC]) (fun c hf hg => hk c (by simpa using hf) (fun j => ?_));rw [hg];by_cases h : 0 <= j /\ j < 0 + l.length
 ·rw [if_pos h]; simp
 ·rw [if_neg h, List.getElem?_eq_none oM]; rfl
end Go.Proofs.YtjkdkpckjgaplaaGreat.Ev
namespace Go.Proofs.YtjkdkpckjgaplaaGreat.Ev
open Go Go.RowKit
noncomputable section
def cJ (P : Program) (C : Nat -> (CF -> Bool) -> Bool) (X : FuncId -> List Value -> St -> (Value -> St -> Bool) -> Bool) (n : Nat) : OK :=
 @Nat.rec (fun _ => OK) { code := fun _ _ _ _ _ _ => false, call := X } (fun _ ih => { code := uI P ih, call := fun f vs s k => X f vs s k || uJ C ih f vs s k }) n
def iR (P : Program) (X : FuncId -> List Value -> St -> (Value -> St -> Bool) -> Bool) : Prop :=
 ∀ {K : Kp} {B : Nat} {f : FuncId} {vs : List Value} {s : St} {k : Value -> St -> Bool}, X f vs s k = true -> ∀ {m : Mp} {w : World} {us : List Value}, cN P K B m s w -> LR m vs us ->
  (∀ w, (callFunc f ⟨us⟩).run P w = .ok (.enter f ⟨us⟩) w) /\ CallsIn Fence.wide 0 P f ⟨us⟩ w (Bl P K B m w k)
theorem NP {P : Program} {B : Nat} {C : Nat -> (CF -> Bool) -> Bool} {X : FuncId -> List Value -> St -> (Value -> St -> Bool) -> Bool} (hC : ∀ f k, C f k = true -> ∃ c, compF P f = some c /\ k c = true) (hX : iR P X) (n : Nat) : ∀ K, lE P K B (cJ P C X n).code /\ iQ P K B (cJ P C X n) := by
 induction n with
 | zero =>
  intro K;have hcode : lE P K B (cJ P C X 0).code := { code := (by intro r c T D s k h; cases h), loop := (by intro r c T D s k h; cases h) };exact ⟨hcode, { call := (by intro f vs s k h m w us E hv; exact hX h E hv), round := (by intro l vs s k hk m w us x y hm E hv; exact rU hcode hk hm E hv) }⟩
 | succ n ih =>
  intro K;have hcode : lE P K B (cJ P C X (n + 1)).code := Dq (ih K).2 (ih K).1 (DA (fun K => (ih K).2) K) (Bt (ih K).2);refine ⟨hcode, { call := ?_, round := (by intro l vs s k hk m w us x y hm E hv; exact rU hcode hk hm E hv) }⟩;intro f vs s k hk m w us E hv;have hk' : (X f vs s k || uJ C (cJ P C X n) f vs s k) = true := hk;rcases Bool.or_eq_true _ _ ▸ hk' with h | h
  ·exact hX h E hv
  ·exact Dr hC (ih K).1 h E hv
theorem JF {P : Program} {t : BT (Option CF)} (h : Holds P t 0 1) {X : FuncId -> List Value -> St -> (Value -> St -> Bool) -> Bool} (hX : iR P X) {n : Nat} {f : FuncId} {vs us : List Value} {s : St} {m : Mp} {w : World} {k : Value -> St -> Bool}
 (hk : (cJ P (cA t) X n).call f vs s k = true) (E : cN P (fun _ => none) w.heap.size m s w) (hv : LR m vs us) :
 Calls P f ⟨us⟩ w (fun e w' => ∃ u, e = .returned u /\ Below w.heap.size w w' /\ ∃ v s' m', k v s' = true /\ m.le m' /\ cN P (fun _ => none) w.heap.size m' s' w' /\ VR m' v u) := by
 obtain ⟨_, hcall⟩ := (NP (B := w.heap.size) (Gw h) hX n (fun _ => none)).2.call hk E hv;refine (callsIn_wide (n := 0)).1 (CallsIn.mono hcall (fun e w' he => ?_));cases e with
 | returned u =>
  obtain ⟨v, s', m', h1, h2, h3, h4, h5⟩ := he;exact ⟨u, rfl, h4, v, s', m', h1, h2, h3, h5⟩
 | panicked => exact he.elim
 | outgrown => exact he.elim
/-! ## What is known of temporaries -/
theorem xD {a b : Nat} (h : a ≠ b) : Nat.beq a b = false := by
 cases hb : Nat.beq a b with
 | false => rfl
 | true => exact absurd (by simpa using hb) h
def look : List (Nat × Value) -> Nat -> Option Value
 | [], _ => none
 | (t, v) :: l, i => sel (Nat.beq t i) (some v) (look l i)
def vB (nt : Nat) (T : BT Value) (env : List (Nat × Value)) : Prop := dC T nt /\ ∀ t v, look env t = some v -> T.get t = some v
def xv (env : List (Nat × Value)) : X -> Option Value
 | .t i => look env i
 | .c v => some v
def xE (env : List (Nat × Value)) : List X -> Option (List Value)
 | [] => some []
 | x :: l => match xv env x, xE env l with
  | some v, some l => some (v :: l)
  | _, _ => none
def Pn (env : List (Nat × Value)) : List (Nat × Nat × X) -> Option (List (Nat × Nat × Value))
 | [] => some []
 | (o, n, x) :: l => match xv env x, Pn env l with
  | some v, some l => some ((o, n, v) :: l)
  | _, _ => none
def xo (env : List (Nat × Value)) : Option X -> Option (Option Value)
 | none => some none
 | some x => match xv env x with
  | some v => some (some v)
  | none => none
theorem U5 {nt : Nat} {T : BT Value} {env : List (Nat × Value)} (h : vB nt T env) {x : X} {v : Value} {k : Value -> Bool} (hx : xv env x = some v) (hk : k v = true) : bF T x k = true := by
 cases x with
 | t i => exact eV (h.2 i v hx) hk
 | c u => cases hx; exact hk
theorem mJ {nt : Nat} {T : BT Value} {env : List (Nat × Value)} (h : vB nt T env) : ∀ {l : List X} {vs : List Value} {k : List Value -> Bool}, xE env l = some vs -> k vs = true -> gF T l k = true
 | [], vs, k, hx, hk => by cases hx; exact hk
 | x :: l, vs, k, hx, hk => by
  simp only [xE] at hx;split at hx
  ·rename_i v vs' h1 h2
   cases hx;exact U5 h (k := fun v => gF T l (fun l => k (v :: l))) h1 (mJ h (k := fun l => k (v :: l)) h2 hk)
  ·cases hx
theorem tQ {nt : Nat} {T : BT Value} {env : List (Nat × Value)} (h : vB nt T env) : ∀ {l : List (Nat × Nat × X)} {vs : List (Nat × Nat × Value)} {k : List (Nat × Nat × Value) -> Bool}, Pn env l = some vs -> k vs = true -> mZ T l k = true
 | [], vs, k, hx, hk => by cases hx; exact hk
 | (o, n, x) :: l, vs, k, hx, hk => by
  simp only [Pn] at hx;split at hx
  ·rename_i v vs' h1 h2
   cases hx;exact U5 h (k := fun v => mZ T l (fun l => k ((o, n, v) :: l))) h1 (tQ h (k := fun l => k ((o, n, v) :: l)) h2 hk)
  ·cases hx
def Po (d : Option Nat) (v : Value) (env : List (Nat × Value)) : List (Nat × Value) := match d with | some d => (d, v) :: env | none => env
def JG (d : Option Nat) (nt : Nat) : Bool := match d with | some d => Nat.blt d nt | none => true
theorem xF {nt : Nat} {T : BT Value} {env : List (Nat × Value)} (h : vB nt T env) {d : Option Nat} {v : Value} {k : BT Value -> Bool} (hd : JG d nt = true) (hk : ∀ T', vB nt T' (Po d v env) -> k T' = true) : gW T d v k = true := by
 cases d with
 | none => exact hk T h
 | some d =>
  have hd' : d < nt := by simpa [JG, Nat.blt_eq] using hd
  refine vL h.1 hd' (fun T' hf hg => hk T' ⟨hf, fun t u hu => ?_⟩);rw [hg];simp only [Po, look] at hu;by_cases ht : t = d
  ·subst ht
   rw [show Nat.beq t t = true from by rw [Nat.beq_eq]] at hu;rw [if_pos rfl]; exact hu
  ·rw [show Nat.beq d t = false from xD (Ne.symm ht)] at hu
   rw [if_neg ht]; exact h.2 t u hu
def gH (env env' : List (Nat × Value)) : Prop := ∀ t v, look env' t = some v -> look env t = some v
theorem vB.less {nt : Nat} {T : BT Value} {env env' : List (Nat × Value)} (h : vB nt T env) (hl : gH env env') : vB nt T env' := ⟨h.1, fun t v hv => h.2 t v (hl t v hv)⟩
theorem gH.nil {env : List (Nat × Value)} : gH env [] := fun t v h => by cases h
theorem gH.cons {env env' : List (Nat × Value)} {t : Nat} {v : Value} (h1 : look env t = some v) (h : gH env env') : gH env ((t, v) :: env') := fun i u hu => by
 simp only [look] at hu;by_cases hi : t = i
 ·subst hi
  rw [show Nat.beq t t = true from by rw [Nat.beq_eq]] at hu;rw [h1]; exact hu
 ·rw [show Nat.beq t i = false from xD hi] at hu
  exact h i u hu
/-! ## Code by what stands behind it -/
section
variable (P : Program) (C : Nat -> (CF -> Bool) -> Bool) (X : FuncId -> List Value -> St -> (Value -> St -> Bool) -> Bool)
def xG (n : Nat) (f : FuncId) (vs : List Value) (s : St) (Q : Value -> St -> Prop) : Prop := ∀ k, (∀ v s', Q v s' -> k v s' = true) -> (cJ P C X n).call f vs s k = true
def kH (n nt : Nat) (r : Option Nat) (c : CC) (env : List (Nat × Value)) (D : List Nat) (s : St) (Q : fT -> List (Nat × Value) -> List Nat -> St -> Prop) : Prop :=
 ∀ T, vB nt T env -> ∀ k, (∀ x env' T' D' s', vB nt T' env' -> Q x env' D' s' -> k x T' D' s' = true) -> (cJ P C X n).code r c T D s k = true
def JH (n nt : Nat) (l : List Item) (env : List (Nat × Value)) (s : St) (Q : List (Nat × Value) -> St -> Prop) : Prop :=
 ∀ T, vB nt T env -> ∀ k, (∀ env' T' s', vB nt T' env' -> Q env' s' -> k T' s' = true) -> dW P (cJ P C X n) l T s k = true
def oS (n nt : Nat) (c : COp) (env : List (Nat × Value)) (s : St) (R : Value -> St -> Prop) : Prop :=
 ∀ T, vB nt T env -> ∀ k, (∀ v s', R v s' -> k v s' = true) -> fU P (cJ P C X n) T s c k = true
end
def GA (N : List (Nat × Value) -> List Nat -> St -> Prop) (Q : fT -> List (Nat × Value) -> List Nat -> St -> Prop) : fT -> List (Nat × Value) -> List Nat -> St -> Prop
 | .normal, e, D, s => N e D s
 | .ret, e, D, s => Q .ret e D s
 | .exit i, e, D, s => Q (.exit i) e D s
 | .goto i, e, D, s => Q (.goto i) e D s
def NQ (id : Nat) (Q : fT -> List (Nat × Value) -> List Nat -> St -> Prop) : fT -> List (Nat × Value) -> List Nat -> St -> Prop
 | .exit j, e, D, s => sel (Nat.beq j id) (Q .normal e D s) (Q (.exit j) e D s)
 | .normal, e, D, s => Q .normal e D s
 | .ret, e, D, s => Q .ret e D s
 | .goto i, e, D, s => Q (.goto i) e D s
section
variable {P : Program} {C : Nat -> (CF -> Bool) -> Bool} {X : FuncId -> List Value -> St -> (Value -> St -> Bool) -> Bool} {n nt : Nat} {r : Option Nat} {env : List (Nat × Value)} {D : List Nat} {s : St} {Q : fT -> List (Nat × Value) -> List Nat -> St -> Prop}
theorem GB (h : Q .normal env D s) : kH P C X (n + 1) nt r .skip env D s Q := fun T hT k hk => hk _ _ T D s hT h
theorem JI (h : Q .ret env D s) : kH P C X (n + 1) nt r .ret env D s Q := fun T hT k hk => hk _ _ T D s hT h
theorem GC {i : Nat} (h : Q (.exit i) env D s) : kH P C X (n + 1) nt r (.exit i) env D s Q := fun T hT k hk => hk _ _ T D s hT h
theorem DC {a b : CC} (h : kH P C X n nt r a env D s (GA (fun e D s => kH P C X n nt r b e D s Q) Q)) : kH P C X (n + 1) nt r (.seq a b) env D s Q := fun T hT k hk => by
 refine h T hT _ (fun x e T' D' s' hT' hq => ?_);cases x with
 | normal => exact hq T' hT' k hk
 | ret => exact hk _ _ T' D' s' hT' hq
 | exit i => exact hk _ _ T' D' s' hT' hq
 | goto i => exact hk _ _ T' D' s' hT' hq
theorem FB {id : Nat} {b : CC} (h : kH P C X n nt r b env D s (NQ id Q)) : kH P C X (n + 1) nt r (.block id b) env D s Q := fun T hT k hk => by
 refine h T hT _ (fun x e T' D' s' hT' hq => ?_);cases x with
 | normal => exact hk _ _ T' D' s' hT' hq
 | ret => exact hk _ _ T' D' s' hT' hq
 | goto i => exact hk _ _ T' D' s' hT' hq
 | exit j =>
  show ifB (Nat.beq j id) (k .normal T' D' s') (k (.exit j) T' D' s') = true;have hq' : sel (Nat.beq j id) (Q .normal e D' s') (Q (.exit j) e D' s') := hq;cases hb : Nat.beq j id with
  | true => rw [hb] at hq'; exact hk _ _ T' D' s' hT' hq'
  | false => rw [hb] at hq'; exact hk _ _ T' D' s' hT' hq'
theorem CQ {x : Ev.X} {a b : CC} (hx : xv env x = some (.bool true)) (h : kH P C X n nt r a env D s Q) : kH P C X (n + 1) nt r (.cond x a b) env D s Q := fun T hT k hk =>
 U5 hT (k := fun v => nA v (fun t => @Bool.rec (fun _ => Bool) ((cJ P C X n).code r b T D s k) ((cJ P C X n).code r a T D s k) t)) hx (h T hT k hk)
theorem CR {x : Ev.X} {a b : CC} (hx : xv env x = some (.bool false)) (h : kH P C X n nt r b env D s Q) : kH P C X (n + 1) nt r (.cond x a b) env D s Q := fun T hT k hk =>
 U5 hT (k := fun v => nA v (fun t => @Bool.rec (fun _ => Bool) ((cJ P C X n).code r b T D s k) ((cJ P C X n).code r a T D s k) t)) hx (h T hT k hk)
theorem FC {l : List Item} (h : JH P C X n nt l env s (fun e s => Q .normal e D s)) : kH P C X (n + 1) nt r (.items l) env D s Q := fun T hT k hk =>
 h T hT (fun T s => k .normal T D s) (fun e T' s' hT' hq => hk _ _ T' D s' hT' hq)
theorem kH.less {c : CC} {env' : List (Nat × Value)} (hl : gH env env') (h : kH P C X n nt r c env' D s Q) : kH P C X n nt r c env D s Q := fun T hT k hk => h T (hT.less hl) k hk
theorem kH.mono {c : CC} {Q' : fT -> List (Nat × Value) -> List Nat -> St -> Prop} (h : kH P C X n nt r c env D s Q') (hq : ∀ x e D s, Q' x e D s -> Q x e D s) : kH P C X n nt r c env D s Q := fun T hT k hk => h T hT k (fun x e T' D' s' hT' hq' => hk x e T' D' s' hT' (hq _ _ _ _ hq'))
theorem GD {b : CC} (I : Nat -> List (Nat × Value) -> St -> Prop) (c K : Nat) (hb : ∀ n, K <= n -> ∀ j e s, I j e s -> kH P C X (n + c) nt r b e D s (GA (fun e' D' s' => D' = D /\ ∃ j' e2, j' < j /\ gH e' e2 /\ I j' e2 s') Q)) :
 ∀ {n j : Nat} {env : List (Nat × Value)} {s : St}, K <= n -> I j env s -> kH P C X (n + j + c + 1) nt r (.loop b) env D s Q := by
 intro n j
 induction j using Nat.strongRecOn generalizing n with
 | ind j ih =>
  intro env s hK hI T hT k hk;show (cJ P C X (n + j + c)).code r b T D s (fun x T D s => gV x ((cJ P C X (n + j + c)).code r (.loop b) T D s k) (k x T D s) (fun _ => k x T D s) (fun _ => k x T D s)) = true;refine hb (n + j) oM j env s hI T hT _ (fun x e T' D' s' hT' hq => ?_);cases x with
  | normal =>
   obtain ⟨rfl, j', e2, hlt, hl, hI'⟩ := hq;have e1 : n + j + c = (n + (j - j' - 1)) + j' + c + 1 := oM
   show (cJ P C X (n + j + c)).code r (.loop b) T' D' s' k = true;rw [e1];exact ih j' hlt (n := n + (j - j' - 1)) oM hI' T' (hT'.less hl) k hk
  | ret => exact hk _ _ T' D' s' hT' hq
  | exit i => exact hk _ _ T' D' s' hT' hq
  | goto i => exact hk _ _ T' D' s' hT' hq
theorem BC {b : CC} (I : Nat -> List (Nat × Value) -> St -> Prop) (c K L : Nat) (hb : ∀ n, K <= n -> ∀ j e s, I j e s -> kH P C X (n + c) nt r b e D s (GA (fun e' D' s' => D' = D /\ ∃ j' e2, j' < j /\ gH e' e2 /\ I j' e2 s') Q))
 {j : Nat} {env2 : List (Nat × Value)} (hn : K + L <= n) (hj : j <= L) (hl : gH env env2) (hI : I j env2 s) : kH P C X (n + c + 1) nt r (.loop b) env D s Q := by
 have := GD (P := P) (C := C) (X := X) (nt := nt) (r := r) (D := D) (Q := Q) I c K hb (n := n - j) oM hI;rw [show n - j + j + c + 1 = n + c + 1 by omega] at this;exact this.less hl
end
/-! ## Calls -/
def qJ : Nat -> List Value -> List (Nat × Value)
 | _, [] => []
 | i, v :: l => (i, v) :: qJ (i + 1) l
theorem zF {l : List Value} : ∀ {i t : Nat} {v : Value}, look (qJ i l) t = some v -> i <= t /\ t < i + l.length /\ l[t - i]? = some v := by
 induction l with
 | nil => intro i t v h; cases h
 | cons u l ih =>
  intro i t v h;simp only [qJ, look] at h;by_cases ht : i = t
  ·subst ht
   rw [show Nat.beq i i = true from by rw [Nat.beq_eq]] at h;cases h;exact ⟨Nat.le_refl _, sM, sM⟩
  ·rw [show Nat.beq i t = false from xD ht] at h
   obtain ⟨h1, h2, h3⟩ := ih h;refine ⟨oM, by simp; omega, ?_⟩;obtain ⟨q, hq⟩ : ∃ q, t - i = q + 1 := ⟨t - i - 1, oM⟩;rw [hq, List.getElem?_cons_succ, <- h3]; congr 1; omega
theorem zG {α : Type} : ∀ {l : List α} {t : BT α} {n : Nat}, dC t n -> dC (BT.adds t n l) (n + l.length) := by
 intro l
 induction l with
 | nil => intro t n h; exact h
 | cons v l ih =>
  intro t n h;have key : ∀ {t : BT α} {n : Nat}, dC t n -> dC (t.add n v) (n + 1) := by
   intro t
   induction t with
   | leaf =>
    intro n h;have h0 : n = 0 := h;subst h0;exact ⟨oM, by simp [dC], by simp [dC]⟩
   | node a l r il ir =>
    intro n h;obtain ⟨h0, hl, hr⟩ := h;simp only [BT.add];rw [if_neg h0];by_cases h1 : n % 2 = 1
    ·rw [if_pos h1]
     exact ⟨oM, by rw [show (n + 1) / 2 = n / 2 + 1 by omega]; exact il hl, by rw [show (n + 1 - 1) / 2 = (n - 1) / 2 by omega]; exact hr⟩
    ·rw [if_neg h1]
     exact ⟨oM, by rw [show (n + 1) / 2 = n / 2 by omega]; exact hl, by rw [show (n + 1 - 1) / 2 = n / 2 - 1 + 1 by omega]; exact ir (by rw [show n / 2 - 1 = (n - 1) / 2 by omega]; exact hr)⟩
  have := ih (key h);rw [show n + (v :: l).length = n + 1 + l.length by simp; omega];exact this
theorem zH (n : Nat) : dC (full n) n := by
 have := zG (l := undefs n) (t := (.leaf : BT Value)) (n := 0) (by simp [dC]);have hl : ∀ n, (undefs n).length = n := fun n => by induction n with
  | zero => rfl
  | succ n ih => simp [undefs, ih]
 rw [hl, Nat.zero_add] at this;exact this
def BD : List CRes -> List (Nat × Value) -> St -> List Value -> Prop
 | [], _, _, vs => vs = []
 | .tmp t :: l, env, s, vs => ∃ v vs', vs = v :: vs' /\ look env t = some v /\ BD l env s vs'
 | .cell a none :: l, env, s, vs => ∃ b o v vs', vs = v :: vs' /\ look env a = some (.pointer (some ⟨b, o, none⟩)) /\ At s b o v /\ BD l env s vs'
 | .cell a (some n) :: l, env, s, vs => ∃ b o r vs', vs = .agg ⟨r⟩ :: vs' /\ look env a = some (.pointer (some ⟨b, o, none⟩)) /\ r.length = n /\ n ≠ 0 /\ oR s b o r /\ BD l env s vs'
def one : List Value -> Value
 | [v] => v
 | l => .tuple ⟨l⟩
theorem DD {l : List Value} {k : Value -> Bool} (h : k (one l) = true) : Ad l k = true := by
 rcases l with _ | ⟨v, _ | ⟨u, l⟩⟩ <;> exact h
theorem sE {nt : Nat} {T : BT Value} {env : List (Nat × Value)} {s : St} (hT : vB nt T env) : ∀ {l : List CRes} {vs : List Value} {k : List Value -> Bool}, BD l env s vs -> k vs = true -> uY s T l k = true
 | [], vs, k, h, hk => by
  have : vs = [] := h;subst this; exact hk
 | .tmp t :: l, vs, k, h, hk => by
  obtain ⟨v, vs', rfl, h1, h2⟩ := h;exact eV (k := fun v => uY s T l (fun l => k (v :: l))) (hT.2 t v h1) (sE hT (k := fun l => k (v :: l)) h2 hk)
 | .cell a none :: l, vs, k, h, hk => by
  obtain ⟨b, o, v, vs', rfl, h1, h2, h3⟩ := h;exact eV (k := fun a => Cq s none a (fun v => uY s T l (fun l => k (v :: l)))) (hT.2 a _ h1) (Av h2 (sE hT (k := fun l => k (v :: l)) h3 hk))
 | .cell a (some n) :: l, vs, k, h, hk => by
  obtain ⟨b, o, r, vs', rfl, h1, h2, h0, h4, h3⟩ := h;exact eV (k := fun a => Cq s (some n) a (fun v => uY s T l (fun l => k (v :: l)))) (hT.2 a _ h1) (Aw h4 h2 h0 (sE hT (k := fun l => k (.agg ⟨r⟩ :: l)) h3 hk))
def QC (res : List CRes) (Q : Value -> St -> Prop) : fT -> List (Nat × Value) -> List Nat -> St -> Prop
 | .normal, e, D, s => D = [] /\ ∃ vs, BD res e s vs /\ Q (one vs) s
 | .ret, e, D, s => D = [] /\ ∃ vs, BD res e s vs /\ Q (one vs) s
 | _, _, _, _ => False
theorem CS {P : Program} {C : Nat -> (CF -> Bool) -> Bool} {X : FuncId -> List Value -> St -> (Value -> St -> Bool) -> Bool} {n nt : Nat} {f : FuncId} {vs : List Value} {s : St} {Q : Value -> St -> Prop} {body : CC} {res : List CRes} (hC : ∀ k, k ⟨body, nt, res⟩ = true -> C f k = true) (hl : vs.length <= nt)
 (h : kH P C X n nt none body (qJ 0 vs) [] s (QC res Q)) : xG P C X (n + 1) f vs s Q := fun k hk => by
 have key : uJ C (cJ P C X n) f vs s k = true := by
  refine hC _ ?_;show ifB (Nat.ble (kN vs) nt) (dT (full nt) 0 vs (fun T => (cJ P C X n).code none body T [] s (fun x T D s => gV x (fA res T D s k) (fA res T D s k) (fun _ => false) (fun _ => false)))) false = true;rw [iL, show Nat.ble vs.length nt = true from by rw [Nat.ble_eq]; exact hl];refine kB (zH nt) oM (fun T hf hg => h T ⟨hf, fun t v hv => ?_⟩ _ (fun x e T' D' s' hT' hq => ?_))
  ·obtain ⟨h1, h2, h3⟩ := zF hv
   rw [hg, if_pos ⟨h1, h2⟩]; exact h3
  ·have fin : D' = [] /\ (∃ vs, BD res e s' vs /\ Q (one vs) s') -> fA res T' D' s' k = true := by
    rintro ⟨rfl, vs, h1, h2⟩;exact sE hT' (k := fun l => Ad l (fun v => k v s')) h1 (DD (hk _ _ h2))
   cases x with
   | normal => exact fin hq
   | ret => exact fin hq
   | exit i => exact hq.elim
   | goto i => exact hq.elim
 show (X f vs s k || uJ C (cJ P C X n) f vs s k) = true;rw [key, Bool.or_true]
theorem xG.mono {P : Program} {C : Nat -> (CF -> Bool) -> Bool} {X : FuncId -> List Value -> St -> (Value -> St -> Bool) -> Bool} {n : Nat} {f : FuncId} {vs : List Value} {s : St} {Q Q' : Value -> St -> Prop} (h : xG P C X n f vs s Q') (hq : ∀ v s, Q' v s -> Q v s) : xG P C X n f vs s Q := fun k hk => h k (fun v s' h' => hk v s' (hq v s' h'))
end
end Go.Proofs.YtjkdkpckjgaplaaGreat.Ev
namespace Go.Proofs.YtjkdkpckjgaplaaGreat.Ev
open Go Go.RowKit
noncomputable section
section
variable {P : Program} {C : Nat -> (CF -> Bool) -> Bool} {X : FuncId -> List Value -> St -> (Value -> St -> Bool) -> Bool} {n nt : Nat} {env : List (Nat × Value)} {s : St}
/-! ## Operations in a row -/
def mK (env : List (Nat × Value)) : Option (Nat × Bool) -> Option Bool
 | none => some true
 | some (t, w) => match look env t with
  | some (.bool b) => some (match b, w with | true, true | false, false => true | _, _ => false)
  | some (.tuple _) => some false
  | _ => none
theorem zI {T : BT Value} (hT : vB nt T env) {g : Option (Nat × Bool)} {y z : Bool} (h : mK env g = some true) (hy : y = true) : iJ T g y z = true := by
 subst hy;rcases g with _ | ⟨t, w⟩
 ·rfl
 ·simp only [mK] at h
  split at h
  ·rename_i b hb
   refine eV (k := fun v => nB v (fun b => @Bool.rec (fun _ => Bool) (@Bool.rec (fun _ => Bool) true z w) (@Bool.rec (fun _ => Bool) z true w) b) z) (hT.2 t _ hb) ?_;cases b <;> cases w <;> first | rfl | (simp at h)
  ·cases h
  ·cases h
theorem GE {T : BT Value} (hT : vB nt T env) {g : Option (Nat × Bool)} {y z : Bool} (h : mK env g = some false) (hz : z = true) : iJ T g y z = true := by
 subst hz;rcases g with _ | ⟨t, w⟩
 ·simp [mK] at h
 ·simp only [mK] at h
  split at h
  ·rename_i b hb
   refine eV (k := fun v => nB v (fun b => @Bool.rec (fun _ => Bool) (@Bool.rec (fun _ => Bool) y true w) (@Bool.rec (fun _ => Bool) true y w) b) true) (hT.2 t _ hb) ?_;cases b <;> cases w <;> first | rfl | (simp at h)
  ·rename_i a ha
   exact eV (k := fun v => nB v (fun b => @Bool.rec (fun _ => Bool) (@Bool.rec (fun _ => Bool) y true w) (@Bool.rec (fun _ => Bool) true y w) b) true) (hT.2 t _ ha) rfl
  ·cases h
variable {Q : List (Nat × Value) -> St -> Prop}
theorem NR (h : Q env s) : JH P C X n nt [] env s Q := fun T hT k hk => hk env T s hT h
theorem Pp {g : Option (Nat × Bool)} {d : Nat} {c : COp} {l : List Item} (hg : mK env g = some true) (hd : JG (some d) nt = true) (h : oS P C X n nt c env s (fun v s' => JH P C X n nt l ((d, v) :: env) s' Q)) : JH P C X n nt (⟨g, some d, c⟩ :: l) env s Q := fun T hT k hk => by
 show iJ T g (fU P (cJ P C X n) T s c (fun v s => gW T (some d) v (fun T => dW P (cJ P C X n) l T s k))) (gW T (some d) undef (fun T => dW P (cJ P C X n) l T s k)) = true;exact zI hT hg (h T hT _ (fun v s' hl => xF hT hd (fun T' hT' => hl T' hT' k hk)))
theorem NS {g : Option (Nat × Bool)} {c : COp} {l : List Item} (hg : mK env g = some true) (h : oS P C X n nt c env s (fun _ s' => JH P C X n nt l env s' Q)) : JH P C X n nt (⟨g, none, c⟩ :: l) env s Q := fun T hT k hk => by
 show iJ T g (fU P (cJ P C X n) T s c (fun v s => gW T none v (fun T => dW P (cJ P C X n) l T s k))) (gW T none undef (fun T => dW P (cJ P C X n) l T s k)) = true;exact zI hT hg (h T hT _ (fun v s' hl => hl T hT k hk))
theorem Pq {g : Option (Nat × Bool)} {d : Nat} {c : COp} {l : List Item} (hg : mK env g = some false) (hd : JG (some d) nt = true) (h : JH P C X n nt l ((d, undef) :: env) s Q) : JH P C X n nt (⟨g, some d, c⟩ :: l) env s Q := fun T hT k hk => by
 show iJ T g (fU P (cJ P C X n) T s c (fun v s => gW T (some d) v (fun T => dW P (cJ P C X n) l T s k))) (gW T (some d) undef (fun T => dW P (cJ P C X n) l T s k)) = true;exact GE hT hg (xF hT hd (fun T' hT' => h T' hT' k hk))
end
section
variable {P : Program} {C : Nat -> (CF -> Bool) -> Bool} {X : FuncId -> List Value -> St -> (Value -> St -> Bool) -> Bool} {n nt : Nat} {env : List (Nat × Value)} {s : St} {R : Value -> St -> Prop}
/-! ## The operations -/
theorem Pr {x : Ev.X} {v : Value} (hx : xv env x = some v) (h : R v s) : oS P C X n nt (.mov x) env s R := fun T hT k hk => U5 hT (k := vK s k) hx (hk _ _ h)
theorem GF {c a b : Ev.X} {v u : Value} (hc : xv env c = some (.bool true)) (ha : xv env a = some v) (hb : xv env b = some u) (h : R v s) : oS P C X n nt (.pick c a b) env s R := fun T hT k hk =>
 U5 hT (k := fun c => bF T a (fun a => bF T b (fun b => rM c a b (vK s k)))) hc (U5 hT (k := fun a => bF T b (fun b => rM (.bool true) a b (vK s k))) ha (U5 hT (k := fun b => rM (.bool true) v b (vK s k)) hb (hk _ _ h)))
theorem GG {c a b : Ev.X} {v u : Value} (hc : xv env c = some (.bool false)) (ha : xv env a = some v) (hb : xv env b = some u) (h : R u s) : oS P C X n nt (.pick c a b) env s R := fun T hT k hk =>
 U5 hT (k := fun c => bF T a (fun a => bF T b (fun b => rM c a b (vK s k)))) hc (U5 hT (k := fun a => bF T b (fun b => rM (.bool false) a b (vK s k))) ha (U5 hT (k := fun b => rM (.bool false) v b (vK s k)) hb (hk _ _ h)))
/-! Memory. -/
def xH {α : Type} : BT α -> Nat -> Bool
 | .leaf, n => Nat.beq n 0
 | .node _ l r, n => !Nat.beq n 0 && xH l (n / 2) && xH r ((n - 1) / 2)
theorem xI {α : Type} : ∀ {t : BT α} {n : Nat}, xH t n = true -> dC t n
 | .leaf, n, h => by show n = 0; simpa [xH] using h
 | .node _ l r, n, h => by
  simp only [xH, Bool.and_eq_true, Bool.not_eq_true', Bf, decide_eq_false_iff_not] at h;exact ⟨h.1.1, xI h.1.2, xI h.2⟩
def xJ {α : Type} (t : BT α) : Nat -> Nat -> Option (List α)
 | _, 0 => some []
 | i, n + 1 => match t.get i, xJ t (i + 1) n with
  | some v, some l => some (v :: l)
  | _, _ => none
theorem zJ {α : Type} {t : BT α} : ∀ {n i : Nat} {l : List α}, xJ t i n = some l -> l.length = n /\ ∀ j, j < n -> t.get (i + j) = l[j]?
 | 0, i, l, h => by cases h; exact ⟨rfl, fun j hj => absurd hj (Nat.not_lt_zero j)⟩
 | n + 1, i, l, h => by
  simp only [xJ] at h;split at h
  ·rename_i v l' h1 h2
   cases h;obtain ⟨h3, h4⟩ := zJ h2;refine ⟨by simp [h3], fun j hj => ?_⟩;cases j with
   | zero => exact h1
   | succ j => rw [List.getElem?_cons_succ, <- h4 j oM]; congr 1; omega
  ·cases h
theorem Ps {e m : Nat} {z : BT Value} {l : List Value} (hw : Wf s) (hf : xH z m = true) (hz : xJ z 0 m = some l) (h : ∀ s', qI s s' -> s'.n = s.n + 1 -> Obj s' s.n e false l -> R (ptr s.n) s') : oS P C X n nt (.new e m z) env s R := fun T hT k hk => by
 show A9 s (fun g => iH s (.cells m z e false) (k (ptr g))) = true;obtain ⟨h1, h2⟩ := zJ hz;have hf' := xI hf;refine lF (fX h1.symm hw (by rw [h1]; exact hf') (fun j => ?_) (fun s' a b c => hk _ _ (h s' a b c)));rcases Nat.lt_or_ge j m with hj | hj
 ·have := h2 j hj; simpa using this
 ·rw [hf'.none j hj, List.getElem?_eq_none oM]
theorem Pt {e : Nat} {x : Ev.X} {v : Value} {l : List Value} (hw : Wf s) (hx : xv env x = some v) (hc : v.cells = ⟨l⟩) (h1 : dU l = true) (h : ∀ s', qI s s' -> s'.n = s.n + 1 -> Obj s' s.n e false l -> R (ptr s.n) s') : oS P C X n nt (.box e x) env s R := fun T hT k hk => by
 refine U5 hT (k := fun v => Fc s e v k) hx ?_;unfold Fc;refine lF ?_;rw [cL, hc];show ifB (dU l) (cI (kN l) (fun m => eB .leaf 0 l (fun c => iH s (.cells m c e false) (k (ptr s.n))))) false = true;rw [h1, bB];exact iA (fun c hf hg => fX (iL l) hw hf hg (fun s' a b c => hk _ _ (h s' a b c)))
theorem Pu {a : Ev.X} {b off : Nat} {v : Value} (ha : xv env a = some (.pointer (some ⟨b, off, none⟩))) (hv : At s b off v) (h : R v s) : oS P C X n nt (.ld a none) env s R := fun T hT k hk =>
 U5 hT (k := fun a => Cq s none a (vK s k)) ha (Av hv (hk _ _ h))
theorem MO {a : Ev.X} {b off m : Nat} {l : List Value} (ha : xv env a = some (.pointer (some ⟨b, off, none⟩))) (hv : oR s b off l) (hm : l.length = m) (h0 : m ≠ 0) (h : R (.agg ⟨l⟩) s) : oS P C X n nt (.ld a (some m)) env s R := fun T hT k hk =>
 U5 hT (k := fun a => Cq s (some m) a (vK s k)) ha (Aw hv hm h0 (hk _ _ h))
theorem QD {a x : Ev.X} {b off e : Nat} {op : Bool} {v : Value} {l : List Value} (hw : Wf s) (ha : xv env a = some (.pointer (some ⟨b, off, none⟩))) (hx : xv env x = some v) (ho : Obj s b e op l) (hlt : off < l.length) (h1 : oneCell v = true)
 (h : ∀ s', FA s s' [b] -> s'.n = s.n -> Obj s' b e op (l.set off v) -> R undef s') : oS P C X n nt (.st a x none) env s R := fun T hT k hk =>
 U5 hT (k := fun a => bF T x (fun x => I7 s none x a (k undef))) ha (U5 hT (k := fun x => I7 s none x _ (k undef)) hx (JD hw ho hlt h1 (fun s' a b c => hk _ _ (h s' a b c))))
theorem Pv {a x : Ev.X} {b off e m : Nat} {op : Bool} {r l : List Value} (hw : Wf s) (ha : xv env a = some (.pointer (some ⟨b, off, none⟩))) (hx : xv env x = some (.agg ⟨r⟩)) (ho : Obj s b e op l) (hlt : off + m <= l.length) (hm : r.length = m) (h1 : dU r = true)
 (h : ∀ s', FA s s' [b] -> s'.n = s.n -> Obj s' b e op (over l off r) -> R undef s') : oS P C X n nt (.st a x (some m)) env s R := fun T hT k hk =>
 U5 hT (k := fun a => bF T x (fun x => I7 s (some m) x a (k undef))) ha (U5 hT (k := fun x => I7 s (some m) x _ (k undef)) hx (JE hw ho hlt hm h1 (fun s' a b c => hk _ _ (h s' a b c))))
theorem DE {a : Ev.X} {d b off : Nat} {v : Value} (ha : xv env a = some (.pointer (some ⟨b, off, none⟩))) (hd : look env d = some v) (hv : At s b off v) (he : eqV v v = true) (h : R undef s) : oS P C X n nt (.again a none d) env s R := fun T hT k hk =>
 U5 hT (k := fun a => bF T (.t d) (fun d => sZ s none a d k)) ha (U5 (x := .t d) hT (k := fun d => sZ s none _ d k) hd (Av (k := fun u => ifB (eqV u v) (k undef s) false) hv (by show ifB (eqV v v) (k undef s) false = true; rw [he]; exact hk _ _ h)))
theorem GH {a : Ev.X} {d b off m : Nat} {l : List Value} (ha : xv env a = some (.pointer (some ⟨b, off, none⟩))) (hd : look env d = some (.agg ⟨l⟩)) (hv : oR s b off l) (hm : l.length = m) (h0 : m ≠ 0) (he : eqL l l = true) (h : R undef s) : oS P C X n nt (.again a (some m) d) env s R := fun T hT k hk =>
 U5 hT (k := fun a => bF T (.t d) (fun d => sZ s (some m) a d k)) ha (U5 (x := .t d) hT (k := fun d => sZ s (some m) _ d k) hd (Aw (k := fun u => ifB (eqV u (.agg ⟨l⟩)) (k undef s) false) hv hm h0 (by show ifB (eqL l l) (k undef s) false = true; rw [he]; exact hk _ _ h)))
theorem QE {x : Ev.X} {b o off : Nat} (hx : xv env x = some (.pointer (some ⟨b, o, none⟩))) (h : R (.pointer (some ⟨b, o + off, none⟩)) s) : oS P C X n nt (.fa x off) env s R := fun T hT k hk =>
 U5 hT (k := fun x => Ow x off (vK s k)) hx (by show cI (Nat.add o off) (fun o => vK s k (.pointer (some ⟨b, o, none⟩))) = true; rw [bB]; exact hk _ _ h)
theorem QF {x i : Ev.X} {b o m c j size : Nat} {ik : IntKind} {z : Int} (hx : xv env x = some (.slice (some ⟨b, o, none⟩) m c)) (hi : xv env i = some (.int ik z)) (hz : z = (j : Int)) (hj : j < m) (h : R (.pointer (some ⟨b, o + j * size, none⟩)) s) : oS P C X n nt (.ia x i size) env s R := fun T hT k hk => by
 subst hz;refine U5 hT (k := fun x => bF T i (fun i => Ox x i size (vK s k))) hx (U5 hT (k := fun i => Ox _ i size (vK s k)) hi ?_);show ifB (Nat.blt j m) (cI (Nat.add o (Nat.mul j size)) (fun o => vK s k (.pointer (some ⟨b, o, none⟩)))) false = true;rw [show Nat.blt j m = true from by rw [Nat.blt_eq]; exact hj, bB];exact hk _ _ h
theorem Pw {x i : Ev.X} {b o m j size : Nat} {ik : IntKind} {z : Int} (hx : xv env x = some (.pointer (some ⟨b, o, none⟩))) (hi : xv env i = some (.int ik z)) (hz : z = (j : Int)) (hj : j < m) (h : R (.pointer (some ⟨b, o + j * size, none⟩)) s) : oS P C X n nt (.iaa x i m size) env s R := fun T hT k hk => by
 subst hz;refine U5 hT (k := fun x => bF T i (fun i => Cr x i m size (vK s k))) hx (U5 hT (k := fun i => Cr _ i m size (vK s k)) hi ?_);show ifB (Nat.blt j m) (cI (Nat.add o (Nat.mul j size)) (fun o => vK s k (.pointer (some ⟨b, o, none⟩)))) false = true;rw [show Nat.blt j m = true from by rw [Nat.blt_eq]; exact hj, bB];exact hk _ _ h
theorem NT {x : Ev.X} {a : Addr} (hx : xv env x = some (.pointer (some a))) (h : R (.pointer (some a)) s) : oS P C X n nt (.nilc x) env s R := fun T hT k hk => U5 hT (k := fun v => Di v (vK s k)) hx (hk _ _ h)
theorem GI {x : Ev.X} {a : Option Addr} {m c : Nat} (hx : xv env x = some (.slice a m c)) (ha : ∀ b, a = some b -> b.spot = none) (h : R (.int .i64 (m : Int)) s) : oS P C X n nt (.len x) env s R := fun T hT k hk => by
 refine U5 hT (k := fun x => eK x (fun n _ => k (.int .i64 (.ofNat n)) s) (fun _ _ n _ => k (.int .i64 (.ofNat n)) s)) hx ?_;rcases a with _ | ⟨b, o, sp⟩
 ·exact hk _ _ h
 ·have : sp = none := ha _ rfl
  subst this;exact hk _ _ h
theorem Px {x : Ev.X} {l : List Value} {i : Nat} {v : Value} (hx : xv env x = some (.tuple ⟨l⟩)) (hi : l[i]? = some v) (h : R v s) : oS P C X n nt (.ext x i) env s R := fun T hT k hk => by
 refine U5 hT (k := fun x => nD x (fun l => Aa l i (vK s k))) hx ?_;have key : ∀ {l : List Value} {i : Nat}, l[i]? = some v -> Aa l i (vK s k) = true := by
  intro l
  induction l with
  | nil => intro i h; simp at h
  | cons u l ih =>
   intro i hi;cases i with
   | zero => simp at hi; subst hi; exact hk _ _ h
   | succ i => exact ih (by simpa using hi)
 exact key hi
theorem QG {f : Nat} {p c : List Ev.X} {ps cs : List Value} (hp : xE env p = some ps) (hc : xE env c = some cs) (h : R (.func (.func f) ⟨ps⟩ ⟨cs⟩) s) : oS P C X n nt (.fn f p c) env s R := fun T hT k hk =>
 mJ hT (k := fun p => gF T c (fun c => k (.func (.func f) ⟨p⟩ ⟨c⟩) s)) hp (mJ hT (k := fun c => k (.func (.func f) ⟨ps⟩ ⟨c⟩) s) hc (hk _ _ h))
/-! Numbers. -/
theorem jI {b : BinOp} {t d : Nat} {x y : Ev.X} {u v r : Value} (hx : xv env x = some u) (hy : xv env y = some v) (hr : evBin P b t d u v = some r) (h : R r s) : oS P C X n nt (.bin b t d x y) env s R := fun T hT k hk => by
 refine U5 hT (k := fun x => bF T y (fun y => F2 P b t d x y (vK s k))) hx (U5 hT (k := fun y => F2 P b t d u y (vK s k)) hy ?_);unfold F2;rw [hr];show dV r _ = true;rw [cL]; exact hk _ _ h
theorem BE (k : IntKind) : kindEq k k = true := by cases k <;> rfl
theorem cW {b : BinOp} {t d : Nat} {k : IntKind} {m q : Int} {r : Value} (h : intBin b k m q = some r) : evBin P b t d (.int k m) (.int k q) = some r := by
 simp only [evBin, BE, h]; rfl
theorem Py {t d : Nat} {x y : Ev.X} {a b : Int} (hx : xv env x = some (.int .i64 a)) (hy : xv env y = some (.int .i64 b)) (hr : -9223372036854775808 <= a + b /\ a + b < 9223372036854775808) (h : R (.int .i64 (a + b)) s) : oS P C X n nt (.bin .add t d x y) env s R :=
 jI hx hy (cW (by simp only [intBin, fB]; rw [IntWalk.i64_in _ oM])) h
theorem Pz {t d : Nat} {x y : Ev.X} {a b : Int} (hx : xv env x = some (.int .i64 a)) (hy : xv env y = some (.int .i64 b)) (hr : -9223372036854775808 <= a - b /\ a - b < 9223372036854775808) (h : R (.int .i64 (a - b)) s) : oS P C X n nt (.bin .sub t d x y) env s R :=
 jI hx hy (cW (by simp only [intBin, fB]; rw [IntWalk.i64_in _ oM])) h
theorem PA {t d : Nat} {x y : Ev.X} {a b : Int} (hx : xv env x = some (.int .i64 a)) (hy : xv env y = some (.int .i64 b)) (hr : -9223372036854775808 <= a * b /\ a * b < 9223372036854775808) (h : R (.int .i64 (a * b)) s) : oS P C X n nt (.bin .mul t d x y) env s R :=
 jI hx hy (cW (by simp only [intBin, fB]; rw [IntWalk.i64_in _ oM])) h
theorem PC {t d : Nat} {x y : Ev.X} {a b : Int} (hx : xv env x = some (.int .i64 a)) (hy : xv env y = some (.int .i64 b)) (h0 : b ≠ 0) (hr : -9223372036854775808 <= a.tdiv b /\ a.tdiv b < 9223372036854775808) (h : R (.int .i64 (a.tdiv b)) s) : oS P C X n nt (.bin .quo t d x y) env s R :=
 jI hx hy (cW (by simp only [intBin, fB, aB]; rw [IntWalk.i64_in _ oM, show (b == 0) = false from by simpa using h0]; rfl)) h
theorem PD {t d : Nat} {x y : Ev.X} {a b : Int} (hx : xv env x = some (.int .i64 a)) (hy : xv env y = some (.int .i64 b)) (h0 : b ≠ 0) (h : R (.int .i64 (a.tmod b)) s) : oS P C X n nt (.bin .rem t d x y) env s R :=
 jI hx hy (cW (by simp only [intBin, aB]; rw [show (b == 0) = false from by simpa using h0]; rfl)) h
theorem PE {t d : Nat} {x y : Ev.X} {k : IntKind} {a b : Int} (hx : xv env x = some (.int k a)) (hy : xv env y = some (.int k b)) (h1 : a < b -> R (.bool true) s) (h2 : ¬ a < b -> R (.bool false) s) : oS P C X n nt (.bin .lss t d x y) env s R := by
 by_cases h : a < b
 ·exact jI hx hy (cW (by simp only [intBin, gG]; rw [decide_eq_true h])) (h1 h)
 ·exact jI hx hy (cW (by simp only [intBin, gG]; rw [decide_eq_false h])) (h2 h)
theorem PF {t d : Nat} {x y : Ev.X} {k : IntKind} {a b : Int} (hx : xv env x = some (.int k a)) (hy : xv env y = some (.int k b)) (h1 : b < a -> R (.bool true) s) (h2 : ¬ b < a -> R (.bool false) s) : oS P C X n nt (.bin .gtr t d x y) env s R := by
 by_cases h : b < a
 ·exact jI hx hy (cW (by simp only [intBin, gG]; rw [decide_eq_true h])) (h1 h)
 ·exact jI hx hy (cW (by simp only [intBin, gG]; rw [decide_eq_false h])) (h2 h)
theorem PG {t d : Nat} {x y : Ev.X} {k : IntKind} {a b : Int} (hx : xv env x = some (.int k a)) (hy : xv env y = some (.int k b)) (h1 : a <= b -> R (.bool true) s) (h2 : ¬ a <= b -> R (.bool false) s) : oS P C X n nt (.bin .leq t d x y) env s R := by
 by_cases h : a <= b
 ·exact jI hx hy (cW (by simp only [intBin, gG]; rw [decide_eq_false oM]; rfl)) (h1 h)
 ·exact jI hx hy (cW (by simp only [intBin, gG]; rw [decide_eq_true oM]; rfl)) (h2 h)
theorem PH {t d : Nat} {x y : Ev.X} {k : IntKind} {a b : Int} (hx : xv env x = some (.int k a)) (hy : xv env y = some (.int k b)) (h1 : b <= a -> R (.bool true) s) (h2 : ¬ b <= a -> R (.bool false) s) : oS P C X n nt (.bin .geq t d x y) env s R := by
 by_cases h : b <= a
 ·exact jI hx hy (cW (by simp only [intBin, gG]; rw [decide_eq_false oM]; rfl)) (h1 h)
 ·exact jI hx hy (cW (by simp only [intBin, gG]; rw [decide_eq_true oM]; rfl)) (h2 h)
theorem PI {t d : Nat} {x y : Ev.X} {k : IntKind} {a b : Int} (hx : xv env x = some (.int k a)) (hy : xv env y = some (.int k b)) (h1 : a = b -> R (.bool true) s) (h2 : ¬ a = b -> R (.bool false) s) : oS P C X n nt (.bin .eql t d x y) env s R := by
 by_cases h : a = b
 ·exact jI hx hy (cW (by simp only [intBin, aB]; rw [beq_iff_eq.2 h])) (h1 h)
 ·exact jI hx hy (cW (by simp only [intBin, aB]; rw [beq_eq_false_iff_ne.2 h])) (h2 h)
theorem PJ {t d : Nat} {x y : Ev.X} {k : IntKind} {a b : Int} (hx : xv env x = some (.int k a)) (hy : xv env y = some (.int k b)) (h1 : ¬ a = b -> R (.bool true) s) (h2 : a = b -> R (.bool false) s) : oS P C X n nt (.bin .neq t d x y) env s R := by
 by_cases h : a = b
 ·exact jI hx hy (cW (by simp only [intBin, aB]; rw [beq_iff_eq.2 h]; rfl)) (h2 h)
 ·exact jI hx hy (cW (by simp only [intBin, aB]; rw [beq_eq_false_iff_ne.2 h]; rfl)) (h1 h)
theorem MP {r : Option Value} {v : Value} {k : Value -> St -> Bool} (hr : r = some v) (hk : k v s = true) : oK s k r = true := by
 subst hr;exact Ds hk
theorem PK {u : UnOp} {x : Ev.X} {v r : Value} (hx : xv env x = some v) (hr : ev1 P (Op.unary u) v = some r) (h : R r s) : oS P C X n nt (.un u x) env s R := fun T hT k hk =>
 U5 hT (k := fun x => oK s k (ev1 P (Op.unary u) x)) hx (MP hr (hk _ _ h))
theorem QH {b : Builtin} {ts : Array Nat} {t : Nat} {l : List Ev.X} {vs : List Value} {r : Value} (hx : xE env l = some vs) (hr : evBi P b ts t vs = some r) (h : R r s) : oS P C X n nt (.bi b ts t l) env s R := fun T hT k hk =>
 mJ hT (k := fun l => oK s k (evBi P b ts t l)) hx (MP hr (hk _ _ h))
/-! Calls. -/
theorem Ax {f : Ev.X} {l : List Ev.X} {g : Nat} {p c vs : List Value} (hf : xv env f = some (.func (.func g) ⟨p⟩ ⟨c⟩)) (hl : xE env l = some vs) (h : xG P C X n g (p ++ (vs ++ c)) s R) : oS P C X n nt (.call f l) env s R := fun T hT k hk => by
 show bF T f (fun f => gF T l (fun l => oV (cJ P C X n) s l f k)) = true;refine U5 hT (k := fun f => gF T l (fun l => oV (cJ P C X n) s l f k)) hf (mJ hT (k := fun l => oV (cJ P C X n) s l (.func (.func g) ⟨p⟩ ⟨c⟩) k) hl ?_);show (cJ P C X n).call g (yI p (yI vs c)) s k = true;rw [pU, pU];exact h k hk
end
end
end Go.Proofs.YtjkdkpckjgaplaaGreat.Ev
