import Derived.Test.YtjkdkpckjgaplaaGreatZh04
set_option linter.unusedVariables false
set_option linter.unusedSimpArgs false
namespace Go.Proofs.YtjkdkpckjgaplaaGreat.Ev
open Go Go.RowKit
def Gl : COp -> Bool
 | .new .. | .box .. | .mks .. | .lit .. => true
 | _ => false
def Gm (P : Program) (T : BT Value) (o : Oper) (v : Value) (g : Nat) (ob : dK) : Prop :=
 ∀ (m : Mp) (w : World) (ρ : Operand -> Value), Hρ m T ρ o.op -> m g = none -> ∃ u o', (execOp ρ o).run P w = .ok (.value u) (w.alloc o') /\ OR P (m.put g w.heap.size 0) g ob o' /\ VR (m.put g w.heap.size 0) v u
def Bv (P : Program) (T : BT Value) (s : St) (o : Oper) (k : Value -> St -> Bool) : Prop :=
 ∃ v ob h', k v ⟨h', s.n + 1⟩ = true /\ s.h.get s.n = none /\ (∀ j, h'.get j = if j = s.n then some ob else s.h.get j) /\ Gm P T o v s.n ob
section
variable {P : Program} {s : St} {T : BT Value} {k : Value -> St -> Bool} {dst : Option Tmp} {ty : TypeId} {pos : String} {af : Array Edge} {gd : Option (Nat × Bool)} {c : COp}
theorem Gn (m : Mp) (g x : Nat) : VR (m.put g x 0) (ptr g) (.pointer (some ⟨x, 0, none⟩)) := by
 simp only [ptr, VR];exact ⟨trivial, _, _, Mp.put_same _ _ _ _, rfl⟩
theorem Bw (m : Mp) (g x l c : Nat) (h : c < OPEN) : VR (m.put g x 0) (.slice (some ⟨g, 0, none⟩) l c) (.slice (some ⟨x, 0, none⟩) l c) := by
 simp only [VR];refine ⟨trivial, ?_⟩;rw [if_pos h];exact ⟨_, _, Mp.put_same _ _ _ _, rfl⟩
theorem Gp {t : TypeId} (hc : compOp P ⟨dst, .alloc t, ty, pos, af, gd⟩ = some c) (hk : V6 P T s c k = true) : Bv P T s ⟨dst, .alloc t, ty, pos, af, gd⟩ k := by
 simp only [compOp] at hc;obtain ⟨z, h1, rfl⟩ := Option.map_eq_some_iff.1 hc;obtain ⟨i, v, hi, hv, rfl, hf, h2⟩ := dR h1;have hk := eU (k := fun g => iH s (.cells v.cells.size (.ofList v.cells.toList) t false) (k (ptr g))) hk;obtain ⟨h', hk, hn, hg⟩ := mF hk;refine ⟨_, _, h', hk, hn, hg, fun m w ρ _ hm => ⟨.pointer (some ⟨w.heap.size, 0, none⟩), .cells v.cells t (0, 0), ?_, ?_, Gn m _ _⟩⟩
 ·simp [execOp, Instr.alloc, eO hi hv, newVar, newRow]
 ·have := pT (P := P) (m := m.put s.n w.heap.size 0) (i := s.n) (N := v.cells.size) (e := t) (fun j u h => nH h) (LR.flat v.cells.toList hf) h2 sM
  simpa using this
theorem Gq {t : TypeId} {x : Operand} (hc : compOp P ⟨dst, .box t x, ty, pos, af, gd⟩ = some c) (hk : V6 P T s c k = true) : Bv P T s ⟨dst, .box t x, ty, pos, af, gd⟩ k := by
 simp only [compOp] at hc;obtain ⟨X, h1, rfl⟩ := Option.map_eq_some_iff.1 hc;obtain ⟨v, hv, hk1⟩ := Q4 (k := fun v => Fc s t v k) hk;have hk := eU (k := fun g => dV v (fun v => @Array.rec Value (fun _ => Bool) (fun l => ifB (dU l) (cI (kN l) (fun m => eB .leaf 0 l (fun c => iH s (.cells m c t false) (k (ptr g))))) false) v.cells)) hk1;rw [cL] at hk;obtain ⟨l, hl⟩ : ∃ l, v.cells = ⟨l⟩ := ⟨v.cells.toList, rfl⟩;rw [hl] at hk;have hk0 : ifB (dU l) (cI (kN l) (fun m => eB .leaf 0 l (fun c => iH s (.cells m c t false) (k (ptr s.n))))) false = true := hk;obtain ⟨hall, hk'⟩ := Z5 hk0;rw [bB] at hk';obtain ⟨c, hk', hcg⟩ := iP hk';obtain ⟨h', hk2, hn, hg⟩ := mF hk';refine ⟨_, _, h', hk2, hn, hg, fun m w ρ hρ hm => ?_⟩;have hvr : VR m v (ρ x) := hρ x (by simp [Op.operands]) X v h1 hv;have hcells := hvr.cells;rw [hl] at hcells;refine ⟨.pointer (some ⟨w.heap.size, 0, none⟩), .cells (ρ x).cells t (0, 0), ?_, ?_, Gn m _ _⟩
 ·simp [execOp, Instr.box, newVar, newRow]
 ·have := pT (P := P) (m := m.put s.n w.heap.size 0) (i := s.n) (N := kN l) (e := t) (c := c) (l := l) hcg (LR.mono (Mp.put_le hm) _ hcells) (pR l hall) (iL l)
  simpa using this
theorem Gr {t : TypeId} {x y : Operand} (hc : compOp P ⟨dst, .makeSlice t x y, ty, pos, af, gd⟩ = some c) (hk : V6 P T s c k = true) : Bv P T s ⟨dst, .makeSlice t x y, ty, pos, af, gd⟩ k := by
 simp only [compOp] at hc;split at hc
 ·rename_i e X Y ht h2 h3
  split at hc
  ·rename_i i z hi hz
   obtain ⟨h6, hc⟩ := bU hc;cases hc;have hs : z.size = i.size := by simpa using h6
   obtain ⟨vx, hx, hk1⟩ := Q4 (k := fun l => bF T Y (fun c => Be s e i.size i.bytes z.toList l c k)) hk;obtain ⟨vy, hy, hk⟩ := Q4 hk1;obtain ⟨i', v, hi2, hv, hvz, hf, h1⟩ := dR hz;rw [hi] at hi2; cases hi2;unfold Be at hk;obtain ⟨ka, na, rfl, hk⟩ := tC hk;obtain ⟨kb, nb, rfl, hk1⟩ := tC hk;clear hk;obtain ⟨h2', hk2⟩ := Z5 hk1;clear hk1;obtain ⟨h3', hk3⟩ := Z5 hk2;clear hk2;have := gZ h2'; subst this;have := gZ h3'; subst this;obtain ⟨_, l, hl, hk4⟩ := gY hk3;clear hk3;cases hl;obtain ⟨_, c, hc, hk5⟩ := gY hk4;clear hk4;cases hc;obtain ⟨h4, hk6⟩ := Z5 hk5;clear hk5;obtain ⟨h5, hk7⟩ := Z5 hk6;clear hk6;obtain ⟨h6, hk8⟩ := Z5 hk7;clear hk7;have h4' : l <= c := by simpa using h4
   have h5' : c <= 1048576 := by simpa using h5
   have h6' : i.bytes * c <= 1073741824 := by simpa using h6
   obtain ⟨tr, hk9, htr⟩ := iP hk8;have hk10 := eU hk9;rw [bB] at hk10;obtain ⟨h', hk11, hn, hg⟩ := mF hk10;refine ⟨_, _, h', hk11, hn, hg, fun m w ρ hρ hm => ?_⟩;have ea := (hρ x (by simp [Op.operands]) X _ h2 hx).int_inv;have eb := (hρ y (by simp [Op.operands]) Y _ h3 hy).int_inv;refine ⟨.slice (some ⟨w.heap.size, 0, none⟩) l c, .cells ⟨repeatN z.toList c⟩ e (0, 0), ?_, ?_, Bw m _ _ _ _ (by unfold OPEN; omega)⟩
   ·have w1 : IntKind.i64.wrap (Int.ofNat l) = l := by
     rw [<- fB]; simp only [wrapq]; have : fits (Int.ofNat l) = true := by simp only [fits, Nat.blt_eq]; omega
     rw [this]; rfl
    have w2 : IntKind.i64.wrap (Int.ofNat c) = c := by
     rw [<- fB]; simp only [wrapq]; have : fits (Int.ofNat c) = true := by simp only [fits, Nat.blt_eq]; omega
     rw [this]; rfl
    have hcell : (Array.range (c * i.size)).map (fun j => (if c * i.size = 0 then #[] else z)[j % (if c * i.size = 0 then #[] else z).size]!) = ⟨repeatN z.toList c⟩ := by
     by_cases h0 : c * i.size = 0
     ·rw [h0]
      apply Array.ext'
      have : (repeatN z.toList c).length = 0 := by rw [bV]; show c * z.size = 0; rw [hs]; exact h0
      have e0 := List.eq_nil_of_length_eq_zero this;simp only [e0, Array.toList_map, Array.toList_range, List.range_zero, List.map_nil]
     ·rw [if_neg h0, <- hs]; exact jY z c
    have hb1 : ¬ (i.bytes : Int) * (c : Int) > 2 ^ 48 := by
     rw [<- Int.natCast_mul];omega
    have hc0 : ¬ ((c : Int) < 0) := oM
    have hl0 : ¬ ((l : Int) < 0) := oM
    have hlc : ¬ ((l : Int) > (c : Int)) := oM
    have he : execOp ρ ⟨dst, .makeSlice t x y, ty, pos, af, gd⟩ = (do pure (Next.value (<- Instr.makeSlice t (ρ x) (ρ y)))) := rfl;rw [he, ea, eb];have key : (Instr.makeSlice t (.int .i64 (Int.ofNat l)) (.int .i64 (Int.ofNat c))).run P w = .ok (.slice (some ⟨w.heap.size, 0, none⟩) l c) (w.alloc (.cells ⟨repeatN z.toList c⟩ e (0, 0))) := by
     unfold Instr.makeSlice;simp only [Sem.run_bind, Y5 ht, Result.andThen_ok, asInt, asIntOf, Sem.run_pure, eC hi, w1, w2];rw [if_neg (by simp only [hc0, hl0, hlc, hb1, decide_false, Bool.or_self, Bool.false_eq_true, not_false_eq_true])];simp only [Sem.run_bind, run_askRoom, bE hi, Result.andThen_ok, Int.toNat_natCast, Sem.run_ite];by_cases h0 : c * i.size = 0
     ·rw [if_pos h0]
      rw [if_pos h0] at hcell;simp only [Sem.run_bind, Sem.run_pure, Result.andThen_ok, newRow, run_newObj];rw [hcell]; rfl
     ·rw [if_neg h0]
      rw [if_neg h0] at hcell;simp only [Sem.run_bind, Sem.run_pure, Result.andThen_ok, newRow, run_newObj, eO hi hv, hvz];rw [hcell]; rfl
    rw [Sem.run_bind, key];rfl
   ·exact pT htr (LR.flat _ (fV hf c)) (hJ h1 c) (by rw [bV]; show c * i.size = c * z.size; rw [hs])
  ·cases hc
 ·cases hc
open Classical in
theorem Gs {t : TypeId} {len : Nat} {qs : Array (Nat × Operand)} (hc : compOp P ⟨dst, .buildSlice t len qs, ty, pos, af, gd⟩ = some c) (hk : V6 P T s c k = true) : Bv P T s ⟨dst, .buildSlice t len qs, ty, pos, af, gd⟩ k := by
 simp only [compOp] at hc;split at hc
 ·rename_i e ht
  split at hc
  ·rename_i i z hi hz
   split at hc
   ·rename_i xs h4
    obtain ⟨h5, hc⟩ := bU hc;cases hc;simp only [Bool.and_eq_true, Nat.ble_eq] at h5;obtain ⟨⟨⟨h5, h6⟩, h16⟩, hlen⟩ := h5;have hzs : z.size = i.size := by simpa using h6
    obtain ⟨ps, hv, hk1⟩ := lD (k := fun ps => Bc s e len (len * i.size) (repeatN z.toList len) ps k) hk;obtain ⟨i', zv, hi2, hzv, hvz, hf, hone⟩ := dR hz;rw [hi] at hi2; cases hi2;unfold Bc at hk1;have hrl : (repeatN z.toList len).length = len * i.size := by rw [bV]; show len * z.size = _; rw [hzs]
    obtain ⟨c, hk2, hc⟩ := iP hk1;obtain ⟨c', hk3, hpar⟩ := bD.fill _ hk2;have hk4 := eU (k := fun g => iH s (.cells (len * i.size) c' e false) (k (.slice (some ⟨g, 0, none⟩) len len))) hk3;obtain ⟨h', hk5, hn, hg⟩ := mF hk4;refine ⟨_, _, h', hk5, hn, hg, fun m w ρ hρ hm => ?_⟩;have hp := rR (m := m) (ρ := ρ) h4 hv hρ;have hff : ∀ v ∈ repeatN z.toList len, flat v = true := by
     have : ∀ (l : List Value), flatL l = true -> ∀ v ∈ l, flat v = true := by
      intro l
      induction l with
      | nil => intro _ v hv; cases hv
      | cons a l ih =>
       intro h v hv;simp only [flatL, Bool.and_eq_true] at h;rcases List.mem_cons.1 hv with rfl | hv
       ·exact h.1
       ·exact ih h.2 v hv
     exact this _ (fV hf len)
    obtain ⟨c2, cs', hc2, hfill, hsz, hc'⟩ := vG (m := m) (cs := ⟨repeatN z.toList len⟩) (N := len * i.size) (k := fun x => decide (x = c')) hp (wS h5 hv) hrl (fun j v hj => by
     have h1 := hc j v hj;exact ⟨hJ hone len v (List.mem_of_getElem? h1), v, by simpa using h1, VR.flat v (hff v (List.mem_of_getElem? h1))⟩) (hpar _ sM)
    have : c2 = c' := by simpa using hc2
    subst this;refine ⟨.slice (some ⟨w.heap.size, 0, none⟩) len len, .cells cs' e (0, 0), ?_, ?_, Bw m _ _ _ _ (by unfold OPEN; omega)⟩
    ·have hcell : ∀ Z : Array Value, (Z = if len * i.size = 0 then #[] else z) -> (Array.range (len * i.size)).map (fun j => Z[j % Z.size]!) = ⟨repeatN z.toList len⟩ := by
      rintro Z rfl;by_cases h0 : len * i.size = 0
      ·rw [h0]
       apply Array.ext'
       have e0 := List.eq_nil_of_length_eq_zero (hrl.trans h0);simp only [e0, Array.toList_map, Array.toList_range, List.range_zero, List.map_nil]
      ·rw [if_neg h0, <- hzs]; exact jY z len
     have hbig : ¬ len * i.size > 2 ^ 24 := oM
     have he : execOp ρ ⟨dst, .buildSlice t len qs, ty, pos, af, gd⟩ = (do pure (Next.value (<- Instr.buildSlice t len ⟨qs.toList.map fun (p : Nat × Operand) => (p.1, ρ p.2)⟩))) := by
      rw [<- tH];rfl
     have key : (Instr.buildSlice t len ⟨qs.toList.map fun (p : Nat × Operand) => (p.1, ρ p.2)⟩).run P w = .ok (.slice (some ⟨w.heap.size, 0, none⟩) len len) (w.alloc (.cells cs' e (0, 0))) := by
      unfold Instr.buildSlice;simp only [Sem.run_bind, Y5 ht, Result.andThen_ok, bE hi, if_neg hbig, Sem.run_pure, Sem.run_ite];by_cases h0 : len * i.size = 0
      ·have hc0 := hcell #[] (by rw [if_pos h0])
       simp only [if_pos h0, Sem.run_bind, Sem.run_pure, Result.andThen_ok];rw [hc0, hfill];simp [newRow]
      ·have hc0 := hcell z (by rw [if_neg h0])
       simp only [if_neg h0, Sem.run_bind, Sem.run_pure, Result.andThen_ok, eO hi hzv, hvz];rw [hc0, hfill];simp [newRow]
     rw [he, Sem.run_bind, key];rfl
    ·refine ⟨cs', rfl, by rw [hsz]; exact Nat.le_refl _, fun j v hj => ?_, sM, fun j v hj => ?_⟩
     ·obtain ⟨_, v', h1, h2⟩ := hc' j v hj
      exact ⟨v', h1, h2.mono (Mp.put_le hm)⟩
     ·obtain ⟨h0, v', h1, h2⟩ := hc' j v hj
      exact ⟨h0, by rw [<- hsz]; exact (Array.getElem?_eq_some_iff.1 h1).1⟩
   ·cases hc
  ·cases hc
 ·cases hc
theorem tK {op : Op} (hc : compOp P ⟨dst, op, ty, pos, af, gd⟩ = some c) : (calm op = true -> Ao c = true ∨ Gl c = true) /\ (oY c = true -> isLook op = true) /\ (Gl c = true -> ∀ {T : BT Value} {s : St} {k : Value -> St -> Bool}, V6 P T s c k = true -> Bv P T s ⟨dst, op, ty, pos, af, gd⟩ k) := by
 have hm : ∀ {α : Type} {x : Option α} {f : α -> COp}, x.map f = some c -> ∃ a, c = f a := by
  intro α x f h;obtain ⟨a, _, e⟩ := Option.map_eq_some_iff.1 h;exact ⟨a, e.symm⟩
 cases op with
 | alloc t => exact ⟨fun _ => (by obtain ⟨a, rfl⟩ := hm hc; exact .inr rfl), fun h => (by obtain ⟨a, rfl⟩ := hm hc; cases h), fun _ _ _ _ hk => Gp hc hk⟩
 | box t x => exact ⟨fun _ => (by obtain ⟨a, rfl⟩ := hm hc; exact .inr rfl), fun h => (by obtain ⟨a, rfl⟩ := hm hc; cases h), fun _ _ _ _ hk => Gq hc hk⟩
 | makeSlice t x y =>
  refine ⟨fun _ => ?_, fun h => ?_, fun _ _ _ _ hk => Gr hc hk⟩
  all_goals
   simp only [compOp] at hc
   repeat' split at hc
   all_goals first | (obtain ⟨_, hc⟩ := bU hc; cases hc; first | exact .inr rfl | cases h) | cases hc
 | buildSlice t n x =>
  refine ⟨fun _ => ?_, fun h => ?_, fun _ _ _ _ hk => Gs hc hk⟩
  all_goals
   simp only [compOp] at hc
   repeat' split at hc
   all_goals first | (obtain ⟨_, hc⟩ := bU hc; cases hc; first | exact .inr rfl | cases h) | cases hc
 | call cl =>
  obtain ⟨ce, args, ts⟩ := cl;cases ce with
  | value f =>
   simp only [compOp] at hc;split at hc
   ·cases hc; exact ⟨fun h => (by cases h), fun h => (by cases h), fun h => (by cases h)⟩
   ·cases hc
  | invoke => cases hc
  | builtin b =>
   simp only [compOp] at hc
   repeat' split at hc
   all_goals first
    | (cases hc; done)
    | (cases hc; exact ⟨fun h => (by cases h), fun h => (by cases h), fun h => (by cases h)⟩)
    | (obtain ⟨a, rfl⟩ := hm hc; exact ⟨fun h => (by first | exact .inl rfl | cases h), fun h => (by cases h), fun h => (by cases h)⟩)
    | (obtain ⟨_, hc⟩ := bU hc; cases hc; exact ⟨fun h => (by cases h), fun h => (by cases h), fun h => (by cases h)⟩)
    | (obtain ⟨_, hc⟩ := bU hc; cases hc; done)
    | (obtain ⟨_, hc⟩ := bU hc; split at hc <;> first | (cases hc; done) | (cases hc; exact ⟨fun h => (by cases h), fun h => (by cases h), fun h => (by cases h)⟩))
 | makeFunc fn => cases fn with
  | func f =>
   simp only [compOp] at hc
   repeat' split at hc
   all_goals first | (cases hc; done) | (cases hc; exact ⟨fun h => .inl rfl, fun h => (by cases h), fun h => (by cases h)⟩)
  | _ => cases hc
 | makeMap t r => cases r with
  | none => cases hc; exact ⟨fun h => (by cases h), fun h => (by cases h), fun h => (by cases h)⟩
  | some r => cases hc
 | _ =>
  simp only [compOp] at hc
  repeat' split at hc
  all_goals first
   | (cases hc; done)
   | (cases hc; exact ⟨fun h => (by first | exact .inl rfl | cases h), fun h => (by first | rfl | cases h), fun h => (by cases h)⟩)
   | (obtain ⟨a, rfl⟩ := hm hc; exact ⟨fun h => (by first | exact .inl rfl | cases h), fun h => (by first | rfl | cases h), fun h => (by cases h)⟩)
   | (obtain ⟨_, hc⟩ := bU hc; cases hc; exact ⟨fun h => (by first | exact .inl rfl | cases h), fun h => (by first | rfl | cases h), fun h => (by cases h)⟩)
   | (rw [qR] at hc; split at hc <;> first | (cases hc; done) | (cases hc; exact ⟨fun h => (by first | exact .inl rfl | cases h), fun h => (by first | rfl | cases h), fun h => (by cases h)⟩))
end
end Go.Proofs.YtjkdkpckjgaplaaGreat.Ev
namespace Go.Proofs.YtjkdkpckjgaplaaGreat.Ev
open Go Go.RowKit
def oQ (L : Array Bool) (i : Nat) : Prop := L.getD i false = true
theorem rW {L : Array Bool} {i : Nat} (hi : i < L.size) (j : Nat) : oQ (L.setIfInBounds i true) j ↔ j = i ∨ oQ L j := by
 unfold oQ;by_cases h : i = j
 ·subst h
  simp [hi]
 ·rw [getD_set_ne false h]
  constructor
  ·exact .inr
  ·rintro (h' | h')
   ·exact absurd h'.symm h
   ·exact h'
theorem fW {L : Array Bool} {i : Nat} : L.getD i true = false ↔ i < L.size /\ ¬ oQ L i := by
 unfold oQ;by_cases h : i < L.size
 ·simp [h]
 ·simp [h]
def lY (o : Oper) (i : Nat) : Prop := ∃ e ∈ o.after, Region.binds .any e = true /\ e.on = i
structure tL (P : Program) (ops : Array Oper) : Prop where
 one : ∀ {i j : Nat} {o o' : Oper} {d : Nat}, ops[i]? = some o -> ops[j]? = some o' -> o.dst = some d -> o'.dst = some d -> i = j
 dep : ∀ {i j : Nat} {o o' : Oper} {d : Nat}, ops[i]? = some o' -> o'.dst = some d -> ops[j]? = some o -> d ∈ readsT P ops o -> lY o i ∨ (isLook o.op = false /\ anc (Region.before ops) i j = true)
theorem Dt {d : Nat} : ∀ {l : List Nat}, d ∈ l -> memN d l = true
 | x :: l, h => by
  simp only [memN, Bool.or_eq_true, Nat.beq_eq];rcases List.mem_cons.1 h with rfl | h
  ·exact .inl sM
  ·exact .inr (Dt h)
theorem zA {P : Program} {ops : Array Oper} {b : Array Nat} (h : tmpsOk P ops b = true) {i j : Nat} {o o' : Oper} {d : Nat} (hi : ops[i]? = some o') (hd : o'.dst = some d) (hj : ops[j]? = some o) :
 (i = j ∨ writes o d = false) /\ ((memN d (readsT P ops o) = false ∨ depOn o i = true) ∨ (isLook o.op = false /\ anc b i j = true)) := by
 unfold tmpsOk at h;have hi' : i < ops.size := (Array.getElem?_eq_some_iff.1 hi).1;have hj' : j < ops.size := (Array.getElem?_eq_some_iff.1 hj).1;have h1 := List.all_eq_true.1 h i (List.mem_range.2 hi');simp only [hi, hd] at h1;have h2 := List.all_eq_true.1 h1 j (List.mem_range.2 hj');simp only [hj, Bool.and_eq_true, Bool.or_eq_true, Bool.not_eq_true', Nat.beq_eq] at h2;refine ⟨?_, h2.2⟩;rcases h2.1 with h3 | h3
 ·exact .inl (by simpa using h3)
 ·exact .inr h3
theorem Jp {P : Program} {ops : Array Oper} (h : tmpsOk P ops (Region.before ops) = true) : tL P ops where
 one := by
  intro i j o o' d hi hj hd hd';rcases (zA h hi hd hj).1 with h1 | h1
  ·exact h1
  ·simp [writes, hd'] at h1
 dep := by
  intro i j o o' d hi hd hj hm;rcases (zA h hi hd hj).2 with (h1 | h1) | h1
  ·rw [Dt hm] at h1; cases h1
  ·unfold depOn at h1
   rw [List.any_eq_true] at h1;obtain ⟨e, he, h2⟩ := h1;simp only [Bool.and_eq_true, Nat.beq_eq] at h2;exact .inl ⟨e, by simpa using he, h2.2, by simpa using h2.1⟩
  ·exact .inr h1
/-! What waits for what, by 'before' -/
theorem zB {f : Array Nat -> Oper -> Nat} : ∀ (l : List Oper) (A : Array Nat),
 (∀ i, i < A.size -> (l.foldl (fun acc o => acc.push (f acc o)) A).getD i 0 = A.getD i 0) /\
 ∀ (i : Nat) (o : Oper), l[i]? = some o -> ∃ A' : Array Nat, A'.size = A.size + i /\ (∀ k, k < A'.size -> (l.foldl (fun acc o => acc.push (f acc o)) A).getD k 0 = A'.getD k 0) /\ (l.foldl (fun acc o => acc.push (f acc o)) A).getD (A.size + i) 0 = f A' o
 | [], A => ⟨fun _ _ => rfl, fun i o h => by simp at h⟩
 | x :: l, A => by
  obtain ⟨h1, h2⟩ := zB l (A.push (f A x));refine ⟨fun i hi => ?_, fun i o ho => ?_⟩
  ·rw [List.foldl_cons, h1 i (by simp; omega)]
   simp [Array.getD_eq_getD_getElem?, Array.getElem?_push_lt hi, hi]
  ·rw [List.foldl_cons]
   rcases i with _ | i
   ·simp at ho
    subst ho;refine ⟨A, rfl, fun k hk => ?_, ?_⟩
    ·rw [h1 k (by simp; omega)]
     simp [Array.getD_eq_getD_getElem?, Array.getElem?_push_lt hk, hk]
    ·rw [Nat.add_zero, h1 A.size sM]
     simp [Array.getD_eq_getD_getElem?]
   ·obtain ⟨A', h3, h4, h5⟩ := h2 i o (by simpa using ho)
    refine ⟨A', by rw [h3]; simp; omega, h4, ?_⟩;rw [<- h5]
    congr 1
    simp; omega
theorem zD {A : Array Nat} {i : Nat} : ∀ (l : List Edge) (s : Nat), (l.foldl (fun s e => if Region.binds .any e then s ||| 2 ^ e.on ||| A.getD e.on 0 else s) s).testBit i = true -> s.testBit i = true ∨ ∃ e ∈ l, Region.binds .any e = true /\ (e.on = i ∨ (A.getD e.on 0).testBit i = true)
 | [], s, h => .inl h
 | e :: l, s, h => by
  rw [List.foldl_cons] at h;rcases zD l _ h with h | ⟨e', h1, h2⟩
  ·by_cases hb : Region.binds .any e = true
   ·rw [if_pos hb, Nat.testBit_or, Nat.testBit_or, Bool.or_eq_true, Bool.or_eq_true] at h
    rcases h with (h | h) | h
    ·exact .inl h
    ·refine .inr ⟨e, sM, hb, .inl ?_⟩
     rw [Nat.testBit_two_pow] at h;simpa using h
    ·exact .inr ⟨e, sM, hb, .inr h⟩
   ·rw [if_neg hb] at h
    exact .inl h
  ·exact .inr ⟨e', List.mem_cons_of_mem _ h1, h2⟩
theorem Fq {ops : Array Oper} {j i : Nat} {o : Oper} (ho : ops[j]? = some o) (h : anc (Region.before ops) j i = true) : ∃ e ∈ o.after, Region.binds .any e = true /\ (e.on = i ∨ (e.on < j /\ anc (Region.before ops) e.on i = true)) := by
 unfold anc at h ⊢;have he : Region.before ops = ops.toList.foldl (fun acc o => acc.push (o.after.foldl (fun s e => if Region.binds .any e then s ||| 2 ^ e.on ||| acc.getD e.on 0 else s) 0)) #[] := by
  unfold Region.before;rw [<- Array.foldl_toList]
 obtain ⟨_, h2⟩ := zB (f := fun acc o => o.after.foldl (fun s e => if Region.binds .any e then s ||| 2 ^ e.on ||| acc.getD e.on 0 else s) 0) ops.toList #[];obtain ⟨A', h3, h4, h5⟩ := h2 j o (by simpa using ho);rw [<- he] at h4 h5;simp only [Array.size_empty, Nat.zero_add] at h3 h5;rw [h5, <- Array.foldl_toList] at h;rcases zD o.after.toList 0 h with h | ⟨e, h6, h7, h8⟩
 ·simp at h
 ·refine ⟨e, by simpa using h6, h7, ?_⟩
  rcases h8 with h8 | h8
  ·exact .inl h8
  ·right
   have hlt : e.on < A'.size := by
    rcases Nat.lt_or_ge e.on A'.size with h9 | h9
    ·exact h9
    ·simp [Array.getD_eq_getD_getElem?, Array.getElem?_eq_none h9] at h8
   exact ⟨oM, by rw [h4 e.on hlt]; exact h8⟩
def tM (ops : Array Oper) (p : Nat -> Prop) : Prop := ∀ i o, p i -> ops[i]? = some o -> ∀ k, lY o k -> p k
theorem CJ {ops : Array Oper} {p : Nat -> Prop} (hc : tM ops p) {i : Nat} : ∀ (n j : Nat) {o : Oper}, j < n -> ops[j]? = some o -> (∀ k, lY o k -> p k) -> anc (Region.before ops) j i = true -> p i
 | 0, j, o, hj, ho, hd, h => oM
 | n + 1, j, o, hj, ho, hd, h => by
  obtain ⟨e, he, hb, h1⟩ := Fq ho h;have hin := hd e.on ⟨e, he, hb, rfl⟩;rcases h1 with rfl | ⟨h1, h2⟩
  ·exact hin
  ·have hlt : j < ops.size := (Array.getElem?_eq_some_iff.1 ho).1
   have ho' : ops[e.on]? = some ops[e.on] := Array.getElem?_eq_getElem oM;exact CJ hc n e.on oM ho' (hc _ _ hin ho') h2
def iE (ops : Array Oper) (V : Nat -> Value) (Ti : BT Value) (p : Nat -> Prop) (t : Nat) (v : Value) : Prop :=
 (∃ i o, p i /\ ops[i]? = some o /\ o.dst = some t /\ v = V i) ∨ ((∀ i o, p i -> ops[i]? = some o -> o.dst ≠ some t) /\ Ti.get t = some v)
theorem iE.val {ops : Array Oper} {V V' : Nat -> Value} {Ti : BT Value} {p : Nat -> Prop} (h : ∀ i, p i -> V' i = V i) {t : Nat} {v : Value} : iE ops V' Ti p t v ↔ iE ops V Ti p t v := by
 constructor
 ·rintro (⟨i, o, h1, h2, h3, rfl⟩ | h1)
  ·exact .inl ⟨i, o, h1, h2, h3, h i h1⟩
  ·exact .inr h1
 ·rintro (⟨i, o, h1, h2, h3, rfl⟩ | h1)
  ·exact .inl ⟨i, o, h1, h2, h3, (h i h1).symm⟩
  ·exact .inr h1
theorem iE.at {P : Program} {ops : Array Oper} (hU : tL P ops) {V : Nat -> Value} {Ti : BT Value} {p : Nat -> Prop} (hc : tM ops p) {j : Nat} {o : Oper} (ho : ops[j]? = some o) (hd : ∀ k, lY o k -> p k) (hj : ¬ p j) {t : Nat} (ht : t ∈ readsT P ops o) {v : Value} :
 iE ops V Ti p t v ↔ iE ops V Ti (lY o) t v := by
 have key : ∀ i o', p i -> ops[i]? = some o' -> o'.dst = some t -> lY o i := by
  intro i o' hi ho' hdst;rcases hU.dep ho' hdst ho ht with h | ⟨_, h⟩
  ·exact h
  ·exact absurd (CJ hc (i + 1) i (Nat.lt_succ_self i) ho' (hc i o' hi ho') h) hj
 constructor
 ·rintro (⟨i, o', h1, h2, h3, rfl⟩ | ⟨h1, h2⟩)
  ·exact .inl ⟨i, o', key i o' h1 h2 h3, h2, h3, rfl⟩
  ·exact .inr ⟨fun i o' hi => h1 i o' (hd i hi), h2⟩
 ·rintro (⟨i, o', h1, h2, h3, rfl⟩ | ⟨h1, h2⟩)
  ·exact .inl ⟨i, o', hd i h1, h2, h3, rfl⟩
  ·exact .inr ⟨fun i o' hi h3 h4 => h1 i o' (key i o' hi h3 h4) h3 h4, h2⟩
theorem iE.look {P : Program} {ops : Array Oper} (hU : tL P ops) {V : Nat -> Value} {Ti : BT Value} {p : Nat -> Prop} {j : Nat} {o : Oper} (ho : ops[j]? = some o) (hd : ∀ k, lY o k -> p k) (hl : isLook o.op = true) {t : Nat} (ht : t ∈ readsT P ops o) {v : Value} :
 iE ops V Ti p t v ↔ iE ops V Ti (lY o) t v := by
 have key : ∀ i o', p i -> ops[i]? = some o' -> o'.dst = some t -> lY o i := by
  intro i o' hi ho' hdst;rcases hU.dep ho' hdst ho ht with h | ⟨h, _⟩
  ·exact h
  ·rw [hl] at h; cases h
 constructor
 ·rintro (⟨i, o', h1, h2, h3, rfl⟩ | ⟨h1, h2⟩)
  ·exact .inl ⟨i, o', key i o' h1 h2 h3, h2, h3, rfl⟩
  ·exact .inr ⟨fun i o' hi => h1 i o' (hd i hi), h2⟩
 ·rintro (⟨i, o', h1, h2, h3, rfl⟩ | ⟨h1, h2⟩)
  ·exact .inl ⟨i, o', hd i h1, h2, h3, rfl⟩
  ·exact .inr ⟨fun i o' hi h3 h4 => h1 i o' (key i o' hi h3 h4) h3 h4, h2⟩
/-! Guards -/
def qT (T : BT Value) : Option (Nat × Bool) -> Prop
 | none => True
 | some (t, w) => T.get t = some (.bool w)
def oZ (T : BT Value) : Option (Nat × Bool) -> Prop
 | none => False
 | some (t, w) => ∃ v, T.get t = some v /\ v ≠ .bool w
theorem kA {T : BT Value} {g : Option (Nat × Bool)} {y n : Bool} (hk : iJ T g y n = true) : (qT T g /\ y = true) ∨ (oZ T g /\ n = true) := by
 rcases g with _ | ⟨t, w⟩
 ·exact .inl ⟨trivial, hk⟩
 ·have hk0 : jR T t (fun v => nB v (fun b => @Bool.rec (fun _ => Bool) (@Bool.rec (fun _ => Bool) y n w) (@Bool.rec (fun _ => Bool) n y w) b) n) = true := hk
  obtain ⟨v, hv, hk1⟩ := iK hk0;rcases uK hk1 with ⟨b, rfl, hk2⟩ | ⟨hb, hk2⟩
  ·cases b <;> cases w <;> first | exact .inl ⟨hv, hk2⟩ | exact .inr ⟨⟨_, hv, sM⟩, hk2⟩
  ·exact .inr ⟨⟨v, hv, hb w⟩, hk2⟩
def pW (ops : Array Oper) (o : Oper) (g : Option (Nat × Bool)) : Prop := (o.guard = none /\ g = none) ∨ ∃ j w t, o.guard = some (j, w) /\ (ops[j]?).bind (·.dst) = some t /\ g = some (t, w)
theorem rX {m : Mp} {T : BT Value} {ops : Array Oper} {o : Oper} {g : Option (Nat × Bool)} {a : Act} (hg : pW ops o g) (ht : ∀ t w, g = some (t, w) -> ∀ v, T.get t = some v -> ∃ u, a.tmps[t]? = some u /\ VR m v u) :
 (qT T g -> Region.wanted o (yielded ops a.tmps) = true) /\ (oZ T g -> Region.wanted o (yielded ops a.tmps) = false) := by
 rcases hg with ⟨h1, rfl⟩ | ⟨j, w, t, h1, h2, rfl⟩
 ·exact ⟨fun _ => by simp [Region.wanted, h1], fun h => h.elim⟩
 ·have hy : ∀ u, a.tmps[t]? = some u -> yielded ops a.tmps j = match u with | .bool b => some b | _ => none := by
   intro u hu;unfold yielded;rw [h2];simp only [Option.bind_some, hu];cases u <;> rfl
  refine ⟨fun h => ?_, fun h => ?_⟩
  ·obtain ⟨u, hu, hvu⟩ := ht t w rfl _ h
   have : u = .bool w := by simpa only [VR] using hvu
   subst this;have := hy _ hu;simp only at this;simp [Region.wanted, h1, this]
  ·obtain ⟨v, hv, hb⟩ := h
   obtain ⟨u, hu, hvu⟩ := ht t w rfl _ hv;have hy := hy u hu;cases u with
   | bool b =>
    have := hvu.bool_back;subst this;simp only at hy;have : b ≠ w := fun e => hb (by rw [e])
    simp [Region.wanted, h1, hy, this]
   | _ =>
    simp only at hy;simp [Region.wanted, h1, hy]
theorem OX {ops : Array Oper} {o : Oper} {t : Nat} {w : Bool} (hg : pW ops o (some (t, w))) : t ∈ gT ops o := by
 rcases hg with ⟨_, h⟩ | ⟨j, w', t', h1, h2, h3⟩
 ·cases h
 ·cases h3
  unfold gT;rw [h1];simp only [h2];simp
/-! What is done ahead -/
def kF (P : Program) (ops : Array Oper) (V : Nat -> Value) (Ti : BT Value) (S : St) (K0 K : Kp) (H : Nat -> Nat) (z : Prop) (i : Nat) : Prop :=
 ∃ x o T, compItem P ops i = some x /\ ops[i]? = some o /\ x.d = o.dst /\ x.op = orBad (compOp P o) /\ pW ops o x.g /\ (∀ t ∈ readsT P ops o, ∀ v, T.get t = some v ↔ iE ops V Ti (lY o) t v) /\
  ((qT T x.g /\ ∃ c, compOp P o = some c /\
   ((Ao c = true /\ ((oY c = true -> z) -> ∀ k' : Value -> St -> Bool, k' (V i) S = true -> V6 P T S c k' = true)) ∨ ∃ g ob, K g = some ob /\ K0 g = none /\ H g = i /\ Gm P T o (V i) g ob)) ∨
   (oZ T x.g /\ V i = undef))
theorem qT.same {T T' : BT Value} {g : Option (Nat × Bool)} (h : qT T g) (ht : ∀ t w, g = some (t, w) -> T'.get t = T.get t) : qT T' g := by
 rcases g with _ | ⟨t, w⟩
 ·trivial
 ·show T'.get t = _
  rw [ht t w rfl]; exact h
theorem oZ.same {T T' : BT Value} {g : Option (Nat × Bool)} (h : oZ T g) (ht : ∀ t w, g = some (t, w) -> T'.get t = T.get t) : oZ T' g := by
 rcases g with _ | ⟨t, w⟩
 ·exact h
 ·obtain ⟨v, h1, h2⟩ := h
  exact ⟨v, by rw [ht t w rfl]; exact h1, h2⟩
theorem rY {P : Program} {ops : Array Oper} {o : Oper} {g : Option (Nat × Bool)} (hg : pW ops o g) : ∀ t w, g = some (t, w) -> t ∈ readsT P ops o := by
 rintro t w rfl;exact List.mem_append_right _ (OX hg)
theorem Du {P : Program} {ops : Array Oper} {o : Oper} {x : Operand} {t : Nat} (hx : x ∈ o.op.operands) (h : cx x = some (.t t)) : t ∈ readsT P ops o := by
 have : x = .tmp t := by
  cases x with
  | tmp u => simp only [cx, Option.some.injEq, X.t.injEq] at h; rw [h]
  | const v => simp only [cx] at h; obtain ⟨_, h⟩ := bU h; cases h
  | func f => cases h
  | global g => cases h
 subst this;exact List.mem_append_left _ (List.mem_append_left _ (List.mem_flatMap.2 ⟨_, by simpa using hx, by simp [oT]⟩))
theorem Jq {P : Program} {ops : Array Oper} {m : Mp} {T T' : BT Value} {ρ : Operand -> Value} {o : Oper} (h : ∀ t ∈ readsT P ops o, T'.get t = T.get t) (hρ : Hρ m T' ρ o.op) : Hρ m T ρ o.op := by
 intro x hx X v hc hv;refine hρ x hx X v hc ?_;cases X with
 | t i =>
  show T'.get i = some v;rw [h i (Du hx hc)]; exact hv
 | c u => exact hv
open Classical in
theorem kF.keep {P : Program} {ops : Array Oper} {V V' : Nat -> Value} {Ti : BT Value} {S S' : St} {K0 K K' : Kp} {H H' : Nat -> Nat} {z z' : Prop} {i : Nat} (h : kF P ops V Ti S K0 K H z i) (hV : V' i = V i) (hVd : ∀ o, ops[i]? = some o -> ∀ k, lY o k -> V' k = V k)
 (hz : z' -> z /\ S.ext S') (hK : ∀ g ob, K g = some ob -> H g = i -> K' g = some ob /\ H' g = i) : kF P ops V' Ti S' K0 K' H' z' i := by
 obtain ⟨x, o, T, h1, h2, h3, h4, h5, hT, h6⟩ := h;refine ⟨x, o, T, h1, h2, h3, h4, h5, fun t ht v => (hT t ht v).trans (iE.val (hVd o h2)).symm, ?_⟩;rw [hV];rcases h6 with ⟨h6, c, h7, h9⟩ | h6
 ·refine .inl ⟨h6, c, h7, ?_⟩
  rcases h9 with ⟨h9, h10⟩ | ⟨g, ob, h9, h10, h11, h12⟩
  ·refine .inl ⟨h9, fun hl k' hk' => ?_⟩
   have := h10 (fun h => (hz (hl h)).1) (fun v' s' => decide (v' = V i)) sM;obtain ⟨v', hv', hh⟩ := Bu (R := fun s' => oY c = true -> S.ext s') h9 (fun h s' hs => hs h) _ this;have : v' = V i := by simpa using hv'
   subst this;exact hh T S' k' (fun _ _ _ h => h) (fun h => (hz (hl h)).2) hk'
  ·obtain ⟨h13, h14⟩ := hK g ob h9 h11
   exact .inr ⟨g, ob, h13, h10, h14, h12⟩
 ·exact .inr h6
def MJ (ops : Array Oper) : List Nat -> Prop
 | [] => True
 | i :: l => i ∉ l /\ (∃ o, ops[i]? = some o /\ ∀ e ∈ o.after, Region.binds .any e = true -> e.on ∈ l) /\ MJ ops l
theorem MJ.dep {ops : Array Oper} {D : List Nat} (h : MJ ops D) {i : Nat} {o : Oper} (hi : i ∈ D) (ho : ops[i]? = some o) : ∀ e ∈ o.after, Region.binds .any e = true -> e.on ∈ D := by
 induction D with
 | nil => cases hi
 | cons j l ih =>
  obtain ⟨_, ⟨o', h2, h3⟩, h4⟩ := h;intro e he hb;rcases List.mem_cons.1 hi with hij | hi
  ·rw [hij, h2] at ho
   cases ho;exact List.mem_cons_of_mem _ (h3 e he hb)
  ·exact List.mem_cons_of_mem _ (ih h4 hi e he hb)
theorem xC (a : Act) (d : Option Tmp) (u : Value) : (a.put d u).defers = a.defers := by cases d <;> rfl
theorem MJ.first {ops : Array Oper} {p : Nat -> Prop} {D : List Nat} (h : MJ ops D) (hp : ∃ i ∈ D, ¬ p i) : ∃ i o, i ∈ D /\ ¬ p i /\ ops[i]? = some o /\ ∀ e ∈ o.after, Region.binds .any e = true -> p e.on := by
 induction D with
 | nil => obtain ⟨i, hi, _⟩ := hp; cases hi
 | cons j l ih =>
  obtain ⟨_, ⟨o', h2, h3⟩, h4⟩ := h;by_cases h : ∃ i ∈ l, ¬ p i
  ·obtain ⟨i, o, h5, h6, h7, h8⟩ := ih h4 h
   exact ⟨i, o, List.mem_cons_of_mem _ h5, h6, h7, h8⟩
  ·have all : ∀ i ∈ l, p i := fun i hi => Classical.byContradiction fun hn => h ⟨i, hi, hn⟩
   obtain ⟨i, hi, hpi⟩ := hp;rcases List.mem_cons.1 hi with hij | hi
   ·rw [hij] at hpi
    exact ⟨j, o', List.mem_cons_self, hpi, h2, fun e he hb => all _ (h3 e he hb)⟩
   ·exact absurd (all i hi) hpi
theorem MJ.closed {ops : Array Oper} {D : List Nat} (h : MJ ops D) : tM ops (· ∈ D) := by
 rintro i o hi ho k ⟨e, he, hb, rfl⟩;exact h.dep hi ho e he hb
structure sW (P : Program) (B : Nat) (ops : Array Oper) (Ti : BT Value) (K0 : Kp) (m0 : Mp) (a0 : Act) (w0 : World) (V : Nat -> Value) (T : BT Value) (S : St) (D : List Nat) (E : Array Bool) (H : Nat -> Nat) (z : Prop) (L : Array Bool) (K : Kp) (m : Mp) (w : World) (a : Act) : Prop where
 se : E.size = ops.size
 sl : L.size = ops.size
 ed : ∀ i, oQ E i ↔ i ∈ D
 ord : MJ ops D
 sub : ∀ i, oQ L i -> i ∈ D
 closed : tM ops (oQ L)
 emb : cN P K B m S w
 tE : ∀ t v, T.get t = some v ↔ iE ops V Ti (· ∈ D) t v
 tW : ∀ t v, iE ops V Ti (oQ L) t v -> ∃ u, a.tmps[t]? = some u /\ VR m v u
 sz : ∀ t v, T.get t = some v -> t < a.tmps.size
 pend : ∀ i, i ∈ D -> ¬ oQ L i -> kF P ops V Ti S K0 K H z i
 k0 : ∀ j o, K0 j = some o -> K j = some o
 le : m0.le m
 bel : Below B w0 w
 df : a.defers = a0.defers
theorem rZ {o : Oper} {p : Nat -> Prop} (hd : ∀ e ∈ o.after, Region.binds .any e = true -> p e.on) : ∀ k, lY o k -> p k := by
 rintro k ⟨e, he, hb, rfl⟩;exact hd e he hb
section
variable {P : Program} {B : Nat} {ops : Array Oper} {Ti : BT Value} {K0 : Kp} {m0 : Mp} {a0 : Act} {w0 : World} {V : Nat -> Value} {T : BT Value} {S : St} {D : List Nat} {E L : Array Bool} {H : Nat -> Nat} {z : Prop} {K : Kp} {m : Mp} {w : World} {a : Act}
theorem sW.at_ready (I : sW P B ops Ti K0 m0 a0 w0 V T S D E H z L K m w a) (hU : tL P ops) {i : Nat} {o : Oper} (ho : ops[i]? = some o) (hn : ¬ oQ L i) (hd : ∀ k, lY o k -> oQ L k) : ∀ t ∈ readsT P ops o, ∀ v, iE ops V Ti (lY o) t v -> ∃ u, a.tmps[t]? = some u /\ VR m v u :=
 fun t ht v hv => I.tW t v ((iE.at hU I.closed ho hd hn ht).2 hv)
theorem MK {a : Act} {o : Oper} {T : BT Value} (h : ∀ t ∈ readsT P ops o, ∀ v, T.get t = some v -> ∃ u, a.tmps[t]? = some u /\ VR m v u) : Hρ m T a.eval o.op := by
 intro x hx X v hc hv;cases X with
 | t i =>
  obtain ⟨u, h1, h2⟩ := h i (Du hx hc) v hv;have : x = .tmp i := by
   cases x with
   | tmp u => simp only [cx, Option.some.injEq, X.t.injEq] at hc; rw [hc]
   | const v => simp only [cx] at hc; obtain ⟨_, hc⟩ := bU hc; cases hc
   | func f => cases hc
   | global g => cases hc
  subst this;have : a.eval (.tmp i) = u := by simp [Act.eval, Array.getD_eq_getD_getElem?, h1]
  rw [this]; exact h2
 | c u =>
  simp only [XV] at hv;subst hv;cases x with
  | tmp u => simp only [cx, Option.some.injEq] at hc; cases hc
  | const v' =>
   simp only [cx] at hc;obtain ⟨hf, hc⟩ := bU hc;cases hc;exact VR.flat _ hf
  | func f =>
   simp only [cx, Option.some.injEq, X.c.injEq] at hc;subst hc;exact VR.flat _ (by simp [flat, flatA, flatL])
  | global g => cases hc
theorem pA {d : Option Nat} {v : Value} {k : BT Value -> Bool} (h : gW T d v k = true) : ∃ T', k T' = true /\ (∀ x, d = some x -> (T.get x).isSome = true) /\ ∀ t, T'.get t = if d = some t then some v else T.get t := by
 cases d with
 | none => exact ⟨T, h, fun x hx => (by cases hx), fun t => sM⟩
 | some d =>
  obtain ⟨T', hk, hd, hg⟩ := mC (k := k) h;refine ⟨T', hk, fun x hx => by cases hx; exact hd, fun t => ?_⟩;rw [hg];by_cases e : t = d
  ·subst e; simp
  ·rw [if_neg e, if_neg (by simp; exact fun h => e h.symm)]
theorem iE.more (hU : tL P ops) {p p' : Nat -> Prop} {i : Nat} {o : Oper} (ho : ops[i]? = some o) (hp : ∀ j, p' j ↔ j = i ∨ p j) (hn : ¬ p i) {V' : Nat -> Value} (hV : ∀ j, p j -> V' j = V j) {t : Nat} {v : Value} :
 iE ops V' Ti p' t v ↔ (if o.dst = some t then v = V' i else iE ops V Ti p t v) := by
 by_cases hd : o.dst = some t
 ·rw [if_pos hd]
  constructor
  ·rintro (⟨j, o', h1, h2, h3, rfl⟩ | ⟨h1, _⟩)
   ·rw [hU.one h2 ho h3 hd]
   ·exact absurd hd (h1 i o ((hp i).2 (.inl rfl)) ho)
  ·rintro rfl
   exact .inl ⟨i, o, (hp i).2 (.inl rfl), ho, hd, rfl⟩
 ·rw [if_neg hd]
  constructor
  ·rintro (⟨j, o', h1, h2, h3, rfl⟩ | ⟨h1, h2⟩)
   ·rcases (hp j).1 h1 with rfl | h1
    ·rw [ho] at h2; cases h2
     exact absurd h3 hd
    ·exact .inl ⟨j, o', h1, h2, h3, hV j h1⟩
   ·exact .inr ⟨fun j o' hj => h1 j o' ((hp j).2 (.inr hj)), h2⟩
  ·rintro (⟨j, o', h1, h2, h3, rfl⟩ | ⟨h1, h2⟩)
   ·exact .inl ⟨j, o', (hp j).2 (.inr h1), h2, h3, (hV j h1).symm⟩
   ·refine .inr ⟨fun j o' hj h3 => ?_, h2⟩
    rcases (hp j).1 hj with rfl | hj
    ·rw [ho] at h3; cases h3
     exact hd
    ·exact h1 j o' hj h3
theorem uQ {L : Array Bool} (hc : tM ops (oQ L)) {i : Nat} {o : Oper} (ho : ops[i]? = some o) (hd : ∀ k, lY o k -> oQ L k) (hset : ∀ j, oQ (L.setIfInBounds i true) j ↔ j = i ∨ oQ L j) : tM ops (oQ (L.setIfInBounds i true)) := by
 intro j oj hj hoj k hk;rw [hset];rcases (hset j).1 hj with rfl | hj
 ·rw [ho] at hoj; cases hoj
  exact .inr (hd k hk)
 ·exact .inr (hc j oj hj hoj k hk)
theorem tN {a : Act} {d : Option Tmp} {u : Value} {t : Nat} : (a.put d u).tmps.size = a.tmps.size /\ (d = some t -> t < a.tmps.size -> (a.put d u).tmps[t]? = some u) /\ (d ≠ some t -> (a.put d u).tmps[t]? = a.tmps[t]?) := by
 cases d with
 | none => exact ⟨rfl, fun h => (by cases h), fun _ => rfl⟩
 | some d =>
  refine ⟨by simp [Act.put], fun h hl => ?_, fun h => ?_⟩
  ·cases h
   simp [Act.put, hl]
  ·simp only [Act.put]
   rw [Array.getElem?_setIfInBounds_ne (by intro e; exact h (by rw [e]))]
theorem sW.world (I : sW P B ops Ti K0 m0 a0 w0 V T S D E H z L K m w a) (hU : tL P ops) {i : Nat} {o : Oper} (hi : i ∈ D) (hn : ¬ oQ L i) (ho : ops[i]? = some o) (hd : ∀ k, lY o k -> oQ L k)
 {u : Value} {K' : Kp} {m' : Mp} {w' : World} (hle : m.le m') (hE : cN P K' B m' S w') (hB : Below B w w') (hv : VR m' (V i) u) (hK : ∀ g ob, K g = some ob -> H g ≠ i -> K' g = some ob) (hK0 : ∀ j o, K0 j = some o -> K' j = some o) :
 sW P B ops Ti K0 m0 a0 w0 V T S D E H z (L.setIfInBounds i true) K' m' w' (a.put o.dst u) := by
 have hlt : i < ops.size := (Array.getElem?_eq_some_iff.1 ho).1;have hset := rW (L := L) (i := i) (by rw [I.sl]; exact hlt);refine ⟨I.se, by simp [I.sl], I.ed, I.ord, fun j hj => ?_, uQ I.closed ho hd hset, hE, I.tE, fun t x hx => ?_, fun t x hx => ?_, fun j hj hnj => ?_, hK0, I.le.trans hle, I.bel.trans hB, by rw [xC]; exact I.df⟩
 ·rcases (hset j).1 hj with rfl | hj
  ·exact hi
  ·exact I.sub j hj
 ·have hx := (iE.more hU ho hset hn (fun _ _ => rfl)).1 hx
  by_cases e : o.dst = some t
  ·rw [if_pos e] at hx
   subst hx;have h1 : T.get t = some (V i) := (I.tE t (V i)).2 (.inl ⟨i, o, hi, ho, e, rfl⟩);exact ⟨u, tN.2.1 e (I.sz t _ h1), hv⟩
  ·rw [if_neg e] at hx
   obtain ⟨u', h1, h2⟩ := I.tW t x hx;exact ⟨u', by rw [tN.2.2 e]; exact h1, h2.mono hle⟩
 ·rw [(tN (a := a) (d := o.dst) (u := u) (t := t)).1]
  exact I.sz t x hx
 ·have hne : j ≠ i := fun h => hnj ((hset j).2 (.inl h))
  exact (I.pend j hj (fun h => hnj ((hset j).2 (.inr h)))).keep rfl (fun _ _ _ _ => rfl) (fun h => ⟨h, fun _ _ h => h⟩) (fun g ob hg hH => ⟨hK g ob hg (by rw [hH]; exact hne), hH⟩)
end
end Go.Proofs.YtjkdkpckjgaplaaGreat.Ev
namespace Go.Proofs.YtjkdkpckjgaplaaGreat.Ev
open Go Go.RowKit
theorem sB {P : Program} {O : OK} {T : BT Value} {s : St} {c : COp} {k : Value -> St -> Bool} (h : Ao c = true ∨ Gl c = true) : fU P O T s c k = V6 P T s c k := by
 cases c <;> first | rfl | (rcases h with h | h <;> cases h)
theorem CK {P : Program} {F : Fence} (hF : ∀ f, F.fn f) {n : Nat} {o : Oper} {a : Act} {w w' : World} {u : Value} {KK : Act -> World -> Prop} {Q : Exit -> Act -> World -> Prop} (hdef : ∀ cl, o.op ≠ .defer cl) (hr : (execOp a.eval o).run P w = .ok (.value u) w') (h : KK (a.put o.dst u) w') : o.wpIn F n P a w KK Q := by
 obtain ⟨dst, op, ty, pos, af, gd⟩ := o;refine ⟨fun _ _ => hF _, ?_⟩;have hsem : Oper.semAt F.round a.eval ⟨dst, op, ty, pos, af, gd⟩ = execOp a.eval ⟨dst, op, ty, pos, af, gd⟩ := Oper.semAt_eq _ _ _ hdef;rw [hsem, hr];exact h
theorem CL {P : Program} {o : Oper} {c : COp} (hc : compOp P o = some c) : ∀ cl, o.op ≠ .defer cl := by
 obtain ⟨dst, op, ty, pos, af, gd⟩ := o;rintro cl rfl;cases hc
section
variable {P : Program} {B : Nat} {ops : Array Oper} {Ti : BT Value} {K0 : Kp} {m0 : Mp} {a0 : Act} {w0 : World} {V : Nat -> Value} {T : BT Value} {S : St} {D : List Nat} {E L : Array Bool} {H : Nat -> Nat} {z : Prop} {K : Kp} {m : Mp} {w : World} {a : Act} {O : OK}
open Classical in
theorem sW.pending (I : sW P B ops Ti K0 m0 a0 w0 V T S D E H True L K m w a) (hU : tL P ops) (hO : ∀ K, iQ P K B O) {i : Nat} (hi : i ∈ D) (hr : i ∈ Region.ready .any ops L) {r : Option Nat} {n : Nat} {Q : Exit -> Act -> World -> Prop} {KK : Act -> World -> Prop}
 (hKK : ∀ K' m' w' a', sW P B ops Ti K0 m0 a0 w0 V T S D E H True (L.setIfInBounds i true) K' m' w' a' -> KK a' w') : wpOpIn (Fr r) n P ops Q i KK a w := by
 obtain ⟨h0, o, ho, hd0⟩ := mem_ready.1 hr;obtain ⟨hlt, hn⟩ := fW.1 h0;have hd := rZ (p := oQ L) hd0;obtain ⟨x, o', Tj, h1, h2, h3, h4, h5, hT, h6⟩ := I.pend i hi hn;rw [ho] at h2; cases h2;have hat : ∀ t ∈ readsT P ops o, ∀ v, Tj.get t = some v -> ∃ u, a.tmps[t]? = some u /\ VR m v u := fun t ht v hv => I.at_ready hU ho hn hd t ht v ((hT t ht v).1 hv)
 have hρ := MK (m := m) hat;obtain ⟨gy, gn⟩ := rX (a := a) (m := m) (T := Tj) h5 (fun t w e v hv => hat t (rY h5 t w e) v hv);unfold wpOpIn;rw [ho];simp only;rcases h6 with ⟨h6, c, h7, h9⟩ | ⟨h6, h7⟩
 ·rw [if_pos (gy h6)]
  rcases h9 with ⟨h9, h10⟩ | ⟨g, ob, h9, h10, h11, h12⟩
  ·have hk := h10 (fun _ => trivial) (fun v' s' => decide (v' = V i /\ s' = S)) sM
   rw [<- sB (O := O) (.inl h9)] at hk;refine Oper.wpIn_mono ?_ (wW (hO K) h7 I.emb hρ hk);rintro a' w' ⟨v', u, s', m', hk, hle, hE, hB, hv, rfl⟩;obtain ⟨rfl, rfl⟩ : v' = V i /\ s' = S := by simpa using hk
   exact hKK _ _ _ _ (I.world hU hi hn ho hd hle hE hB hv (fun g ob hg _ => hg) I.k0)
  ·obtain ⟨u, o', hrun, hor, hvr⟩ := h12 m w a.eval hρ (I.emb.kept g ob h9).1
   refine CK (fun _ => trivial) (CL h7) hrun (hKK (Fk K g) _ _ _ (I.world hU hi hn ho hd (Mp.put_le (I.emb.kept g ob h9).1) (I.emb.late h9 hor) (uL I.emb.base _) hvr ?_ ?_))
   ·intro g' ob' hg' hH'
    unfold Fk;rw [if_neg (by rintro rfl; exact hH' h11)];exact hg'
   ·intro j oj hj
    unfold Fk;rw [if_neg (by rintro rfl; rw [h10] at hj; cases hj)];exact I.k0 j oj hj
 ·rw [if_neg (by rw [gn h6]; simp)]
  exact ⟨fun _ _ => trivial, hKK _ _ _ _ (I.world hU hi hn ho hd (Mp.le_refl m) I.emb (Below.refl B w) (by rw [h7]; exact VR.flat undef rfl) (fun g ob hg _ => hg) I.k0)⟩
theorem Gt (I : sW P B ops Ti K0 m0 a0 w0 V T S D E H z L K m w a) {i : Nat} (hlt : i < ops.size) (j : Nat) : oQ (E.setIfInBounds i true) j ↔ j ∈ i :: D := by
 rw [rW (by rw [I.se]; exact hlt), I.ed, List.mem_cons]
def uZ (V : Nat -> Value) (i : Nat) (v : Value) : Nat -> Value := fun j => if j = i then v else V j
theorem mH (V : Nat -> Value) (i : Nat) (v : Value) : uZ V i v i = v := if_pos rfl
theorem Aq {V : Nat -> Value} {i j : Nat} {v : Value} (h : j ≠ i) : uZ V i v j = V j := if_neg h
theorem Dv (I : sW P B ops Ti K0 m0 a0 w0 V T S D E H z L K m w a) (hU : tL P ops) {i : Nat} {o : Oper} (ho : ops[i]? = some o) (hn : ¬ i ∈ D) {T' : BT Value} {v : Value} (hT' : ∀ t, T'.get t = if o.dst = some t then some v else T.get t) (t : Nat) (x : Value) :
 T'.get t = some x ↔ iE ops (uZ V i v) Ti (· ∈ i :: D) t x := by
 rw [iE.more (p := (· ∈ D)) (V := V) hU ho (fun j => List.mem_cons) hn (fun j hj => Aq (by rintro rfl; exact hn hj)), hT'];by_cases e : o.dst = some t
 ·rw [if_pos e, if_pos e, mH]
  constructor
  ·intro h; cases h; rfl
  ·rintro rfl; rfl
 ·rw [if_neg e, if_neg e]
  exact I.tE t x
theorem Dw (I : sW P B ops Ti K0 m0 a0 w0 V T S D E H z L K m w a) {o : Oper} {T' : BT Value} {v : Value} (hT' : ∀ t, T'.get t = if o.dst = some t then some v else T.get t) (hsome : ∀ d, o.dst = some d -> (T.get d).isSome = true) (t : Nat) (x : Value) (hx : T'.get t = some x) : t < a.tmps.size := by
 rw [hT'] at hx;by_cases e : o.dst = some t
 ·obtain ⟨u, hu⟩ := Option.isSome_iff_exists.1 (hsome t e)
  exact I.sz t u hu
 ·rw [if_neg e] at hx
  exact I.sz t x hx
theorem OY (I : sW P B ops Ti K0 m0 a0 w0 V T S D E H z L K m w a) (hU : tL P ops) {i : Nat} {o : Oper} (ho : ops[i]? = some o) (hn : ¬ i ∈ D) (hd : ∀ k, lY o k -> k ∈ D) : ∀ t ∈ readsT P ops o, ∀ v, T.get t = some v ↔ iE ops V Ti (lY o) t v :=
 fun t ht v => (I.tE t v).trans (iE.at hU I.ord.closed ho hd hn ht)
theorem sW.ahead (I : sW P B ops Ti K0 m0 a0 w0 V T S D E H True L K m w a) (hU : tL P ops) {i : Nat} (hr : i ∈ Region.ready .any ops E) {x : Item} (hx : compItem P ops i = some x) (hcalm : ∀ o, ops[i]? = some o -> calm o.op = true) {k : BT Value -> St -> Bool} (hk : wJ P O x T S k = true) :
 ∃ V' T' S' K' H', k T' S' = true /\ sW P B ops Ti K0 m0 a0 w0 V' T' S' (i :: D) (E.setIfInBounds i true) H' True L K' m w a := by
 obtain ⟨h0, o, ho, hd0⟩ := mem_ready.1 hr;obtain ⟨hlt, hn⟩ := fW.1 h0;rw [I.ed] at hn;have hlt' : i < ops.size := (Array.getElem?_eq_some_iff.1 ho).1;have hd' : ∀ e ∈ o.after, Region.binds .any e = true -> e.on ∈ D := fun e he hb => (I.ed _).1 (hd0 e he hb)
 have hd := rZ (p := (· ∈ D)) hd';obtain ⟨o', ho', hxd, hxo, hg⟩ := nJ hx;rw [ho] at ho'; cases ho';obtain ⟨g, d, op⟩ := x;simp only at hxd hxo hg;subst hxd hxo;have hgo : pW ops o g := hg;have hnL : ¬ oQ L i := fun h => hn (I.sub i h)
 have hTat := OY I hU ho hn hd;have hVd : ∀ (v : Value) (k : Nat), k ∈ D -> uZ V i v k = V k := fun v k hk => Aq (by rintro rfl; exact hn hk)
 have hTv : ∀ (v : Value), ∀ t ∈ readsT P ops o, ∀ x, T.get t = some x ↔ iE ops (uZ V i v) Ti (lY o) t x := fun v t ht x => (hTat t ht x).trans (iE.val (fun k hk => hVd v k (hd k hk))).symm
 have done : ∀ (T' : BT Value) (v : Value) (S' : St) (K' : Kp) (H' : Nat -> Nat), (∀ t, T'.get t = if o.dst = some t then some v else T.get t) -> (∀ d, o.dst = some d -> (T.get d).isSome = true) -> S.ext S' -> cN P K' B m S' w -> (∀ g ob, K g = some ob -> K' g = some ob /\ H' g = H g) ->
  kF P ops (uZ V i v) Ti S' K0 K' H' True i -> sW P B ops Ti K0 m0 a0 w0 (uZ V i v) T' S' (i :: D) (E.setIfInBounds i true) H' True L K' m w a := by
  intro T' v S' K' H' hT' hsome hS hE hK hp;refine ⟨by simp [I.se], I.sl, Gt I hlt', ⟨hn, ⟨o, ho, hd'⟩, I.ord⟩, fun j hj => List.mem_cons_of_mem _ (I.sub j hj), I.closed, hE, Dv I hU ho hn hT', fun t x hx => ?_, Dw I hT' hsome, fun j hj hnj => ?_, fun j oj hj => (hK j oj (I.k0 j oj hj)).1, I.le, I.bel, I.df⟩
  ·exact I.tW t x ((iE.val (fun k hk => hVd v k (I.sub k hk))).1 hx)
  ·rcases List.mem_cons.1 hj with rfl | hj
   ·exact hp
   ·exact (I.pend j hj hnj).keep (hVd v j hj) (fun oj hoj k hk => hVd v k (I.ord.closed j oj hj hoj k hk)) (fun _ => ⟨trivial, hS⟩) (fun g ob hg hH => ⟨(hK g ob hg).1, by rw [(hK g ob hg).2]; exact hH⟩)
 have hk0 : iJ T g (fU P O T S (orBad (compOp P o)) (fun v s => gW T o.dst v (fun T => k T s))) (gW T o.dst undef (fun T => k T S)) = true := hk;rcases kA hk0 with ⟨h1, h2⟩ | ⟨h1, h2⟩
 ·cases hc : compOp P o with
  | none => rw [hc] at h2; cases h2
  | some c =>
   rw [hc] at h2;have h2' : fU P O T S c (fun v s => gW T o.dst v (fun T => k T s)) = true := h2;obtain ⟨k1, _, k3⟩ := tK (dst := o.dst) (op := o.op) (ty := o.type) (pos := o.pos) (af := o.after) (gd := o.guard) hc;have hq := k1 (hcalm o ho);rw [sB hq] at h2';rcases hq with hq | hq
   ·obtain ⟨v, h3, h4⟩ := Bu (R := fun s' => S.ext s') hq (fun _ _ h => h) _ h2'
    obtain ⟨T', h5, h6, h7⟩ := pA h3;refine ⟨uZ V i v, T', S, K, H, h5, done T' v S K H h7 h6 (fun _ _ h => h) I.emb (fun g ob h => ⟨h, rfl⟩) ⟨⟨g, o.dst, orBad (compOp P o)⟩, o, T, hx, ho, rfl, rfl, hgo, hTv v, .inl ⟨h1, c, hc, .inl ⟨hq, fun _ k' hk' => ?_⟩⟩⟩⟩;rw [mH] at hk';exact h4 T S k' (fun _ _ _ h => h) (fun _ _ h => h) hk'
   ·obtain ⟨v, ob, h', h3, h4, h5, h6⟩ := k3 hq h2'
    obtain ⟨T', h7, h8, h9⟩ := pA h3;have hK0 : K0 S.n = none := by
     cases hK0 : K0 S.n with
     | none => rfl
     | some oj => exact absurd (I.emb.kept _ _ (I.k0 _ _ hK0)).2.2 (Nat.lt_irrefl _)
    refine ⟨uZ V i v, T', ⟨h', S.n + 1⟩, CH K S.n ob, (fun j => if j = S.n then i else H j), h7, done T' v ⟨h', S.n + 1⟩ (CH K S.n ob) _ h9 h8 (fun j oj hj => ?_) (I.emb.ahead h5) (fun g' ob' hg' => ?_) ⟨⟨g, o.dst, orBad (compOp P o)⟩, o, T, hx, ho, rfl, rfl, hgo, hTv v, .inl ⟨h1, c, hc, .inr ⟨S.n, ob, by simp [CH], hK0, sM, by rw [mH]; exact h6⟩⟩⟩⟩
    ·show h'.get j = some oj
     rw [h5, if_neg (by rintro rfl; rw [h4] at hj; cases hj)];exact hj
    ·have hlt := (I.emb.kept g' ob' hg').2.2
     exact ⟨by unfold CH; rw [if_neg oM]; exact hg', by rw [if_neg oM]⟩
 ·obtain ⟨T', h3, h4, h5⟩ := pA h2
  exact ⟨uZ V i undef, T', S, K, H, h3, done T' undef S K H h5 h4 (fun _ _ h => h) I.emb (fun g ob h => ⟨h, rfl⟩) ⟨⟨g, o.dst, orBad (compOp P o)⟩, o, T, hx, ho, rfl, rfl, hgo, hTv undef, .inr ⟨h1, mH V i undef⟩⟩⟩
theorem sW.both (I : sW P B ops Ti K0 m0 a0 w0 V T S D E H True L K m w a) (hU : tL P ops) (hO : ∀ K, iQ P K B O) {i : Nat} (hi : ¬ i ∈ D) (hr : i ∈ Region.ready .any ops L) {x : Item} (hx : compItem P ops i = some x) {k : BT Value -> St -> Bool} (hk : wJ P O x T S k = true) {r : Option Nat} {n : Nat} {Q : Exit -> Act -> World -> Prop} {KK : Act -> World -> Prop}
 (hKK : ∀ V' T' S' m' w' a', k T' S' = true -> sW P B ops Ti K0 m0 a0 w0 V' T' S' (i :: D) (E.setIfInBounds i true) H False (L.setIfInBounds i true) K m' w' a' -> KK a' w') : wpOpIn (Fr r) n P ops Q i KK a w := by
 obtain ⟨h0, o, ho, hd0⟩ := mem_ready.1 hr;obtain ⟨hlt, hn⟩ := fW.1 h0;have hlt' : i < ops.size := (Array.getElem?_eq_some_iff.1 ho).1;have hdL := rZ (p := oQ L) hd0;have hd' : ∀ e ∈ o.after, Region.binds .any e = true -> e.on ∈ D := fun e he hb => I.sub _ (hd0 e he hb)
 have hd := rZ (p := (· ∈ D)) hd';have hat : ∀ t ∈ readsT P ops o, ∀ v, T.get t = some v -> ∃ u, a.tmps[t]? = some u /\ VR m v u := fun t ht v hv => I.at_ready hU ho hn hdL t ht v ((OY I hU ho hi hd t ht v).1 hv)
 have hρ := MK (m := m) hat;obtain ⟨o', ho', hxd, hxo, hg⟩ := nJ hx;rw [ho] at ho'; cases ho';obtain ⟨g, d, op⟩ := x;simp only at hxd hxo hg;subst hxd hxo;have hgo : pW ops o g := hg;obtain ⟨gy, gn⟩ := rX (a := a) (m := m) (T := T) hgo (fun t w e v hv => hat t (rY hgo t w e) v hv);have hset := rW (L := L) (i := i) (by rw [I.sl]; exact hlt');have hVd : ∀ (v : Value) (k : Nat), k ∈ D -> uZ V i v k = V k := fun v k hk => Aq (by rintro rfl; exact hi hk)
 have done : ∀ (T' : BT Value) (v u : Value) (S' : St) (m' : Mp) (w' : World), (∀ t, T'.get t = if o.dst = some t then some v else T.get t) -> (∀ d, o.dst = some d -> (T.get d).isSome = true) -> m.le m' -> cN P K B m' S' w' -> Below B w w' -> VR m' v u ->
  sW P B ops Ti K0 m0 a0 w0 (uZ V i v) T' S' (i :: D) (E.setIfInBounds i true) H False (L.setIfInBounds i true) K m' w' (a.put o.dst u) := by
  intro T' v u S' m' w' hT' hsome hle hE hB hv;refine ⟨by simp [I.se], by simp [I.sl], Gt I hlt', ⟨hi, ⟨o, ho, hd'⟩, I.ord⟩, fun j hj => ?_, uQ I.closed ho hdL hset, hE, Dv I hU ho hi hT', fun t x hx => ?_, fun t x hx => ?_, fun j hj hnj => ?_, I.k0, I.le.trans hle, I.bel.trans hB, by rw [xC]; exact I.df⟩
  ·rcases (hset j).1 hj with rfl | hj
   ·exact List.mem_cons_self
   ·exact List.mem_cons_of_mem _ (I.sub j hj)
  ·have hx := (iE.more (V := V) hU ho hset hn (fun k hk => hVd v k (I.sub k hk))).1 hx
   by_cases e : o.dst = some t
   ·rw [if_pos e, mH] at hx
    subst hx;obtain ⟨u0, hu0⟩ := Option.isSome_iff_exists.1 (hsome t e);exact ⟨u, tN.2.1 e (I.sz t u0 hu0), hv⟩
   ·rw [if_neg e] at hx
    obtain ⟨u', h1, h2⟩ := I.tW t x hx;exact ⟨u', by rw [tN.2.2 e]; exact h1, h2.mono hle⟩
  ·rw [(tN (a := a) (d := o.dst) (u := u) (t := t)).1]
   exact Dw I hT' hsome t x hx
  ·have hji : j ≠ i := fun h => hnj ((hset j).2 (.inl h))
   have hjD : j ∈ D := by
    rcases List.mem_cons.1 hj with h | h
    ·exact absurd h hji
    ·exact h
   have hnjL : ¬ oQ L j := fun h => hnj ((hset j).2 (.inr h))
   exact (I.pend j hjD hnjL).keep (hVd v j hjD) (fun oj hoj k hk => hVd v k (I.ord.closed j oj hjD hoj k hk)) (fun h => h.elim) (fun g ob hg hH => ⟨hg, hH⟩)
 unfold wpOpIn;rw [ho];simp only;have hk0 : iJ T g (fU P O T S (orBad (compOp P o)) (fun v s => gW T o.dst v (fun T => k T s))) (gW T o.dst undef (fun T => k T S)) = true := hk;rcases kA hk0 with ⟨h1, h2⟩ | ⟨h1, h2⟩
 ·rw [if_pos (gy h1)]
  cases hc : compOp P o with
  | none => rw [hc] at h2; cases h2
  | some c =>
   rw [hc] at h2;refine Oper.wpIn_mono ?_ (wW (hO K) hc I.emb hρ (k := fun v s => gW T o.dst v (fun T => k T s)) h2);rintro a' w' ⟨v', u, s', m', hk, hle, hE, hB, hv, rfl⟩;obtain ⟨T', h5, h6, h7⟩ := pA hk;exact hKK _ _ _ _ _ _ h5 (done T' v' u s' m' w' h7 h6 hle hE hB hv)
 ·rw [if_neg (by rw [gn h1]; simp)]
  obtain ⟨T', h5, h6, h7⟩ := pA h2;exact ⟨fun _ _ => trivial, hKK _ _ _ _ _ _ h5 (done T' undef undef S m w h7 h6 (Mp.le_refl m) I.emb (Below.refl B w) (VR.flat undef rfl))⟩
end
end Go.Proofs.YtjkdkpckjgaplaaGreat.Ev
namespace Go.Proofs.YtjkdkpckjgaplaaGreat.Ev
open Go Go.RowKit
/-! What oY again -/
section
variable {P : Program} {B : Nat} {ops : Array Oper} {Ti : BT Value} {K0 : Kp} {m0 : Mp} {a0 : Act} {w0 : World} {V : Nat -> Value} {T : BT Value} {S : St} {D : List Nat} {E L : Array Bool} {H : Nat -> Nat} {z : Prop} {K : Kp} {m : Mp} {w : World} {a : Act} {O : OK}
theorem CM {T : BT Value} {g : Option (Nat × Bool)} (h : qT T g) (h' : oZ T g) : False := by
 rcases g with _ | ⟨t, w⟩
 ·exact h'
 ·obtain ⟨v, h1, h2⟩ := h'
  have h3 : T.get t = some (.bool w) := h;rw [h1] at h3;cases h3;exact h2 rfl
theorem Dx {α : Type} {a b : Option α} (h : ∀ v, a = some v ↔ b = some v) : a = b := by
 cases a with
 | none =>
  cases b with
  | none => rfl
  | some v => exact (h v).2 rfl
 | some v => exact ((h v).1 rfl).symm
structure Dy (P : Program) (ops : Array Oper) (V : Nat -> Value) (Ti T : BT Value) (i : Nat) : Prop where
 reads : ∀ o, ops[i]? = some o -> isLook o.op = true -> ∀ t ∈ readsT P ops o, ∀ v, T.get t = some v ↔ iE ops V Ti (lY o) t v
 dst : ∀ o d, ops[i]? = some o -> o.dst = some d -> T.get d = some (V i)
theorem Dz {o : Oper} {x : COp} (h : x = orBad (compOp P o)) (hl : oY x = true) : isLook o.op = true := by
 cases hc : compOp P o with
 | none => rw [hc] at h; subst h; cases hl
 | some c =>
  rw [hc] at h;subst h;exact (tK (dst := o.dst) (op := o.op) (ty := o.type) (pos := o.pos) (af := o.after) (gd := o.guard) hc).2.1 hl
theorem kF.up_l {i : Nat} {x : Item} (hx : compItem P ops i = some x) (hl : oY x.op = false) (h : kF P ops V Ti S K0 K H False i) : kF P ops V Ti S K0 K H True i := by
 obtain ⟨x', o, Tj, h1, h2, h3, h4, h5, hT, h6⟩ := h;rw [hx] at h1; cases h1;refine ⟨x, o, Tj, hx, h2, h3, h4, h5, hT, ?_⟩;rcases h6 with ⟨h6, c, h7, h9⟩ | h6
 ·refine .inl ⟨h6, c, h7, ?_⟩
  rcases h9 with ⟨h9, h10⟩ | h9
  ·refine .inl ⟨h9, fun _ => h10 (fun hc => ?_)⟩
   rw [h4, h7] at hl;have : oY c = false := hl;rw [this] at hc;cases hc
  ·exact .inr h9
 ·exact .inr h6
theorem kF.up_n {i : Nat} {x : Item} (hx : compItem P ops i = some x) (hl : oY x.op = true) (hA : Dy P ops V Ti T i) (hg : oZ T x.g) (h : kF P ops V Ti S K0 K H False i) : kF P ops V Ti S K0 K H True i := by
 obtain ⟨x', o, Tj, h1, h2, h3, h4, h5, hT, h6⟩ := h;rw [hx] at h1; cases h1;refine ⟨x, o, Tj, hx, h2, h3, h4, h5, hT, ?_⟩;rcases h6 with ⟨h6, _⟩ | h6
 ·have he : ∀ t ∈ readsT P ops o, T.get t = Tj.get t := fun t ht => Dx (fun v => (hA.reads o h2 (Dz h4 hl) t ht v).trans (hT t ht v).symm)
  exact (CM (h6.same (fun t w e => he t (rY h5 t w e))) hg).elim
 ·exact .inr h6
theorem kF.up_v {i d : Nat} {x : Item} (hx : compItem P ops i = some x) (hl : oY x.op = true) (hA : Dy P ops V Ti T i) (hd : x.d = some d) {u : Value} (hu : T.get d = some u) (hr : ∀ k' : Value -> St -> Bool, k' u S = true -> V6 P T S x.op k' = true) (h : kF P ops V Ti S K0 K H False i) : kF P ops V Ti S K0 K H True i := by
 obtain ⟨x', o, Tj, h1, h2, h3, h4, h5, hT, h6⟩ := h;rw [hx] at h1; cases h1;have hlo := Dz h4 hl;have hTn := hA.reads o h2 hlo;have he : ∀ t ∈ readsT P ops o, T.get t = Tj.get t := fun t ht => Dx (fun v => (hTn t ht v).trans (hT t ht v).symm)
 have := hA.dst o d h2 (by rw [<- h3]; exact hd);rw [hu] at this;have hVi : V i = u := (Option.some.inj this).symm;refine ⟨x, o, T, hx, h2, h3, h4, h5, hTn, ?_⟩;rcases h6 with ⟨h6, c, h7, h9⟩ | ⟨h6, h7⟩
 ·refine .inl ⟨h6.same (fun t w e => he t (rY h5 t w e)), c, h7, ?_⟩
  rcases h9 with ⟨h9, h10⟩ | ⟨g, ob, h9, h10, h11, h12⟩
  ·refine .inl ⟨h9, fun _ k' hk' => ?_⟩
   rw [hVi] at hk';rw [h4, h7] at hr;exact hr k' hk'
  ·refine .inr ⟨g, ob, h9, h10, h11, fun m w ρ hρ => h12 m w ρ (Jq he hρ)⟩
 ·exact .inr ⟨h6.same (fun t w e => he t (rY h5 t w e)), h7⟩
theorem CN {i : Nat} {y : Item} (hy : againItem P ops i = some y) {k : BT Value -> St -> Bool} (hk : wJ P O y T S k = true) (hA : Dy P ops V Ti T i) : k T S = true /\ (kF P ops V Ti S K0 K H False i -> kF P ops V Ti S K0 K H True i) := by
 unfold againItem at hy;split at hy
 ·rename_i x hx
  unfold againOf at hy;split at hy
  ·rename_i g d a n
   cases hy;have hk0 : iJ T g (bF T a (fun a => bF T (.t d) (fun d => sZ S n a d (fun _ s => k T s)))) (k T S) = true := hk;rcases kA hk0 with ⟨_, h2⟩ | ⟨h1, h2⟩
   ·obtain ⟨va, h3, h4⟩ := Q4 h2
    obtain ⟨vd, h5, h6⟩ := Q4 h4;have h7 : V6 P T S (.ld a n) (fun v s => ifB (eqV v vd) (k T S) false) = true := pV (T := T) h3 h6;obtain ⟨v, h8, h9⟩ := Bu (R := fun s' => S.ext s') (c := .ld a n) J (fun _ _ h => h) _ h7;obtain ⟨h10, h11⟩ := Z5 h8;have := Ap _ _ h10;subst this;exact ⟨h11, kF.up_v hx rfl hA rfl h5 (fun k' hk' => h9 T S k' (fun _ _ _ h => h) (fun _ _ h => h) hk')⟩
   ·exact ⟨h2, kF.up_n hx rfl hA h1⟩
  ·rename_i g d e size x lo hi mx
   cases hy;have hk0 : iJ T g (bF T x (fun x => dJ T lo (fun lo => dJ T hi (fun hi => dJ T mx (fun mx => bF T (.t d) (fun d => kE S e size x lo hi mx (fun v => ifB (eqV v d) (k T S) false))))))) (k T S) = true := hk;rcases kA hk0 with ⟨_, h2⟩ | ⟨h1, h2⟩
   ·obtain ⟨vx, q1, h3⟩ := Q4 h2
    obtain ⟨vl, q2, h3⟩ := fF h3;obtain ⟨vh, q3, h3⟩ := fF h3;obtain ⟨vm, q4, h3⟩ := fF h3;obtain ⟨vd, h5, h6⟩ := Q4 h3;have h7 : V6 P T S (.slc e size x lo hi mx) (fun v s => ifB (eqV v vd) (k T S) false) = true := pV (T := T) q1 (rV q2 (rV q3 (rV q4 h6)));obtain ⟨v, h8, h9⟩ := Bu (R := fun s' => S.ext s') (c := .slc e size x lo hi mx) J (fun _ _ h => h) _ h7;obtain ⟨h10, h11⟩ := Z5 h8;have := Ap _ _ h10;subst this;exact ⟨h11, kF.up_v hx rfl hA rfl h5 (fun k' hk' => h9 T S k' (fun _ _ _ h => h) (fun _ _ h => h) hk')⟩
   ·exact ⟨h2, kF.up_n hx rfl hA h1⟩
  ·rename_i g d t x lo hi mx
   cases hy;have hk0 : iJ T g (V6 P T S (.slcn t x lo hi mx) (fun _ s => k T s)) (k T S) = true := hk;rcases kA hk0 with ⟨_, h2⟩ | ⟨h1, h2⟩
   ·obtain ⟨v, h8, _⟩ := Bu (R := fun s' => S.ext s') (c := .slcn t x lo hi mx) J (fun _ _ h => h) _ h2
    exact ⟨h8, kF.up_l hx rfl⟩
   ·exact ⟨h2, kF.up_l hx rfl⟩
  ·cases hy
 ·cases hy
theorem zE : ∀ {ks : List Nat} {ags xs : List Item} {k : BT Value -> St -> Bool}, agains P ops ks = some ags -> dW P O (ags ++ xs) T S k = true -> (∀ i ∈ ks, Dy P ops V Ti T i) -> dW P O xs T S k = true /\ ∀ i ∈ ks, kF P ops V Ti S K0 K H False i -> kF P ops V Ti S K0 K H True i
 | [], ags, xs, k, h, hk, _ => by
  cases h;exact ⟨hk, fun i hi => by cases hi⟩
 | i :: ks, ags, xs, k, h, hk, hA => by
  simp only [agains] at h;split at h
  ·rename_i y l h1 h2
   cases h;have hk0 : wJ P O y T S (fun T s => dW P O (l ++ xs) T s k) = true := hk;obtain ⟨h3, h4⟩ := CN (K0 := K0) (K := K) (H := H) h1 hk0 (hA i sM);obtain ⟨h5, h6⟩ := zE h2 h3 (fun j hj => hA j (List.mem_cons_of_mem _ hj));exact ⟨h5, fun j hj => by
    rcases List.mem_cons.1 hj with rfl | hj
    ·exact h4
    ·exact h6 j hj⟩
  ·cases h
/-! How many are left -/
def Jr (ops : Array Oper) (L : Array Bool) : Nat := ((List.range ops.size).filter fun i => !L.getD i false).length
theorem Fs {p q : Nat -> Bool} (h : ∀ i, q i = true -> p i = true) {j : Nat} (hp : p j = true) (hq : q j = false) : ∀ {l : List Nat}, j ∈ l -> (l.filter q).length < (l.filter p).length := by
 have le : ∀ l : List Nat, (l.filter q).length <= (l.filter p).length := by
  intro l
  induction l with
  | nil => exact Nat.le_refl _
  | cons x l ih =>
   simp only [List.filter_cons];cases hqx : q x with
   | true => rw [h x hqx]; simpa using ih
   | false =>
    cases hpx : p x with
    | true => simp; omega
    | false => simpa using ih
 intro l
 induction l with
 | nil => intro hj; cases hj
 | cons x l ih =>
  intro hj;simp only [List.filter_cons];rcases List.mem_cons.1 hj with rfl | hj
  ·rw [hp, hq]
   have := le l;simp;omega
  ·have := ih hj
   cases hqx : q x with
   | true => rw [h x hqx]; simpa using this
   | false =>
    cases hpx : p x with
    | true => simp; omega
    | false => simpa using this
theorem Js {L : Array Bool} (hs : L.size = ops.size) {i : Nat} (hi : i < ops.size) (hn : ¬ oQ L i) : Jr ops (L.setIfInBounds i true) < Jr ops L := by
 have hset := rW (L := L) (i := i) oM;refine Fs (fun j hj => ?_) (j := i) ?_ ?_ (List.mem_range.2 hi)
 ·cases hL : L.getD j false with
  | false => rfl
  | true =>
   have := (hset j).2 (.inr hL);unfold oQ at this;rw [this] at hj;cases hj
 ·cases hL : L.getD i false with
  | false => rfl
  | true => exact absurd hL hn
 ·have := (hset i).2 (.inl rfl)
  unfold oQ at this;rw [this];rfl
theorem Gu {L : Array Bool} (h : Jr ops L = 0) {i : Nat} (hi : i < ops.size) : oQ L i := by
 unfold Jr at h;have h1 := List.eq_nil_of_length_eq_zero h;cases hL : L.getD i false with
 | true => exact hL
 | false =>
  have : i ∈ (List.range ops.size).filter fun i => !L.getD i false := List.mem_filter.2 ⟨List.mem_range.2 hi, by rw [hL]; rfl⟩
  rw [h1] at this;cases this
theorem sW.end_ (I : sW P B ops Ti K0 m0 a0 w0 V T S D E H True L K m w a) (h : ∀ i, i ∈ D -> oQ L i) {k : BT Value -> St -> Bool} (hk : k T S = true) : Bm P K0 B m0 a0 w0 k a w :=
 ⟨T, S, m, hk, I.le, I.emb.less I.k0, fun t v ht => I.tW t v (by
  rcases (I.tE t v).1 ht with ⟨i, o, h1, h2, h3, h4⟩ | ⟨h1, h2⟩
  ·exact .inl ⟨i, o, h i h1, h2, h3, h4⟩
  ·exact .inr ⟨fun i o hi => h1 i o (I.sub i hi), h2⟩), I.df, I.bel⟩
theorem uR (hU : tL P ops) (hO : ∀ K, iQ P K B O) {r : Option Nat} {n : Nat} {Q : Exit -> Act -> World -> Prop} {k kf : BT Value -> St -> Bool} (hQ : ∀ a w, Bm P K0 B m0 a0 w0 kf a w -> Q .normal a w) (hN : Region.ready .any ops E = [] -> kf T S = true)
 (hE : ∀ j, j ∈ Region.ready .any ops E -> ¬ j ∈ D -> ∀ fuel L K m w a, sW P B ops Ti K0 m0 a0 w0 V T S D E H True L K m w a -> j ∈ Region.ready .any ops L -> Jr ops (L.setIfInBounds j true) <= fuel -> wpOpIn (Fr r) n P ops Q j (wpAnyIn (Fr r) n P .any ops Q fuel (L.setIfInBounds j true)) a w) :
 ∀ fuel L K m w a, sW P B ops Ti K0 m0 a0 w0 V T S D E H True L K m w a -> Jr ops L <= fuel -> wpAnyIn (Fr r) n P .any ops Q fuel L a w := by
 have fin : ∀ L K m w a, sW P B ops Ti K0 m0 a0 w0 V T S D E H True L K m w a -> Region.ready .any ops L = [] -> Q .normal a w := by
  intro L K m w a I hr;have all : ∀ i, i ∈ D -> oQ L i := by
   intro i hi;refine Classical.byContradiction fun hn => ?_
   obtain ⟨j, o, h1, h2, h3, h4⟩ := I.ord.first (p := oQ L) ⟨i, hi, hn⟩
   have : j ∈ Region.ready .any ops L := mem_ready.2 ⟨fW.2 ⟨by rw [I.sl]; exact (Array.getElem?_eq_some_iff.1 h3).1, h2⟩, o, h3, h4⟩;rw [hr] at this;cases this
  refine hQ a w (I.end_ all (hN ?_));cases he : Region.ready .any ops E with
  | nil => rfl
  | cons j js =>
   have hj : j ∈ Region.ready .any ops E := by rw [he]; simp
   obtain ⟨h0, o, ho, hd⟩ := mem_ready.1 hj;obtain ⟨hlt, hn⟩ := fW.1 h0;have : j ∈ Region.ready .any ops L := mem_ready.2 ⟨fW.2 ⟨by rw [I.sl, <- I.se]; exact hlt, fun h => hn ((I.ed j).2 (I.sub j h))⟩, o, ho, fun e he hb => all _ ((I.ed _).1 (hd e he hb))⟩;rw [hr] at this;cases this
 intro fuel
 induction fuel with
 | zero =>
  intro L K m w a I hc;have hr : Region.ready .any ops L = [] := by
   cases he : Region.ready .any ops L with
   | nil => rfl
   | cons j js =>
    have hj : j ∈ Region.ready .any ops L := by rw [he]; simp
    obtain ⟨h0, o, ho, hd⟩ := mem_ready.1 hj;exact absurd (Gu oM (Array.getElem?_eq_some_iff.1 ho).1) (fW.1 h0).2
  exact ⟨hr, fin L K m w a I hr⟩
 | succ fuel ih =>
  intro L K m w a I hc;refine ⟨fin L K m w a I, fun i hi => ?_⟩;obtain ⟨h0, o, ho, hd⟩ := mem_ready.1 hi;obtain ⟨hlt, hn⟩ := fW.1 h0;have hlt' : i < ops.size := (Array.getElem?_eq_some_iff.1 ho).1;have hcs := Js (ops := ops) I.sl hlt' hn;by_cases hD : i ∈ D
  ·exact I.pending hU hO hD hi (fun K' m' w' a' I' => ih _ K' m' w' a' I' oM)
  ·refine hE i (mem_ready.2 ⟨fW.2 ⟨by rw [I.se]; exact hlt', fun h => hD ((I.ed i).1 h)⟩, o, ho, fun e he hb => (I.ed _).2 (I.sub _ (hd e he hb))⟩) hD fuel L K m w a I hi oM
theorem nK : ∀ {l : List Nat} {j : Nat}, pickCalm ops l = some j -> j ∈ l /\ ∀ o, ops[j]? = some o -> calm o.op = true
 | i :: l, j, h => by
  simp only [pickCalm] at h;cases ho : ops[i]? with
  | none =>
   simp only [ho] at h;have h : pickCalm ops l = some j := h;obtain ⟨h1, h2⟩ := nK (l := l) h;exact ⟨List.mem_cons_of_mem _ h1, h2⟩
  | some o =>
   simp only [ho] at h;cases hb : calm o.op with
   | true =>
    rw [hb] at h;cases h;refine ⟨sM, fun o' ho' => ?_⟩;rw [ho] at ho';cases ho';exact hb
   | false =>
    rw [hb] at h;obtain ⟨h1, h2⟩ := nK (l := l) h;exact ⟨List.mem_cons_of_mem _ h1, h2⟩
theorem qG {i : Nat} {ks : List Nat} {l : List (Nat × List Nat)} {items : List Item} (h : itemsOf P ops ((i, ks) :: l) = some items) : ∃ x ags xs, items = x :: (ags ++ xs) /\ compItem P ops i = some x /\ agains P ops ks = some ags /\ itemsOf P ops l = some xs := by
 simp only [itemsOf] at h;split at h
 ·rename_i x ags xs h1 h2 h3
  cases h;exact ⟨x, ags, xs, rfl, h1, h2, h3⟩
 ·cases h
def Nu (ops : Array Oper) (D lds : List Nat) : Prop := (∀ i ∈ D, ∀ o, ops[i]? = some o -> isLook o.op = true -> i ∈ lds) /\ ∀ i ∈ lds, i ∈ D
theorem Gv (hU : tL P ops) (hO : ∀ K, iQ P K B O) {r : Option Nat} {n : Nat} {Q : Exit -> Act -> World -> Prop} {k : BT Value -> St -> Bool} (hQ : ∀ a w, Bm P K0 B m0 a0 w0 k a w -> Q .normal a w) :
 ∀ (fl : Nat) (E : Array Bool) (lds : List Nat) (plan : List (Nat × List Nat)) (items : List Item), sched ops (Region.before ops) fl E lds = some plan -> itemsOf P ops plan = some items -> ∀ V T S D H, dW P O items T S k = true -> Nu ops D lds ->
  ∀ fuel L K m w a, sW P B ops Ti K0 m0 a0 w0 V T S D E H True L K m w a -> Jr ops L <= fuel -> wpAnyIn (Fr r) n P .any ops Q fuel L a w := by
 have stop : ∀ (E : Array Bool) (items : List Item), itemsOf P ops [] = some items -> Region.ready .any ops E = [] -> ∀ V T S D H, dW P O items T S k = true ->
  ∀ fuel L K m w a, sW P B ops Ti K0 m0 a0 w0 V T S D E H True L K m w a -> Jr ops L <= fuel -> wpAnyIn (Fr r) n P .any ops Q fuel L a w := by
  intro E items hi he V T S D H hk;cases hi;exact uR hU hO hQ (k := k) (fun _ => hk) (fun j hj => by rw [he] at hj; cases hj)
 intro fl
 induction fl with
 | zero =>
  intro E lds plan items hs hi V T S D H hk hl;simp only [sched] at hs;split at hs
  ·rename_i he
   cases hs;exact stop E items hi he V T S D H hk
  ·cases hs
 | succ fl ih =>
  intro E lds plan items hs hi V T S D H hk hl fuel L K m w a I hc;simp only [sched] at hs;split at hs
  ·rename_i he
   cases hs;exact stop E items hi he V T S D H hk fuel L K m w a I hc
  ·rename_i i rs he
   split at hs
   ·rename_i j hp
    split at hs
    ·rename_i l hl2
     cases hs;obtain ⟨x, ags, xs, rfl, hx, ha, hxs⟩ := qG hi;cases ha;obtain ⟨hj, hcalm⟩ := nK hp;rw [<- he] at hj;have hk0 : wJ P O x T S (fun T s => dW P O xs T s k) = true := hk;obtain ⟨V', T', S', K', H', h1, h2⟩ := I.ahead hU hj hx hcalm hk0;refine ih _ _ l xs hl2 hxs V' T' S' (j :: D) H' h1 ⟨fun i' hi' o' ho' hlook => ?_, fun i' hi' => ?_⟩ fuel L K' m w a h2 hc;rcases List.mem_cons.1 hi' with rfl | hi'
     ·simp only [ho', hlook]
      exact List.mem_cons_self
     ·cases hoj : ops[j]? with
      | none => exact hl.1 i' hi' o' ho' hlook
      | some oj =>
       simp only;cases isLook oj.op with
       | true => exact List.mem_cons_of_mem _ (hl.1 i' hi' o' ho' hlook)
       | false => exact hl.1 i' hi' o' ho' hlook
     cases hoj : ops[j]? with
     | none =>
      rw [hoj] at hi';exact List.mem_cons_of_mem _ (hl.2 i' hi')
     | some oj =>
      rw [hoj] at hi';simp only at hi';cases hlk : isLook oj.op with
      | true =>
       rw [hlk] at hi';rcases List.mem_cons.1 hi' with rfl | hi'
       ·exact List.mem_cons_self
       ·exact List.mem_cons_of_mem _ (hl.2 i' hi')
      | false =>
       rw [hlk] at hi';exact List.mem_cons_of_mem _ (hl.2 i' hi')
    ·cases hs
   ·rename_i hp
    split at hs
    ·split at hs
     ·rename_i l hl2
      cases hs;obtain ⟨x, ags, xs, rfl, hx, ha, hxs⟩ := qG hi;have hk0 : wJ P O x T S (fun T s => dW P O (ags ++ xs) T s k) = true := hk;have hcalm : ∀ o, ops[i]? = some o -> calm o.op = false := by
       intro o ho;simp only [pickCalm, ho] at hp;cases hcc : calm o.op with
       | false => rfl
       | true => rw [hcc] at hp; cases hp
      refine uR hU hO hQ (k := k) (fun h => by rw [he] at h; cases h) (fun j hj hjD fuel L K m w a I hr hc => ?_) fuel L K m w a I hc;rw [he] at hj;have hji : j = i := by simpa using hj
      subst hji;refine I.both hU hO hjD hr hx hk0 (fun V' T' S' m' w' a' h1 h2 => ?_);have hlD : ∀ i' ∈ D, ∀ o, ops[i']? = some o -> ∀ k, lY o k -> k ∈ j :: D := fun i' hi' o ho k hk => List.mem_cons_of_mem _ (I.ord.closed i' o hi' ho k hk)
      obtain ⟨h3, h4⟩ := zE (V := V') (Ti := Ti) (K0 := K0) (K := K) (H := H) ha h1 (fun i' hi' => ⟨fun o ho hlk t ht v => (h2.tE t v).trans (iE.look hU ho (hlD i' (hl.2 i' (List.mem_filter.1 hi').1) o ho) hlk ht), fun o d ho hdst => (h2.tE d (V' i')).2 (.inl ⟨i', o, List.mem_cons_of_mem _ (hl.2 i' (List.mem_filter.1 hi').1), ho, hdst, rfl⟩)⟩);have I2 : sW P B ops Ti K0 m0 a0 w0 V' T' S' (j :: D) (E.setIfInBounds j true) H True (L.setIfInBounds j true) K m' w' a' := by
       refine ⟨h2.se, h2.sl, h2.ed, h2.ord, h2.sub, h2.closed, h2.emb, h2.tE, h2.tW, h2.sz, fun i' hi' hn' => ?_, h2.k0, h2.le, h2.bel, h2.df⟩;have hp' := h2.pend i' hi' hn';obtain ⟨h0, o, ho, hd⟩ := mem_ready.1 hr;have hlt : j < ops.size := (Array.getElem?_eq_some_iff.1 ho).1;have hset := rW (L := L) (i := j) (by rw [I.sl]; exact hlt);have hne : i' ≠ j := fun e => hn' ((hset i').2 (.inl e))
       have hnL : ¬ oQ L i' := fun e => hn' ((hset i').2 (.inr e))
       have hiD : i' ∈ D := by
        rcases List.mem_cons.1 hi' with e | e
        ·exact absurd e hne
        ·exact e
       have hp2 := hp';obtain ⟨x', o', Tj, g1, g2, g3, g4, g5, gT, g6⟩ := hp2;by_cases hlk : oY x'.op = true
       ·refine h4 i' (List.mem_filter.2 ⟨hl.1 i' hiD o' g2 ?_, ?_⟩) hp'
        ·cases hcc : compOp P o' with
         | none => rw [g4, hcc] at hlk; cases hlk
         | some c =>
          rw [g4, hcc] at hlk;exact (tK (dst := o'.dst) (op := o'.op) (ty := o'.type) (pos := o'.pos) (af := o'.after) (gd := o'.guard) hcc).2.1 hlk
        ·cases han : anc (Region.before ops) j i' with
         | false => rfl
         | true => exact absurd (CJ I.closed (j + 1) j (Nat.lt_succ_self j) ho (rZ (p := oQ L) hd) han) hnL
       ·exact kF.up_l g1 (by simpa using hlk) hp'
      refine ih _ _ l xs hl2 hxs V' T' S' (j :: D) H h3 ⟨fun i' hi' o' ho' hlook => ?_, fun i' hi' => List.mem_cons_of_mem _ (hl.2 i' hi')⟩ fuel _ K m' w' a' I2 hc;rcases List.mem_cons.1 hi' with rfl | hi'
      ·have := hcalm o' ho'
       revert this hlook
       cases o'.op <;> simp [isLook, calm]
      ·exact hl.1 i' hi' o' ho' hlook
     ·cases hs
    ·cases hs
end
theorem DA {P : Program} {B : Nat} {O : OK} (hO : ∀ K, iQ P K B O) (K : Kp) : CB P K B O := by
 intro r id ops items T s k hc hk m w a E hT;unfold compRegion at hc;simp only at hc;obtain ⟨h1, h2⟩ := bU hc;simp only [Bool.and_eq_true] at h1;split at h2
 ·rename_i plan hp
  refine wpIn_region_any h1.2 ?_;have hn : ∀ i, ¬ oQ (Array.replicate ops.size false) i := by
   intro i h;unfold oQ at h;by_cases hi : i < ops.size
   ·simp [hi] at h
   ·simp [hi] at h
  have hn0 : ∀ t v, iE ops (fun _ => undef) T (oQ (Array.replicate ops.size false)) t v -> T.get t = some v := by
   rintro t v (⟨i, o, h, _⟩ | ⟨_, h⟩)
   ·exact absurd h (hn i)
   ·exact h
  refine Gv (Ti := T) (Jp h1.1) hO (K0 := K) (m0 := m) (a0 := a) (w0 := w) (fun a' w' h => ⟨rfl, h⟩) ops.size (Array.replicate ops.size false) [] plan items hp h2 (fun _ => undef) T s [] (fun _ => 0) hk ⟨fun i hi => (by cases hi), fun i hi => (by cases hi)⟩ ops.size (Array.replicate ops.size false) K m { w with drawn := w.drawn + 1 } a ?_ ?_
  ·refine ⟨sM, sM, fun i => ⟨fun h => absurd h (hn i), fun h => by cases h⟩, trivial, fun i h => absurd h (hn i), fun i o h => absurd h (hn i), ⟨E.low, E.old, E.obj, E.inj, E.base, E.kept⟩, fun t v => ⟨fun h => .inr ⟨fun i o hi => (by cases hi), h⟩, ?_⟩, fun t v ht => hT t v (hn0 t v ht), fun t v ht => ?_, fun i hi => (by cases hi), fun j o h => h, Mp.le_refl m, ⟨rfl, rfl, rfl, Nat.le_refl _, fun _ _ => rfl⟩, rfl⟩
   ·rintro (⟨i, o, h, _⟩ | ⟨_, h⟩)
    ·cases h
    ·exact h
   ·obtain ⟨u, hu, _⟩ := hT t v ht
    exact (Array.getElem?_eq_some_iff.1 hu).1
  ·unfold Jr
   refine Nat.le_trans (List.length_filter_le _ _) ?_;simp
 ·cases h2
end Go.Proofs.YtjkdkpckjgaplaaGreat.Ev
namespace Go.Proofs.YtjkdkpckjgaplaaGreat.Ev
open Go Go.RowKit
def Holds (P : Program) : BT (Option CF) -> Nat -> Nat -> Prop
 | .leaf, _, _ => True
 | .node o l r, a, d => (o = none ∨ compF P a = o) /\ Holds P l (a + d) (2 * d) /\ Holds P r (a + 2 * d) (2 * d)
theorem tO {P : Program} {c : CF} : ∀ {t : BT (Option CF)} {a d n : Nat}, Holds P t a d -> t.get n = some (some c) -> compF P (a + d * n) = some c
 | .leaf, a, d, n, _, h => by cases h
 | .node o l r, a, d, n, ⟨h1, h2, h3⟩, h => by
  simp only [BT.get] at h;by_cases h0 : n = 0
  ·subst h0
   rw [if_pos rfl] at h;cases h;rcases h1 with h1 | h1
   ·cases h1
   ·simpa using h1
  ·rw [if_neg h0] at h
   by_cases hp : n % 2 = 1
   ·rw [if_pos hp] at h
    have := tO h2 h;have e : a + d + 2 * d * (n / 2) = a + d * n := by
     have : n = 2 * (n / 2) + 1 := oM
     conv => rhs; rw [this]
     rw [Nat.mul_add, <- Nat.mul_assoc, Nat.mul_comm d 2];omega
    rw [<- e];exact this
   ·rw [if_neg hp] at h
    have := tO h3 h;have e : a + 2 * d + 2 * d * (n / 2 - 1) = a + d * n := by
     have : n = 2 * (n / 2 - 1) + 2 := oM
     conv => rhs; rw [this]
     rw [Nat.mul_add, <- Nat.mul_assoc, Nat.mul_comm d 2];omega
    rw [<- e];exact this
theorem Gw {P : Program} {t : BT (Option CF)} (h : Holds P t 0 1) (f : Nat) (k : CF -> Bool) (hk : cA t f k = true) : ∃ c, compF P f = some c /\ k c = true := by
 obtain ⟨o, ho, hk1⟩ := iK (k := fun o => @Option.rec CF (fun _ => Bool) false k o) hk;cases o with
 | none => cases hk1
 | some c => exact ⟨c, by simpa using tO h ho, hk1⟩
theorem Ft (P : Program) (w : World) : cN P (fun _ => none) w.heap.size (fun _ => none) ⟨.leaf, 0⟩ w :=
 ⟨fun _ _ _ h => (by cases h), fun _ _ h => (by cases h), fun _ _ _ _ h => (by cases h), fun _ _ _ _ _ h => (by cases h), Nat.le_refl _, fun _ _ h => (by cases h)⟩
theorem Nv {P : Program} {t : BT (Option CF)} (h : Holds P t 0 1) {n : Nat} {f : FuncId} (hk : OG P t n f = true) (w : World) :
 Calls P f #[] w (fun e w' => e = .returned (.bool true) /\ Below w.heap.size w w') := by
 have hk0 : (yS P (cA t) n).call f [] ⟨.leaf, 0⟩ (fun v _ => F3 v) = true := hk;obtain ⟨_, hcall⟩ := ((OV (B := w.heap.size) (Gw h) (fun O hO K => DA hO K) n) (fun _ => none)).2.call hk0 (us := []) (Ft P w) (by simp only [LR]);refine (callsIn_wide (n := 0)).1 (CallsIn.mono hcall (fun e w' he => ?_));cases e with
 | returned u =>
  obtain ⟨v, s', m', h1, _, _, h4, h5⟩ := he;obtain ⟨b, rfl, h2⟩ := nG (k := fun b => b) h1;have hb : b = true := h2;subst hb;have : u = .bool true := by simpa only [VR] using h5
  exact ⟨by rw [this], h4⟩
 | panicked => exact he.elim
 | outgrown => exact he.elim
/-! Short words for turned code. -/
section
variable (d : Nat) (o : COp)
abbrev iM (s : Nat) : Item := ⟨none, some d, .mov (.t s)⟩
abbrev iO : Item := ⟨none, some d, o⟩
abbrev iN : Item := ⟨none, none, o⟩
abbrev vF : X := .c (.func (.func d) ⟨[]⟩ ⟨[]⟩)
abbrev iC (f : Nat) (l : List X) : Item := ⟨none, some d, .call (.c (.func (.func f) ⟨[]⟩ ⟨[]⟩)) l⟩
abbrev vI (z : Int) : X := .c (.int .i64 z)
abbrev y0 : Value := .int .i64 0
abbrev vt : X := .c (.bool true)
abbrev vf : X := .c (.bool false)
abbrev vn : X := .c (.slice none 0 0)
abbrev z0 : Value := .int .i64 (.ofNat 0)
abbrev cS (l : List Item) (c : CC) : CC := .seq (.items l) c
abbrev t0 : X := .t 0
abbrev t1 : X := .t 1
abbrev t2 : X := .t 2
abbrev t3 : X := .t 3
abbrev t4 : X := .t 4
abbrev t5 : X := .t 5
abbrev t6 : X := .t 6
abbrev t7 : X := .t 7
abbrev t8 : X := .t 8
abbrev t9 : X := .t 9
abbrev oO : X := .t 10
abbrev nL : X := .t 11
abbrev oH : X := .t 12
abbrev oI : X := .t 13
abbrev pX : X := .t 14
abbrev oJ : X := .t 15
abbrev nM : X := .t 16
abbrev qH : X := .t 17
abbrev pB : X := .t 18
abbrev sX : X := .t 19
abbrev tP : X := .t 20
abbrev vA : X := .t 21
abbrev t22 : X := .t 22
abbrev yJ : X := .t 23
abbrev sY : X := .t 24
abbrev vJ : X := .t 25
abbrev yK : X := .t 26
abbrev A7 : X := .t 27
abbrev t28 : X := .t 28
abbrev Cj : X := .t 29
abbrev Ck : X := .t 30
abbrev CO : X := .t 31
abbrev yH : X := .t 32
abbrev A8 : X := .t 33
abbrev Ar : X := .t 34
abbrev Cl : X := .t 35
abbrev Bx : X := .t 36
abbrev By : X := .t 37
abbrev CP : X := .t 38
abbrev Fv : X := .t 39
abbrev FW : X := .t 40
abbrev Bz : X := .t 41
abbrev BA : X := .t 42
abbrev Gx : X := .t 43
abbrev Jt : X := .t 44
abbrev Fw : X := .t 45
abbrev t46 : X := .t 46
abbrev Fx : X := .t 47
abbrev ML : X := .t 48
abbrev OZ : X := .t 49
abbrev FX : X := .t 50
abbrev t51 : X := .t 51
abbrev MM : X := .t 52
abbrev t53 : X := .t 53
abbrev OA : X := .t 54
abbrev PX : X := .t 55
abbrev Qj : X := .t 56
abbrev PY : X := .t 57
abbrev Nw : X := .t 58
abbrev QY : X := .t 59
abbrev PZ : X := .t 60
abbrev Nx : X := .t 61
abbrev OB : X := .t 62
abbrev MN : X := .t 63
abbrev Qk : X := .t 64
abbrev P0 : X := .t 65
abbrev QZ : X := .t 66
abbrev O0 : X := .t 67
abbrev P1 : X := .t 68
abbrev OC : X := .t 69
abbrev O1 : X := .t 70
abbrev Ny : X := .t 71
abbrev P2 : X := .t 72
abbrev P3 : X := .t 73
abbrev O2 : X := .t 74
abbrev P4 : X := .t 75
abbrev Nz : X := .t 76
abbrev Ql : X := .t 77
abbrev Qm : X := .t 78
abbrev P5 : X := .t 79
abbrev O3 : X := .t 80
abbrev Rf : X := .t 81
abbrev O4 : X := .t 82
abbrev P6 : X := .t 83
abbrev O5 : X := .t 84
abbrev P7 : X := .t 85
abbrev O6 : X := .t 86
abbrev Qn : X := .t 87
abbrev P8 : X := .t 88
abbrev O7 : X := .t 89
abbrev Rg : X := .t 90
abbrev Q8 : X := .t 91
abbrev Q9 : X := .t 92
abbrev NA : X := .t 93
abbrev Ra : X := .t 94
abbrev Qo : X := .t 95
abbrev Qp : X := .t 96
abbrev Rb : X := .t 97
abbrev Qq : X := .t 98
abbrev P9 : X := .t 99
abbrev NB : X := .t 100
abbrev Fy : X := .t 101
abbrev NC : X := .t 102
abbrev ND : X := .t 103
abbrev NE : X := .t 104
abbrev Ju : X := .t 105
abbrev Jv : X := .t 106
abbrev O8 : X := .t 107
abbrev NF : X := .t 108
abbrev NG : X := .t 109
abbrev Qr : X := .t 110
abbrev O9 : X := .t 111
abbrev Qs : X := .t 112
abbrev NH : X := .t 113
abbrev NI : X := .t 114
abbrev Pa : X := .t 115
abbrev Jw : X := .t 116
abbrev NJ : X := .t 117
abbrev Gy : X := .t 118
abbrev Pb : X := .t 119
abbrev Qt : X := .t 120
abbrev NK : X := .t 121
abbrev Pc : X := .t 122
abbrev Jx : X := .t 123
abbrev NL : X := .t 124
abbrev Gz : X := .t 125
abbrev NM : X := .t 126
abbrev Pd : X := .t 127
abbrev Rh : X := .t 128
abbrev Jy : X := .t 129
abbrev Qu : X := .t 130
abbrev t131 : X := .t 131
abbrev Pe : X := .t 132
abbrev Pf : X := .t 133
abbrev Fz : X := .t 134
abbrev Jz : X := .t 135
abbrev JA : X := .t 136
abbrev Pg : X := .t 137
abbrev JB : X := .t 138
abbrev Qv : X := .t 139
abbrev Qw : X := .t 140
abbrev Qx : X := .t 141
abbrev Ri : X := .t 142
abbrev Ph : X := .t 143
abbrev Pi : X := .t 144
abbrev Qy : X := .t 145
abbrev Rj : X := .t 146
abbrev Rk : X := .t 147
abbrev Rl : X := .t 148
abbrev Rm : X := .t 149
abbrev Pj : X := .t 150
abbrev Qz : X := .t 151
abbrev QA : X := .t 152
abbrev NO : X := .t 153
abbrev Rn : X := .t 154
abbrev Ro : X := .t 155
abbrev QB : X := .t 156
abbrev Pk : X := .t 157
abbrev Rp : X := .t 158
abbrev Pm : X := .t 159
end
end Go.Proofs.YtjkdkpckjgaplaaGreat.Ev
