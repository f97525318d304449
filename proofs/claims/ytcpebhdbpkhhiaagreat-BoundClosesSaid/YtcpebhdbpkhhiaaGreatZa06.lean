import Derived.Test.YtcpebhdbpkhhiaaGreatZa05
import Derived.MapKept
import Derived.OrdersIn
set_option linter.unusedVariables false
set_option linter.unusedSimpArgs false
/- Each operation, turned and run, does what the program's does. No program here. -/
namespace Go.Proofs.YtcpebhdbpkhhiaaGreat.Ev
open Go Go.RowKit

theorem cxs_ok {m : Mp} {T : BT Value} {ρ : Operand → Value} : ∀ {l : List Operand} {xs : List X} {vs : List Value}, cxs l = some xs → XVs T xs vs → (∀ x ∈ l, ∀ X v, cx x = some X → XV T X v → VR m v (ρ x)) → LR m vs (l.map ρ)
  | [], xs, vs, h, hv, _ => by
    simp only [cxs, Option.some.injEq] at h; subst h
    simp only [XVs] at hv; subst hv
    simp only [LR, List.map_nil]
  | x :: l, xs, vs, h, hv, k => by
    simp only [cxs] at h
    split at h
    · rename_i X Xs h1 h2
      cases h
      simp only [XVs] at hv
      obtain ⟨v, vs', rfl, h3, h4⟩ := hv
      simp only [LR, List.map_cons]
      exact ⟨ρ x, _, rfl, k x (by simp) X v h1 h3, cxs_ok h2 h4 (fun y hy => k y (by simp [hy]))⟩
    · cases h
theorem cxo_ok {m : Mp} {T : BT Value} {ρ : Operand → Value} {x : Option Operand} {X' : Option X} {v : Option Value} (h : cxo x = some X') (hv : XO T X' v) (k : ∀ y, x = some y → ∀ X v, cx y = some X → XV T X v → VR m v (ρ y)) : VO m v (x.map ρ) := by
  cases x with
  | none =>
    simp only [cxo, Option.some.injEq] at h; subst h
    simp only [XO] at hv; subst hv
    simp only [VO, Option.map_none]
  | some y =>
    simp only [cxo, Option.map_eq_some_iff] at h
    obtain ⟨X, h1, rfl⟩ := h
    simp only [XO] at hv
    obtain ⟨u, rfl, h2⟩ := hv
    simp only [VO, Option.map_some]
    exact ⟨_, rfl, k y rfl X u h1 h2⟩

/-- What the operands of an operation are. -/
def Hρ (m : Mp) (T : BT Value) (ρ : Operand → Value) (op : Op) : Prop := ∀ x ∈ op.operands, ∀ X v, cx x = some X → XV T X v → VR m v (ρ x)

section
variable {P : Program} {K : Kp} {B : Nat} {m : Mp} {s : St} {w : World} {T : BT Value} {ρ : Operand → Value} {k : Value → St → Bool} {dst : Option Tmp} {ty : TypeId} {pos : String} {af : Array Edge} {gd : Option (Nat × Bool)} {c : COp}
/-- An operation goes through. -/
def OpDone (P : Program) (K : Kp) (B : Nat) (m : Mp) (w : World) (k : Value → St → Bool) (r : Result Next) : Prop := ∃ v s', k v s' = true ∧ OpOk P K B m w r v s'

theorem OpDone.keep (E : Emb P K B m s w) {v u : Value} {r : Result Next} (hk : k v s = true) (h : VR m v u) (hr : r = .ok (.value u) w) : OpDone P K B m w k r := ⟨v, s, hk, OpOk.pure E h hr⟩

theorem op_move {x : Operand} {op : Op} (ho : op = .move x ∨ op = .assign x) (hc : compOp P ⟨dst, op, ty, pos, af, gd⟩ = some c) (hρ : Hρ m T ρ op) (E : Emb P K B m s w) (hk : runOpK P T s c k = true) : OpDone P K B m w k ((execOp ρ ⟨dst, op, ty, pos, af, gd⟩).run P w) := by
  have hc' : (cx x).map COp.mov = some c := by rcases ho with rfl | rfl <;> exact hc
  obtain ⟨X, h1, rfl⟩ := Option.map_eq_some_iff.1 hc'
  obtain ⟨v, hv, hk⟩ := valK_inv (k := vK s k) hk
  refine OpDone.keep E hk (hρ x (by rcases ho with rfl | rfl <;> simp [Op.operands]) X v h1 hv) ?_
  rcases ho with rfl | rfl <;> rfl
theorem op_pick {a b d : Operand} (hc : compOp P ⟨dst, .pick a b d, ty, pos, af, gd⟩ = some c) (hρ : Hρ m T ρ (.pick a b d)) (E : Emb P K B m s w) (hk : runOpK P T s c k = true) : OpDone P K B m w k ((execOp ρ ⟨dst, .pick a b d, ty, pos, af, gd⟩).run P w) := by
  simp only [compOp] at hc
  split at hc
  · rename_i A C D h1 h2 h3
    cases hc
    have hk1 : valK T A (fun c => valK T C (fun a => valK T D (fun b => pickK c a b (vK s k)))) = true := hk
    obtain ⟨va, ha, hk2⟩ := valK_inv hk1
    obtain ⟨vb, hb, hk3⟩ := valK_inv hk2
    obtain ⟨vd, hd, hk4⟩ := valK_inv hk3
    have ra := hρ a (by simp [Op.operands]) A va h1 ha
    have rb := hρ b (by simp [Op.operands]) C vb h2 hb
    have rd := hρ d (by simp [Op.operands]) D vd h3 hd
    obtain ⟨t, rfl, hk5⟩ := onBool_inv hk4
    have e : ρ a = .bool t := by simpa only [VR] using ra
    cases t with
    | true => exact OpDone.keep E hk5 rb (by simp [execOp, e, asBool])
    | false => exact OpDone.keep E hk5 rd (by simp [execOp, e, asBool])
  · cases hc
theorem op_alloc {t : TypeId} (hc : compOp P ⟨dst, .alloc t, ty, pos, af, gd⟩ = some c) (E : Emb P K B m s w) (hk : runOpK P T s c k = true) : OpDone P K B m w k ((execOp ρ ⟨dst, .alloc t, ty, pos, af, gd⟩).run P w) := by
  simp only [compOp] at hc
  obtain ⟨z, h1, rfl⟩ := Option.map_eq_some_iff.1 hc
  obtain ⟨v, s', hk2, m', w', u, hr, hle, hE, hB, hv⟩ := alloc_ok h1 E hk
  exact ⟨v, s', hk2, m', w', .value u, by simp [execOp, hr], trivial, hle, hE, hB, hv⟩
theorem op_box {t : TypeId} {x : Operand} (hc : compOp P ⟨dst, .box t x, ty, pos, af, gd⟩ = some c) (hρ : Hρ m T ρ (.box t x)) (E : Emb P K B m s w) (hk : runOpK P T s c k = true) : OpDone P K B m w k ((execOp ρ ⟨dst, .box t x, ty, pos, af, gd⟩).run P w) := by
  simp only [compOp] at hc
  obtain ⟨X, h1, rfl⟩ := Option.map_eq_some_iff.1 hc
  obtain ⟨v, hv, hk1⟩ := valK_inv (k := fun v => boxK s t v k) hk
  obtain ⟨r, s', hk2, m', w', u, hr, hle, hE, hB, hv⟩ := box_ok E (hρ x (by simp [Op.operands]) X v h1 hv) hk1
  exact ⟨r, s', hk2, m', w', .value u, by simp [execOp, hr], trivial, hle, hE, hB, hv⟩
theorem op_load {t : TypeId} {x : Operand} (hc : compOp P ⟨dst, .load t x, ty, pos, af, gd⟩ = some c) (hρ : Hρ m T ρ (.load t x)) (E : Emb P K B m s w) (hk : runOpK P T s c k = true) : OpDone P K B m w k ((execOp ρ ⟨dst, .load t x, ty, pos, af, gd⟩).run P w) := by
  simp only [compOp] at hc
  split at hc
  · rename_i n A h1 h2
    cases hc
    obtain ⟨v, hv, hk1⟩ := valK_inv (k := fun a => ldK s n a (vK s k)) hk
    obtain ⟨r, hk2, r', hr, hrr⟩ := ld_ok h1 E (hρ x (by simp [Op.operands]) A v h2 hv) hk1
    exact OpDone.keep E hk2 hrr (by simp [execOp, hr])
  · cases hc
theorem op_store {t : TypeId} {x y : Operand} (hc : compOp P ⟨dst, .store t x y, ty, pos, af, gd⟩ = some c) (hρ : Hρ m T ρ (.store t x y)) (E : Emb P K B m s w) (hk : runOpK P T s c k = true) : OpDone P K B m w k ((execOp ρ ⟨dst, .store t x y, ty, pos, af, gd⟩).run P w) := by
  simp only [compOp] at hc
  split at hc
  · rename_i n i A C h1 h2 h3 h4
    obtain ⟨h5, hc⟩ := sel_inv hc
    cases hc
    have hk1 : valK T A (fun a => valK T C (fun x => stK s n x a (k undef))) = true := hk
    obtain ⟨va, ha, hk2⟩ := valK_inv hk1
    obtain ⟨vb, hb, hk3⟩ := valK_inv hk2
    obtain ⟨s', hk4, w', hr, hE, hB⟩ := st_ok h1 h2 (fun h => by subst h; simpa using h5) E (hρ y (by simp [Op.operands]) C vb h4 hb) (hρ x (by simp [Op.operands]) A va h3 ha) hk3
    exact ⟨undef, s', hk4, m, w', .skip, by simp [execOp, hr], trivial, Mp.le_refl m, hE, hB, VR.flat undef rfl⟩
  · cases hc
theorem op_nilc {x : Operand} (hc : compOp P ⟨dst, .nilCheck x, ty, pos, af, gd⟩ = some c) (hρ : Hρ m T ρ (.nilCheck x)) (E : Emb P K B m s w) (hk : runOpK P T s c k = true) : OpDone P K B m w k ((execOp ρ ⟨dst, .nilCheck x, ty, pos, af, gd⟩).run P w) := by
  simp only [compOp] at hc
  obtain ⟨X, h1, rfl⟩ := Option.map_eq_some_iff.1 hc
  obtain ⟨v, hv, hk1⟩ := valK_inv (k := fun v => nilcK v (vK s k)) hk
  obtain ⟨r, hr, hk2⟩ := optK_inv hk1
  have h2 := hρ x (by simp [Op.operands]) X v h1 hv
  refine OpDone.keep E hk2 h2 ?_
  rcases nilc_ok h2 hr with ⟨a, e⟩ | ⟨f, p, c, e⟩ <;> simp [execOp, e]
theorem op_bin {b : BinOp} {t t' : TypeId} {x y : Operand} (hc : compOp P ⟨dst, .binOp b t x y t', ty, pos, af, gd⟩ = some c) (hρ : Hρ m T ρ (.binOp b t x y t')) (E : Emb P K B m s w) (hk : runOpK P T s c k = true) : OpDone P K B m w k ((execOp ρ ⟨dst, .binOp b t x y t', ty, pos, af, gd⟩).run P w) := by
  simp only [compOp] at hc
  split at hc
  · rename_i A C h1 h2
    cases hc
    have hk1 : valK T A (fun x => valK T C (fun y => binK P b t (nilKind P t) x y (vK s k))) = true := hk
    obtain ⟨va, ha, hk2⟩ := valK_inv hk1
    obtain ⟨vb, hb, hk3⟩ := valK_inv hk2
    obtain ⟨r, hr, hk4⟩ := optK_inv hk3
    rw [forceV_eq] at hk4
    obtain ⟨h5, h6⟩ := bin_ok (w := w) (hρ x (by simp [Op.operands]) A va h1 ha) (hρ y (by simp [Op.operands]) C vb h2 hb) hr x y
    refine OpDone.keep E hk4 h6 ?_
    have e : (execOp ρ ⟨dst, .binOp b t x y t', ty, pos, af, gd⟩) = (do pure (.value (← (do eqGuard b t x y (ρ x) (ρ y); binOp b t (ρ x) (ρ y))))) := rfl
    rw [e, Sem.run_bind, h5]
    rfl
  · cases hc
end
end Go.Proofs.YtcpebhdbpkhhiaaGreat.Ev

/- The rest of the operations, turned and run, do what the program's do. No program here. -/
namespace Go.Proofs.YtcpebhdbpkhhiaaGreat.Ev
open Go Go.RowKit

theorem map_list (ρ : Operand → Value) (a : Array Operand) : a.map ρ = ⟨a.toList.map ρ⟩ := by
  apply Array.ext'
  simp
theorem map_parts (ρ : Operand → Value) (a : Array (Nat × Operand)) : (a.map fun (p : Nat × Operand) => (p.1, ρ p.2)) = ⟨a.toList.map fun (p : Nat × Operand) => (p.1, ρ p.2)⟩ := by
  apply Array.ext'
  simp

section
variable {P : Program} {K : Kp} {B : Nat} {m : Mp} {s : St} {w : World} {T : BT Value} {ρ : Operand → Value} {k : Value → St → Bool} {dst : Option Tmp} {ty : TypeId} {pos : String} {af : Array Edge} {gd : Option (Nat × Bool)} {c : COp}

theorem oK_inv {x : Option Value} (h : oK s k x = true) : ∃ v, x = some v ∧ k v s = true := by
  cases x with
  | none => cases h
  | some v => exact ⟨v, rfl, by simpa [oK, optK, vK, forceV_eq] using h⟩

/-- What gives a value and a world, as the lemmas say it. -/
theorem OpDone.of {e : Sem Value} {op : Oper} (h : ∃ v s', k v s' = true ∧ ∃ m' w' u, e.run P w = .ok u w' ∧ m.le m' ∧ Emb P K B m' s' w' ∧ Below B w w' ∧ VR m' v u) (he : execOp ρ op = (do pure (.value (← e)))) : OpDone P K B m w k ((execOp ρ op).run P w) := by
  obtain ⟨v, s', hk, m', w', u, hr, hle, hE, hB, hv⟩ := h
  refine ⟨v, s', hk, m', w', .value u, ?_, trivial, hle, hE, hB, hv⟩
  rw [he, Sem.run_bind, hr]
  rfl
theorem OpDone.ofK (E : Emb P K B m s w) {e : Sem Value} {op : Oper} (h : ∃ v, k v s = true ∧ ∃ u, e.run P w = .ok u w ∧ VR m v u) (he : execOp ρ op = (do pure (.value (← e)))) : OpDone P K B m w k ((execOp ρ op).run P w) := by
  obtain ⟨v, hk, u, hr, hv⟩ := h
  exact OpDone.of ⟨v, s, hk, m, w, u, hr, Mp.le_refl m, E, Below.refl B w, hv⟩ he

theorem op_un {u : UnOp} {t : TypeId} {x : Operand} (hc : compOp P ⟨dst, .unOp u t x, ty, pos, af, gd⟩ = some c) (hρ : Hρ m T ρ (.unOp u t x)) (E : Emb P K B m s w) (hk : runOpK P T s c k = true) : OpDone P K B m w k ((execOp ρ ⟨dst, .unOp u t x, ty, pos, af, gd⟩).run P w) := by
  simp only [compOp] at hc
  obtain ⟨X, h1, rfl⟩ := Option.map_eq_some_iff.1 hc
  obtain ⟨v, hv, hk1⟩ := valK_inv (k := fun x => oK s k (ev1 P (Op.unary u) x)) hk
  obtain ⟨r, hr, hk2⟩ := oK_inv hk1
  obtain ⟨h2, h3⟩ := ev1_ok (w := w) (hρ x (by simp [Op.operands]) X v h1 hv) hr
  exact OpDone.ofK E ⟨r, hk2, r, h2, h3⟩ rfl
theorem op_conv {a b : TypeId} {x : Operand} (hc : compOp P ⟨dst, .convert a b x, ty, pos, af, gd⟩ = some c) (hρ : Hρ m T ρ (.convert a b x)) (E : Emb P K B m s w) (hk : runOpK P T s c k = true) : OpDone P K B m w k ((execOp ρ ⟨dst, .convert a b x, ty, pos, af, gd⟩).run P w) := by
  simp only [compOp] at hc
  obtain ⟨X, h1, rfl⟩ := Option.map_eq_some_iff.1 hc
  obtain ⟨v, hv, hk1⟩ := valK_inv (k := fun x => oK s k (ev1 P (convert a b) x)) hk
  obtain ⟨r, hr, hk2⟩ := oK_inv hk1
  obtain ⟨h2, h3⟩ := ev1_ok (w := w) (hρ x (by simp [Op.operands]) X v h1 hv) hr
  exact OpDone.ofK E ⟨r, hk2, r, h2, h3⟩ rfl
theorem op_mini {t : TypeId} {x : Operand} (hc : compOp P ⟨dst, .makeInterface t x, ty, pos, af, gd⟩ = some c) (hρ : Hρ m T ρ (.makeInterface t x)) (E : Emb P K B m s w) (hk : runOpK P T s c k = true) : OpDone P K B m w k ((execOp ρ ⟨dst, .makeInterface t x, ty, pos, af, gd⟩).run P w) := by
  simp only [compOp] at hc
  obtain ⟨X, h1, rfl⟩ := Option.map_eq_some_iff.1 hc
  obtain ⟨v, hv, hk1⟩ := valK_inv (k := fun x => oK s k (ev1 P (Instr.makeInterface t) x)) hk
  obtain ⟨r, hr, hk2⟩ := oK_inv hk1
  obtain ⟨h2, h3⟩ := ev1_ok (w := w) (hρ x (by simp [Op.operands]) X v h1 hv) hr
  exact OpDone.ofK E ⟨r, hk2, r, h2, h3⟩ rfl
theorem op_tas {a b : TypeId} {o : Bool} {x : Operand} (hc : compOp P ⟨dst, .typeAssert x a b o, ty, pos, af, gd⟩ = some c) (hρ : Hρ m T ρ (.typeAssert x a b o)) (E : Emb P K B m s w) (hk : runOpK P T s c k = true) : OpDone P K B m w k ((execOp ρ ⟨dst, .typeAssert x a b o, ty, pos, af, gd⟩).run P w) := by
  simp only [compOp] at hc
  obtain ⟨X, h1, rfl⟩ := Option.map_eq_some_iff.1 hc
  obtain ⟨v, hv, hk1⟩ := valK_inv (k := fun x => oK s k (ev1 P (fun v => Instr.typeAssert v a b o) x)) hk
  obtain ⟨r, hr, hk2⟩ := oK_inv hk1
  obtain ⟨h2, h3⟩ := ev1_ok (w := w) (hρ x (by simp [Op.operands]) X v h1 hv) hr
  exact OpDone.ofK E ⟨r, hk2, r, h2, h3⟩ rfl
theorem op_fn {f : FuncId} {p q : Array Operand} (hc : compOp P ⟨dst, .makeFunc (.func f) p q, ty, pos, af, gd⟩ = some c) (hρ : Hρ m T ρ (.makeFunc (.func f) p q)) (E : Emb P K B m s w) (hk : runOpK P T s c k = true) : OpDone P K B m w k ((execOp ρ ⟨dst, .makeFunc (.func f) p q, ty, pos, af, gd⟩).run P w) := by
  simp only [compOp] at hc
  split at hc
  · rename_i xs ys h1 h2
    cases hc
    obtain ⟨vs, hv, hk1⟩ := valsK_inv (k := fun p => valsK T ys (fun c => k (.func (.func f) ⟨p⟩ ⟨c⟩) s)) hk
    obtain ⟨us, hu, hk2⟩ := valsK_inv hk1
    have e1 := cxs_ok h1 hv (fun x hx X v => hρ x (by simp [Op.operands]; exact .inl (by simpa using hx)) X v)
    have e2 := cxs_ok h2 hu (fun x hx X v => hρ x (by simp [Op.operands]; exact .inr (by simpa using hx)) X v)
    refine OpDone.ofK E ⟨_, hk2, .func (.func f) (p.map ρ) (q.map ρ), rfl, ?_⟩ rfl
    rw [map_list, map_list]
    simp only [VR, AR]
    exact ⟨_, _, rfl, ⟨_, rfl, e1⟩, ⟨_, rfl, e2⟩⟩
  · cases hc
theorem op_mks {t : TypeId} {x y : Operand} (hc : compOp P ⟨dst, .makeSlice t x y, ty, pos, af, gd⟩ = some c) (hρ : Hρ m T ρ (.makeSlice t x y)) (E : Emb P K B m s w) (hk : runOpK P T s c k = true) : OpDone P K B m w k ((execOp ρ ⟨dst, .makeSlice t x y, ty, pos, af, gd⟩).run P w) := by
  simp only [compOp] at hc
  split at hc
  · rename_i e X Y h1 h2 h3
    split at hc
    · rename_i i z h4 h5
      obtain ⟨h6, hc⟩ := sel_inv hc
      cases hc
      obtain ⟨vx, hx, hk1⟩ := valK_inv (k := fun l => valK T Y (fun c => mksK s e i.size i.bytes z.toList l c k)) hk
      obtain ⟨vy, hy, hk2⟩ := valK_inv hk1
      exact OpDone.of (mks_ok h1 h4 h5 (by simpa using h6) E (hρ x (by simp [Op.operands]) X vx h2 hx) (hρ y (by simp [Op.operands]) Y vy h3 hy) hk2) rfl
    · cases hc
  · cases hc
theorem op_fa {t : TypeId} {x : Operand} {f : Nat} (hc : compOp P ⟨dst, .fieldAddr t x f, ty, pos, af, gd⟩ = some c) (hρ : Hρ m T ρ (.fieldAddr t x f)) (E : Emb P K B m s w) (hk : runOpK P T s c k = true) : OpDone P K B m w k ((execOp ρ ⟨dst, .fieldAddr t x f, ty, pos, af, gd⟩).run P w) := by
  simp only [compOp] at hc
  split at hc
  · rename_i fs X h1 h2
    split at hc
    · rename_i fd h3
      split at hc
      · rename_i i h4
        cases h0 : Nat.beq i.size 0 with
        | true => rw [h0] at hc; cases hc
        | false =>
          rw [h0] at hc
          cases hc
          obtain ⟨vx, hx, hk1⟩ := valK_inv (k := fun x => faK x fd.offset (vK s k)) hk
          have h0' : i.size ≠ 0 := by
            intro e
            rw [e] at h0
            cases h0
          exact OpDone.ofK E (fa_ok (w := w) h1 h3 h4 h0' (hρ x (by simp [Op.operands]) X vx h2 hx) hk1) rfl
      · cases hc
    · cases hc
  · cases hc
theorem op_fld {t : TypeId} {x : Operand} {f : Nat} (hc : compOp P ⟨dst, .field t x f, ty, pos, af, gd⟩ = some c) (hρ : Hρ m T ρ (.field t x f)) (E : Emb P K B m s w) (hk : runOpK P T s c k = true) : OpDone P K B m w k ((execOp ρ ⟨dst, .field t x f, ty, pos, af, gd⟩).run P w) := by
  simp only [compOp] at hc
  split at hc
  · rename_i fs X h1 h2
    split at hc
    · rename_i fd h3
      obtain ⟨n, h4, rfl⟩ := Option.map_eq_some_iff.1 hc
      obtain ⟨vx, hx, hk1⟩ := valK_inv (k := fun x => onAgg x (fun l => partK l fd.offset n (vK s k))) hk
      exact OpDone.ofK E (fld_ok (w := w) h1 h3 h4 (hρ x (by simp [Op.operands]) X vx h2 hx) hk1) rfl
    · cases hc
  · cases hc
theorem op_ia {t : TypeId} {x y : Operand} (hc : compOp P ⟨dst, .indexAddr t x y, ty, pos, af, gd⟩ = some c) (hρ : Hρ m T ρ (.indexAddr t x y)) (E : Emb P K B m s w) (hk : runOpK P T s c k = true) : OpDone P K B m w k ((execOp ρ ⟨dst, .indexAddr t x y, ty, pos, af, gd⟩).run P w) := by
  simp only [compOp] at hc
  split at hc
  · rename_i e X Y h1 h2 h3
    obtain ⟨i, h4, rfl⟩ := Option.map_eq_some_iff.1 hc
    obtain ⟨vx, hx, hk1⟩ := valK_inv (k := fun x => valK T Y (fun j => iaK x j i.size (vK s k))) hk
    obtain ⟨vy, hy, hk2⟩ := valK_inv hk1
    exact OpDone.ofK E (ia_ok (w := w) h1 h4 (hρ x (by simp [Op.operands]) X vx h2 hx) (hρ y (by simp [Op.operands]) Y vy h3 hy) hk2) rfl
  · rename_i n e X Y h1 h2 h3
    obtain ⟨i, h4, rfl⟩ := Option.map_eq_some_iff.1 hc
    obtain ⟨vx, hx, hk1⟩ := valK_inv (k := fun x => valK T Y (fun j => iaaK x j n i.size (vK s k))) hk
    obtain ⟨vy, hy, hk2⟩ := valK_inv hk1
    exact OpDone.ofK E (iaa_ok (w := w) h1 h4 (hρ x (by simp [Op.operands]) X vx h2 hx) (hρ y (by simp [Op.operands]) Y vy h3 hy) hk2) rfl
  · cases hc
theorem op_ix {t : TypeId} {x y : Operand} (hc : compOp P ⟨dst, .index t x y, ty, pos, af, gd⟩ = some c) (hρ : Hρ m T ρ (.index t x y)) (E : Emb P K B m s w) (hk : runOpK P T s c k = true) : OpDone P K B m w k ((execOp ρ ⟨dst, .index t x y, ty, pos, af, gd⟩).run P w) := by
  simp only [compOp] at hc
  split at hc
  · rename_i n e X Y h1 h2 h3
    split at hc
    · rename_i i q h4 h5
      cases hc
      obtain ⟨vx, hx, hk1⟩ := valK_inv (k := fun x => valK T Y (fun j => ixK x j n i.size q (vK s k))) hk
      obtain ⟨vy, hy, hk2⟩ := valK_inv hk1
      exact OpDone.ofK E (ix_ok (w := w) h1 h4 h5 (hρ x (by simp [Op.operands]) X vx h2 hx) (hρ y (by simp [Op.operands]) Y vy h3 hy) hk2) rfl
    · cases hc
  · rename_i X Y h1 h2 h3
    cases hc
    obtain ⟨vx, hx, hk1⟩ := valK_inv (k := fun x => valK T Y (fun i => oK s k (evIxs P t x i))) hk
    obtain ⟨vy, hy, hk2⟩ := valK_inv hk1
    obtain ⟨r, hr, hk3⟩ := oK_inv hk2
    unfold evIxs at hr
    obtain ⟨hf, hr⟩ := sel_inv hr
    simp only [Bool.and_eq_true] at hf
    obtain ⟨h4, h5⟩ := flatR_inv hr
    have ex := VR.same vx hf.1 (hρ x (by simp [Op.operands]) X vx h2 hx)
    have ey := VR.same vy hf.2 (hρ y (by simp [Op.operands]) Y vy h3 hy)
    refine OpDone.ofK E ⟨r, hk3, r, ?_, VR.flat r h5⟩ (e := Instr.index t (ρ x) (ρ y)) rfl
    rw [ex, ey]
    exact pureVal_run h4 w
  · cases hc
theorem op_ext {x : Operand} {i : Nat} (hc : compOp P ⟨dst, .extract x i, ty, pos, af, gd⟩ = some c) (hρ : Hρ m T ρ (.extract x i)) (E : Emb P K B m s w) (hk : runOpK P T s c k = true) : OpDone P K B m w k ((execOp ρ ⟨dst, .extract x i, ty, pos, af, gd⟩).run P w) := by
  simp only [compOp] at hc
  obtain ⟨X, h1, rfl⟩ := Option.map_eq_some_iff.1 hc
  obtain ⟨v, hv, hk1⟩ := valK_inv (k := fun x => onTuple x (fun l => nthK l i (vK s k))) hk
  exact OpDone.ofK E (ext_ok (w := w) (hρ x (by simp [Op.operands]) X v h1 hv) hk1) rfl
theorem opt_mem {lo : Option Operand} {x : Operand} : lo = some x → x ∈ lo.toArray := by rintro rfl; simp
theorem sliceAt_run {t : TypeId} {d : TypeDesc} {u : Value} {lo hi mx : Option Value} (ht : P.underlying t = some d) (hd : ∀ n e, d ≠ .array n e) : (Instr.sliceAt t u lo hi mx).run P w = (Instr.slice t u lo hi mx).run P w := by
  unfold Instr.sliceAt
  cases d with
  | array n e => exact absurd rfl (hd _ _)
  | _ => simp only [Sem.run_bind, run_und ht, Result.andThen_ok]
theorem VO.flat_same {v u : Option Value} (h : VO m v u) (hf : flatO v = true) : u = v := by
  cases v with
  | none => simpa only [VO] using h
  | some v =>
    simp only [VO] at h
    obtain ⟨u', rfl, h⟩ := h
    rw [VR.same v hf h]
theorem op_slc {t : TypeId} {x : Operand} {lo hi mx : Option Operand} (hc : compOp P ⟨dst, .slice t x lo hi mx, ty, pos, af, gd⟩ = some c) (hρ : Hρ m T ρ (.slice t x lo hi mx)) (E : Emb P K B m s w) (hk : runOpK P T s c k = true) : OpDone P K B m w k ((execOp ρ ⟨dst, .slice t x lo hi mx, ty, pos, af, gd⟩).run P w) := by
  have q0 : ∀ X v, cx x = some X → XV T X v → VR m v (ρ x) := fun X v => hρ x (by simp [Op.operands]) X v
  have q1 : ∀ y, lo = some y → ∀ X v, cx y = some X → XV T X v → VR m v (ρ y) := fun y h X v => hρ y (by subst h; simp [Op.operands]) X v
  have q2 : ∀ y, hi = some y → ∀ X v, cx y = some X → XV T X v → VR m v (ρ y) := fun y h X v => hρ y (by subst h; simp [Op.operands]) X v
  have q3 : ∀ y, mx = some y → ∀ X v, cx y = some X → XV T X v → VR m v (ρ y) := fun y h X v => hρ y (by subst h; simp [Op.operands]) X v
  simp only [compOp] at hc
  split at hc
  · rename_i e X lo' hi' mx' h1 h2 h3 h4 h5
    split at hc
    · rename_i i h6
      obtain ⟨h7, hc⟩ := sel_inv hc
      cases hc
      obtain ⟨vx, hx, hk1⟩ := valK_inv (k := fun x => valOK T lo' (fun lo => valOK T hi' (fun hi => valOK T mx' (fun mx => slcK s e i.size x lo hi mx (vK s k))))) hk
      obtain ⟨vl, hl, hk2⟩ := valOK_inv hk1
      obtain ⟨vh, hh, hk3⟩ := valOK_inv hk2
      obtain ⟨vm, hm, hk4⟩ := valOK_inv hk3
      unfold slcK at hk4
      obtain ⟨r, hr, hk5⟩ := optK_inv hk4
      rw [forceV_eq] at hk5
      have hx' : vm.isNone = true ∨ vh.isSome = true := by
        rcases (by simpa using h7 : mx' = none ∨ hi'.isSome = true) with h | h
        · subst h
          simp only [XO] at hm
          subst hm
          exact .inl rfl
        · obtain ⟨Y, rfl⟩ := Option.isSome_iff_exists.1 h
          simp only [XO] at hh
          obtain ⟨v, rfl, _⟩ := hh
          exact .inr rfl
      obtain ⟨r', hr', hv⟩ := slc_ok h1 h6 hx' E (q0 X vx h2 hx) (cxo_ok h3 hl q1) (cxo_ok h4 hh q2) (cxo_ok h5 hm q3) hr
      exact OpDone.ofK E ⟨r, hk5, r', by rw [sliceAt_run h1 (by simp)]; exact hr', hv⟩ (e := Instr.sliceAt t (ρ x) (lo.map ρ) (hi.map ρ) (mx.map ρ)) rfl
    · cases hc
  · rename_i X lo' hi' mx' h1 h2 h3 h4 h5
    cases hc
    obtain ⟨vx, hx, hk1⟩ := valK_inv (k := fun x => valOK T lo' (fun lo => valOK T hi' (fun hi => valOK T mx' (fun mx => oK s k (evSlcn P t x lo hi mx))))) hk
    obtain ⟨vl, hl, hk2⟩ := valOK_inv hk1
    obtain ⟨vh, hh, hk3⟩ := valOK_inv hk2
    obtain ⟨vm, hm, hk4⟩ := valOK_inv hk3
    obtain ⟨r, hr, hk5⟩ := oK_inv hk4
    unfold evSlcn at hr
    obtain ⟨hf, hr⟩ := sel_inv hr
    simp only [Bool.and_eq_true] at hf
    obtain ⟨h6, h7⟩ := flatR_inv hr
    have e0 := VR.same vx hf.1.1.1 (q0 X vx h2 hx)
    have e1 := VO.flat_same (cxo_ok h3 hl q1) hf.1.1.2
    have e2 := VO.flat_same (cxo_ok h4 hh q2) hf.1.2
    have e3 := VO.flat_same (cxo_ok h5 hm q3) hf.2
    refine OpDone.ofK E ⟨r, hk5, r, ?_, VR.flat r h7⟩ (e := Instr.sliceAt t (ρ x) (lo.map ρ) (hi.map ρ) (mx.map ρ)) rfl
    rw [sliceAt_run h1 (by simp), e0, e1, e2, e3]
    exact pureVal_run h6 w
  · cases hc

theorem parts_ok {T : BT Value} {ps : Array (Nat × Operand)} {place : Nat → Option (Nat × Nat)} {xs : List (Nat × Nat × X)} {vs : List (Nat × Nat × Value)} (hc : cparts place ps.toList = some xs) (hx : XPs T xs vs) (hρ : ∀ x ∈ (ps.toList.map (·.2)).toArray, ∀ X v, cx x = some X → XV T X v → VR m v (ρ x)) : PR m place vs (ps.toList.map fun (p : Nat × Operand) => (p.1, ρ p.2)) :=
  PR_of hc hx (fun p hp x v h => hρ p.2 (by simp; exact ⟨p.1, by simpa using hp⟩) x v h)
theorem op_lit {t : TypeId} {n : Nat} {ps : Array (Nat × Operand)} (hc : compOp P ⟨dst, .buildSlice t n ps, ty, pos, af, gd⟩ = some c) (hρ : Hρ m T ρ (.buildSlice t n ps)) (E : Emb P K B m s w) (hk : runOpK P T s c k = true) : OpDone P K B m w k ((execOp ρ ⟨dst, .buildSlice t n ps, ty, pos, af, gd⟩).run P w) := by
  simp only [compOp] at hc
  split at hc
  · rename_i e h1
    split at hc
    · rename_i i z h2 h3
      split at hc
      · rename_i xs h4
        obtain ⟨h5, hc⟩ := sel_inv hc
        cases hc
        simp only [Bool.and_eq_true, Nat.ble_eq] at h5
        obtain ⟨⟨⟨h5, h6⟩, h7⟩, h8⟩ := h5
        obtain ⟨vs, hv, hk1⟩ := partsK_inv (k := fun ps => litK s e n (n * i.size) (repeatN z.toList n) ps k) hk
        have := lit_ok h1 h2 h3 (by simpa using h6) h7 h8 E (parts_ok h4 hv hρ) (inN_of h5 hv) hk1
        refine OpDone.of this ?_
        show _ = (do pure (Next.value (← Instr.buildSlice t n ⟨ps.toList.map fun (p : Nat × Operand) => (p.1, ρ p.2)⟩)))
        rw [← map_parts]
        rfl
      · cases hc
    · cases hc
  · cases hc
theorem op_build {t : TypeId} {ps : Array (Nat × Operand)} (hc : compOp P ⟨dst, .build t ps, ty, pos, af, gd⟩ = some c) (hρ : Hρ m T ρ (.build t ps)) (E : Emb P K B m s w) (hk : runOpK P T s c k = true) : OpDone P K B m w k ((execOp ρ ⟨dst, .build t ps, ty, pos, af, gd⟩).run P w) := by
  have he : execOp ρ ⟨dst, .build t ps, ty, pos, af, gd⟩ = (do pure (Next.value (← Instr.build t ⟨ps.toList.map fun (p : Nat × Operand) => (p.1, ρ p.2)⟩))) := by
    rw [← map_parts]
    rfl
  have hz0 : ∀ {z}, zeroOf P t = some z → ∃ v, (zeroValue t).run P w = .ok v w ∧ v.cells = z := by
    intro z hz
    obtain ⟨i, v, hi, hv, hvz, _, _⟩ := zeroOf_inv hz
    exact ⟨v, by simp [zeroValue, run_typeInfo hi, hv], hvz⟩
  simp only [compOp] at hc
  split at hc
  · rename_i z fs h1 h2
    split at hc
    · rename_i xs h4
      obtain ⟨h5, hc⟩ := sel_inv hc
      cases hc
      simp only [Bool.and_eq_true, List.all_eq_true] at h5
      obtain ⟨vs, hv, hk1⟩ := partsK_inv (k := fun ps => buildK z.toList ps (vK s k)) hk
      refine OpDone.ofK E (build_ok (w := w) h1 (fun cs hf => ?_) (parts_ok h4 hv hρ) (inN_of h5.1 hv) hk1) he
      obtain ⟨v, hz, hvz⟩ := hz0 h1
      unfold Instr.build
      rw [Sem.run_bind, hz]
      simp only [Result.andThen_ok]
      rw [Sem.run_bind, run_und h2]
      simp only [Result.andThen_ok]
      rw [Sem.run_bind, fields_run w fs h5.2]
      simp only [Result.andThen_ok]
      rw [place_eq h5.2, hvz, hf]
      rfl
    · cases hc
  · rename_i z n e h1 h2
    split at hc
    · rename_i i h3
      split at hc
      · rename_i xs h4
        obtain ⟨h5, hc⟩ := sel_inv hc
        cases hc
        obtain ⟨vs, hv, hk1⟩ := partsK_inv (k := fun ps => buildK z.toList ps (vK s k)) hk
        refine OpDone.ofK E (build_ok (w := w) h1 (fun cs hf => ?_) (parts_ok h4 hv hρ) (inN_of h5 hv) hk1) he
        obtain ⟨v, hz, hvz⟩ := hz0 h1
        unfold Instr.build
        rw [Sem.run_bind, hz]
        simp only [Result.andThen_ok]
        rw [Sem.run_bind, run_und h2]
        simp only [Result.andThen_ok]
        rw [Sem.run_bind, run_sizeOf h3]
        simp only [Result.andThen_ok]
        rw [hvz, hf]
        rfl
      · cases hc
    · cases hc
  · cases hc
end
end Go.Proofs.YtcpebhdbpkhhiaaGreat.Ev

/- Small maps by integers, turned and run, do what the program's do. No program here. -/
namespace Go.Proofs.YtcpebhdbpkhhiaaGreat.Ev
open Go Go.RowKit

theorem onMap_inv {v : Value} {k : Nat → Bool} (h : onMap v k = true) : ∃ b, v = .map (some b) ∧ k b = true := by
  cases v <;> first | (simp [onMap] at h; done) | skip
  rename_i r
  cases r with
  | none => cases h
  | some b => exact ⟨b, rfl, h⟩
theorem imapK_inv {s : St} {b : Nat} {k : List (Int × Value) → Bool} (h : imapK s b k = true) : ∃ es, s.h.get b = some (.imap es) ∧ k es = true := by
  obtain ⟨o, h1, h2⟩ := objK_inv h
  cases o <;> first | exact ⟨_, h1, h2⟩ | cases h2
theorem intEq_sym (a b : Int) : intEq a b = (b == a) := by rw [intEq_eq]; exact Bool.beq_comm
theorem find_ok {m : Mp} {q : Int} {ik : IntKind} : ∀ {es : List (Int × Value)} {l : List MapEntry} (_ : ER m es l) (i : Nat),
    (findL q es = none → Instr.findNow (.int ik) (.int .i64 q) l i = some none) ∧ (∀ v, findL q es = some v → ∃ j u, Instr.findNow (.int ik) (.int .i64 q) l i = some (some (j, u)) ∧ VR m v u)
  | [], l, h, i => by
    have : l = [] := h
    subst this
    exact ⟨fun _ => rfl, fun v hv => by cases hv⟩
  | e :: es, l, h, i => by
    obtain ⟨f, t, rfl, h2, h3, h4⟩ := h
    obtain ⟨g1, g2⟩ := find_ok (q := q) (ik := ik) h4 (i + 1)
    have hs : Instr.sameNow (.int ik) (.int .i64 q) f.key = some (intEq e.1 q) := by rw [h2, intEq_sym]; simp [Instr.sameNow]
    have hf : findL q (e :: es) = if intEq e.1 q = true then some e.2 else findL q es := by
      show (@Bool.rec (fun _ => Option Value) (findL q es) (some e.2) (intEq e.1 q)) = _
      cases intEq e.1 q <;> rfl
    cases hb : intEq e.1 q with
    | true =>
      rw [hf, hb, if_pos rfl]
      rw [hb] at hs
      refine ⟨fun hn => (by cases hn), fun v hv => ?_⟩
      cases hv
      exact ⟨i, f.val, by simp [Instr.findNow, hs], h3⟩
    | false =>
      rw [hf, hb, if_neg (by decide)]
      rw [hb] at hs
      exact ⟨fun hn => by simp [Instr.findNow, hs, g1 hn], fun v hv => by obtain ⟨j, u, h5, h6⟩ := g2 v hv; exact ⟨j, u, by simp [Instr.findNow, hs, h5], h6⟩⟩
theorem ER.snoc {m : Mp} {q : Int} {v u : Value} {c : Nat} (hv : VR m v u) : ∀ {es : List (Int × Value)} {l : List MapEntry}, ER m es l → ER m (appE es [(q, v)]) (l ++ [{ key := .int .i64 q, val := u, born := c }])
  | [], l, h => by
    have : l = [] := h
    subst this
    exact ⟨_, [], rfl, rfl, hv, rfl⟩
  | e :: es, l, h => by
    obtain ⟨f, t, rfl, h2, h3, h4⟩ := h
    exact ⟨f, _, rfl, h2, h3, ER.snoc hv h4⟩
theorem run_key {P : Program} {q : TypeId} {ik : IntKind} (hq : P.underlying q = some (.int ik)) (b : Bool) (n : Int) (w : World) : (Instr.checkKey b 10000 q (.int .i64 n)).run P w = .ok () w := by
  have h : ∀ j, (Instr.checkKey b (j + 1) q (.int .i64 n)).run P w = .ok () w := fun j => by
    unfold Instr.checkKey
    simp [run_und hq]
  exact h 9999
theorem run_find {P : Program} {q : TypeId} {ik : IntKind} (hq : P.underlying q = some (.int ik)) {n : Int} {l : List MapEntry} {r : Option (Nat × Value)} (h : Instr.findNow (.int ik) (.int .i64 n) l 0 = some r) (w : World) : (Instr.findKey q (.int .i64 n) l).run P w = .ok r w := by
  simp [Instr.findKey, run_und hq, h]

section
variable {P : Program} {K : Kp} {B : Nat} {m : Mp} {s : St} {w : World} {T : BT Value} {ρ : Operand → Value} {k : Value → St → Bool} {dst : Option Tmp} {ty : TypeId} {pos : String} {af : Array Edge} {gd : Option (Nat × Bool)} {c : COp}

theorem op_mkmap {t : TypeId} {r : Option Operand} (hc : compOp P ⟨dst, .makeMap t r, ty, pos, af, gd⟩ = some c) (E : Emb P K B m s w) (hk : runOpK P T s c k = true) : OpDone P K B m w k ((execOp ρ ⟨dst, .makeMap t r, ty, pos, af, gd⟩).run P w) := by
  cases r with
  | some r => cases hc
  | none =>
    simp only [compOp, Option.some.injEq] at hc
    subst hc
    have hk1 := nOf_inv (k := fun g => newK s (.imap []) (k (.map (some g)))) hk
    have hr : OR P (m.put s.n w.heap.size 0) s.n (.imap []) (.map #[] 0) := ⟨#[], 0, rfl, rfl⟩
    obtain ⟨s', hk2, hE, hB, hle, _⟩ := new_ok E 0 hr hk1
    refine ⟨_, s', hk2, _, _, .value (.map (some w.heap.size)), ?_, trivial, hle, hE, hB, ?_⟩
    · simp [execOp, Instr.makeMap]
    · simp only [VR]; exact ⟨_, _, Mp.put_same _ _ _ _, rfl⟩
theorem op_ins {t : TypeId} {x y z : Operand} (hc : compOp P ⟨dst, .insert t x y z, ty, pos, af, gd⟩ = some c) (hρ : Hρ m T ρ (.insert t x y z)) (E : Emb P K B m s w) (hk : runOpK P T s c k = true) : OpDone P K B m w k ((execOp ρ ⟨dst, .insert t x y z, ty, pos, af, gd⟩).run P w) := by
  simp only [compOp] at hc
  split at hc
  · rename_i q e X Y Z h1 h2 h3 h4
    split at hc
    · rename_i ik h5
      cases hc
      have hk1 : valK T X (fun m => valK T Y (fun x => valK T Z (fun v => insK s m x v (k undef)))) = true := hk
      obtain ⟨va, ha, hk2⟩ := valK_inv hk1
      obtain ⟨vb, hb, hk3⟩ := valK_inv hk2
      obtain ⟨vd, hd, hk4⟩ := valK_inv hk3
      have ra := hρ x (by simp [Op.operands]) X va h2 ha
      have rb := hρ y (by simp [Op.operands]) Y vb h3 hb
      have rd := hρ z (by simp [Op.operands]) Z vd h4 hd
      obtain ⟨b, rfl, hk5⟩ := onMap_inv hk4
      rcases onInt_inv hk5 with ⟨i, n, rfl, hk6⟩ | hf
      rotate_left
      · cases hf
      obtain ⟨h6, hk7⟩ := ifB_true hk6
      have := kindEq_eq h6
      subst this
      obtain ⟨es, h7, hk8⟩ := imapK_inv hk7
      simp only [VR] at ra rb
      obtain ⟨gx, gy, hm, ea⟩ := ra
      obtain ⟨o', ho, a, cl, rfl, her⟩ := E.obj b gx gy _ hm h7
      cases hfl : findL n es with
      | some v => rw [hfl] at hk8; cases hk8
      | none =>
        rw [hfl] at hk8
        obtain ⟨h', hk9, _, hg⟩ := storeK_inv hk8
        have hfn := (find_ok (ik := ik) her 0).1 hfl
        have hlow : B ≤ gx ∧ gx < w.heap.size := ⟨E.own hm h7 (by simp), (E.low b gx gy hm).2⟩
        have hE : Emb P K B m ⟨h', s.n⟩ { w with heap := w.heap.setIfInBounds gx (.map (a.push { key := .int .i64 n, val := ρ z, born := cl }) (cl + 1)) } := by
          refine E.put (o' := .map (a.push { key := .int .i64 n, val := ρ z, born := cl }) (cl + 1)) hm h7 (by simp) hg (by simp) (by simp [hlow.2]) (fun j hj => by simp [Array.getElem?_setIfInBounds, Ne.symm hj]) ⟨_, _, rfl, ?_⟩
          rw [Array.toList_push]
          exact ER.snoc rd her
        refine ⟨undef, _, hk9, m, _, .skip, ?_, trivial, Mp.le_refl m, hE, below_of rfl rfl rfl (by simp) (fun j hj => by simp [Array.getElem?_setIfInBounds]; intro e; omega), VR.flat undef rfl⟩
        simp [execOp, ea, rb, Instr.mapUpdate, run_und h1, MapKept.run_getObj_map ho, run_key h5, run_find h5 hfn, MapKept.run_setObj_map _ ho]
    · cases hc
  · cases hc
theorem op_look {t : TypeId} {x y : Operand} {ok : Bool} (hc : compOp P ⟨dst, .lookup t x y ok, ty, pos, af, gd⟩ = some c) (hρ : Hρ m T ρ (.lookup t x y ok)) (E : Emb P K B m s w) (hk : runOpK P T s c k = true) : OpDone P K B m w k ((execOp ρ ⟨dst, .lookup t x y ok, ty, pos, af, gd⟩).run P w) := by
  simp only [compOp] at hc
  split at hc
  · rename_i q e X Y h1 h2 h3
    split at hc
    · rename_i ik inf h5 h6
      split at hc
      · rename_i z hz
        obtain ⟨hf, hc⟩ := sel_inv hc
        cases hc
        have hk1 : valK T X (fun m => valK T Y (fun x => lookK s z ok m x k)) = true := hk
        obtain ⟨va, ha, hk2⟩ := valK_inv hk1
        obtain ⟨vb, hb, hk3⟩ := valK_inv hk2
        have ra := hρ x (by simp [Op.operands]) X va h2 ha
        have rb := hρ y (by simp [Op.operands]) Y vb h3 hb
        obtain ⟨b, rfl, hk5⟩ := onMap_inv hk3
        rcases onInt_inv hk5 with ⟨i, n, rfl, hk6⟩ | hf
        rotate_left
        · cases hf
        obtain ⟨h6', hk7⟩ := ifB_true hk6
        have := kindEq_eq h6'
        subst this
        obtain ⟨es, h7, hk8⟩ := imapK_inv hk7
        simp only [VR] at ra rb
        obtain ⟨gx, gy, hm, ea⟩ := ra
        obtain ⟨o', ho, a, cl, rfl, her⟩ := E.obj b gx gy _ hm h7
        cases hfl : findL n es with
        | none =>
          rw [hfl] at hk8
          have hfn := (find_ok (ik := ik) her 0).1 hfl
          refine OpDone.keep E hk8 (u := lookV ok z false) ?_ ?_
          · cases ok
            · exact VR.flat z hf
            · show VR m (.tuple #[z, .bool false]) (.tuple #[z, .bool false])
              exact VR.flat _ (by simp [flat, flatA, flatL, hf])
          · cases ok <;> simp [execOp, ea, rb, Instr.lookup, run_und h1, MapKept.run_getObj_map ho, run_key h5, run_find h5 hfn, run_zero h6 hz, lookV]
        | some v =>
          rw [hfl] at hk8
          obtain ⟨j, u, hfn, hvu⟩ := (find_ok (ik := ik) her 0).2 v hfl
          refine OpDone.keep E hk8 (u := lookV ok u true) ?_ ?_
          · cases ok
            · exact hvu
            · show VR m (.tuple #[v, .bool true]) (.tuple #[u, .bool true])
              simp only [VR, AR]
              exact ⟨_, rfl, _, rfl, u, [.bool true], rfl, hvu, .bool true, [], rfl, by simp only [VR], rfl⟩
          · cases ok <;> simp [execOp, ea, rb, Instr.lookup, run_und h1, MapKept.run_getObj_map ho, run_key h5, run_find h5 hfn, lookV]
      · cases hc
    · cases hc
  · cases hc
end
end Go.Proofs.YtcpebhdbpkhhiaaGreat.Ev

/- The builtins, turned and run, do what the program's do. No program here. -/
namespace Go.Proofs.YtcpebhdbpkhhiaaGreat.Ev
open Go Go.RowKit

section
variable {P : Program} {K : Kp} {B : Nat} {m : Mp} {s : St} {w : World} {T : BT Value} {ρ : Operand → Value} {k : Value → St → Bool} {dst : Option Tmp} {ty : TypeId} {pos : String} {af : Array Edge} {gd : Option (Nat × Bool)} {c : COp}

theorem exec_bi (b : Builtin) (args : Array Operand) (ts : Array TypeId) : ∃ cs, execOp ρ ⟨dst, .call ⟨.builtin b, args, ts⟩, ty, pos, af, gd⟩ = builtin b ts ty cs ⟨args.toList.map ρ⟩ :=
  ⟨args.map fun | .const _ => true | _ => false, by rw [← map_list]; rfl⟩
theorem get0 {ts : Array TypeId} {d : TypeDesc} {j : Nat} (h : (ts[j]?).bind P.underlying = some d) : ∃ t0, ts[j]? = some t0 ∧ P.underlying t0 = some d := by
  cases h0 : ts[j]? with
  | none => rw [h0] at h; cases h
  | some t0 => rw [h0] at h; exact ⟨t0, rfl, h⟩
theorem bi_done (E : Emb P K B m s w) {b : Builtin} {args : Array Operand} {ts : Array TypeId} {xs : List X} (hb : ∀ cs l, builtin b ts ty cs l = builtin b ts ty #[] l) (hxs : cxs args.toList = some xs) (hρ : Hρ m T ρ (.call ⟨.builtin b, args, ts⟩))
    (hk : valsK T xs (fun l => oK s k (evBi P b ts ty l)) = true) : OpDone P K B m w k ((execOp ρ ⟨dst, .call ⟨.builtin b, args, ts⟩, ty, pos, af, gd⟩).run P w) := by
  obtain ⟨vs, hv, hk1⟩ := valsK_inv hk
  obtain ⟨r, hr, hk2⟩ := oK_inv hk1
  unfold evBi at hr
  obtain ⟨hf, hr⟩ := sel_inv hr
  obtain ⟨h1, h2⟩ := flatR_inv hr
  have e1 := LR.same vs hf (cxs_ok hxs hv (fun x hx X v => hρ x (by simp only [Op.operands, Call.operands]; simpa using hx) X v))
  obtain ⟨cs, e2⟩ := exec_bi (ρ := ρ) (dst := dst) (ty := ty) (pos := pos) (af := af) (gd := gd) b args ts
  have h3 : pureVal P (builtin b ts ty #[] ⟨vs⟩) = some (.value r) := by
    cases hp : pureVal P (builtin b ts ty #[] ⟨vs⟩) with
    | none => rw [hp] at h1; cases h1
    | some n =>
      rw [hp] at h1
      cases n with
      | value v => simp only [nextV, Option.some.injEq] at h1; rw [h1]
      | _ => cases h1
  refine OpDone.keep E hk2 (VR.flat r h2) ?_
  rw [e2, e1, hb]
  exact pureVal_run h3 w
/-- A builtin that gives a value. -/
theorem OpDone.bi {e : Sem Value} {b : Builtin} {args : Array Operand} {ts : Array TypeId} (h : ∃ v s', k v s' = true ∧ ∃ m' w' u, e.run P w = .ok u w' ∧ m.le m' ∧ Emb P K B m' s' w' ∧ Below B w w' ∧ VR m' v u)
    (he : ∀ cs, builtin b ts ty cs ⟨args.toList.map ρ⟩ = (do pure (.value (← e)))) : OpDone P K B m w k ((execOp ρ ⟨dst, .call ⟨.builtin b, args, ts⟩, ty, pos, af, gd⟩).run P w) := by
  obtain ⟨cs, e2⟩ := exec_bi (ρ := ρ) (dst := dst) (ty := ty) (pos := pos) (af := af) (gd := gd) b args ts
  exact OpDone.of h (by rw [e2, he])
theorem op_bi {b : Builtin} {args : Array Operand} {ts : Array TypeId} (hc : compOp P ⟨dst, .call ⟨.builtin b, args, ts⟩, ty, pos, af, gd⟩ = some c) (hρ : Hρ m T ρ (.call ⟨.builtin b, args, ts⟩)) (E : Emb P K B m s w) (hk : runOpK P T s c k = true) :
    OpDone P K B m w k ((execOp ρ ⟨dst, .call ⟨.builtin b, args, ts⟩, ty, pos, af, gd⟩).run P w) := by
  have ho : ∀ x ∈ args.toList, ∀ X v, cx x = some X → XV T X v → VR m v (ρ x) := fun x hx X v => hρ x (by simp only [Op.operands, Call.operands]; simpa using hx) X v
  simp only [compOp] at hc
  split at hc
  · -- len
    rename_i x hl
    split at hc
    · rename_i e h1
      obtain ⟨X, h2, rfl⟩ := Option.map_eq_some_iff.1 hc
      obtain ⟨t0, h3, h4⟩ := get0 h1
      obtain ⟨v, hv, hk1⟩ := valK_inv (k := fun x => onSlice x (fun n _ => k (.int .i64 (.ofNat n)) s) (fun _ _ n _ => k (.int .i64 (.ofNat n)) s)) hk
      obtain ⟨r, hk2, hr, hv2⟩ := len_ok (w := w) (ty := ty) h3 h4 (ho x (by rw [hl]; simp) X v h2 hv) hk1
      exact OpDone.bi (e := Builtin.len_ ts ty #[ρ x]) ⟨r, s, hk2, m, w, r, hr, Mp.le_refl m, E, Below.refl B w, hv2⟩ (fun cs => by rw [hl]; rfl)
    · rename_i h1
      obtain ⟨X, h2, rfl⟩ := Option.map_eq_some_iff.1 hc
      exact bi_done E (fun cs l => rfl) (xs := [X]) (by rw [hl]; simp [cxs, h2]) hρ hk
    · cases hc
  · -- cap
    rename_i x hl
    split at hc
    · rename_i e h1
      obtain ⟨X, h2, rfl⟩ := Option.map_eq_some_iff.1 hc
      obtain ⟨t0, h3, h4⟩ := get0 h1
      obtain ⟨v, hv, hk1⟩ := valK_inv (k := fun x => oK s k (evCap x)) hk
      obtain ⟨r, hr, hk2⟩ := oK_inv hk1
      obtain ⟨hr2, hv2⟩ := cap_ok (w := w) (ty := ty) h3 h4 (ho x (by rw [hl]; simp) X v h2 hv) hr
      exact OpDone.bi (e := Builtin.cap_ ts ty #[ρ x]) ⟨r, s, hk2, m, w, r, hr2, Mp.le_refl m, E, Below.refl B w, hv2⟩ (fun cs => by rw [hl]; rfl)
    · cases hc
  · -- append
    rename_i x y hl
    split at hc
    · rename_i e d X Y h1 h2 h3 h4
      split at hc
      · rename_i i z h5 h6
        obtain ⟨h7, hc⟩ := sel_inv hc
        simp only [Bool.and_eq_true, Bool.not_eq_true'] at h7
        obtain ⟨t0, g1, g2⟩ := get0 h1
        obtain ⟨t1, g3, g4⟩ := get0 h2
        have hz : z.size = i.size := by simpa using h7.1
        have h0 : i.size ≠ 0 := by
          intro e
          have := h7.2
          rw [e] at this
          cases this
        have go : ∀ ints, ((ints = true ∧ ∃ q, d = .int q) ∨ (ints = false ∧ ∃ q, d = .slice q)) → runOpK P T s (.app e i.size i.bytes z.toList ints X Y) k = true → OpDone P K B m w k ((execOp ρ ⟨dst, .call ⟨.builtin .append, args, ts⟩, ty, pos, af, gd⟩).run P w) := by
          intro ints hd hk
          obtain ⟨v, hv, hk1⟩ := valK_inv (k := fun x => valK T Y (fun y => appK s e i.size i.bytes z.toList ints x y k)) hk
          obtain ⟨u, hu, hk2⟩ := valK_inv hk1
          exact OpDone.bi (e := Builtin.append_ ts ty #[ρ x, ρ y]) (app_ok g1 g2 g3 g4 hd h5 h6 hz h0 E (ho x (by rw [hl]; simp) X v h3 hv) (ho y (by rw [hl]; simp) Y u h4 hu) hk2) (fun cs => by rw [hl]; rfl)
        split at hc
        · cases hc; exact go true (.inl ⟨rfl, _, rfl⟩) hk
        · cases hc; exact go false (.inr ⟨rfl, _, rfl⟩) hk
        · cases hc
      · cases hc
    · cases hc
  · -- copy
    rename_i x y hl
    split at hc
    · rename_i e X Y h1 h3 h4
      obtain ⟨i, h5, rfl⟩ := Option.map_eq_some_iff.1 hc
      obtain ⟨t0, g1, g2⟩ := get0 h1
      obtain ⟨v, hv, hk1⟩ := valK_inv (k := fun x => valK T Y (fun y => copyK s i.size x y k)) hk
      obtain ⟨u, hu, hk2⟩ := valK_inv hk1
      obtain ⟨r, s', hk3, w', hr, hE, hB, hv2⟩ := copy_ok (ty := ty) g1 g2 h5 E (ho x (by rw [hl]; simp) X v h3 hv) (ho y (by rw [hl]; simp) Y u h4 hu) hk2
      exact OpDone.bi (e := Builtin.copy_ ts ty #[ρ x, ρ y]) ⟨r, s', hk3, m, w', r, hr, Mp.le_refl m, hE, hB, hv2⟩ (fun cs => by rw [hl]; rfl)
    · cases hc
  · -- clear
    rename_i x hl
    split at hc
    · rename_i e X h1 h3
      split at hc
      · rename_i i z h5 h6
        obtain ⟨h7, hc⟩ := sel_inv hc
        cases hc
        obtain ⟨t0, g1, g2⟩ := get0 h1
        obtain ⟨v, hv, hk1⟩ := valK_inv (k := fun x => clearK s i.size z.toList x k) hk
        obtain ⟨s', hk3, w', hr, hE, hB⟩ := clear_ok (ty := ty) g1 g2 h5 h6 (by simpa using h7) E (ho x (by rw [hl]; simp) X v h3 hv) hk1
        exact OpDone.bi (e := Builtin.clear_ ts ty #[ρ x]) ⟨_, s', hk3, m, w', _, hr, Mp.le_refl m, hE, hB, VR.flat _ rfl⟩ (fun cs => by rw [hl]; rfl)
      · cases hc
    · cases hc
  · rename_i hn1
    obtain ⟨xs, h2, rfl⟩ := Option.map_eq_some_iff.1 hc
    exact bi_done E (fun cs l => rfl) h2 hρ hk
  · obtain ⟨xs, h2, rfl⟩ := Option.map_eq_some_iff.1 hc
    exact bi_done E (fun cs l => rfl) h2 hρ hk
  · cases hc

/-- An operation that is no call of a function. -/
def noCall : Op → Bool
  | .call { callee := .value _, .. } => false
  | _ => true
/-- Every operation that is taken, calls apart. -/
theorem op_all {op : Op} (hn : noCall op = true) (hc : compOp P ⟨dst, op, ty, pos, af, gd⟩ = some c) (hρ : Hρ m T ρ op) (E : Emb P K B m s w) (hk : runOpK P T s c k = true) : OpDone P K B m w k ((execOp ρ ⟨dst, op, ty, pos, af, gd⟩).run P w) := by
  cases op with
  | move x => exact op_move (.inl rfl) hc hρ E hk
  | assign x => exact op_move (.inr rfl) hc hρ E hk
  | pick => exact op_pick hc hρ E hk
  | alloc => exact op_alloc hc E hk
  | box => exact op_box hc hρ E hk
  | build => exact op_build hc hρ E hk
  | buildSlice => exact op_lit hc hρ E hk
  | load => exact op_load hc hρ E hk
  | store => exact op_store hc hρ E hk
  | nilCheck => exact op_nilc hc hρ E hk
  | binOp => exact op_bin hc hρ E hk
  | unOp => exact op_un hc hρ E hk
  | convert => exact op_conv hc hρ E hk
  | makeInterface => exact op_mini hc hρ E hk
  | makeFunc fn => cases fn with
    | func f => exact op_fn hc hρ E hk
    | _ => cases hc
  | makeSlice => exact op_mks hc hρ E hk
  | slice => exact op_slc hc hρ E hk
  | fieldAddr => exact op_fa hc hρ E hk
  | field => exact op_fld hc hρ E hk
  | indexAddr => exact op_ia hc hρ E hk
  | index => exact op_ix hc hρ E hk
  | typeAssert => exact op_tas hc hρ E hk
  | extract => exact op_ext hc hρ E hk
  | makeMap => exact op_mkmap hc E hk
  | insert => exact op_ins hc hρ E hk
  | lookup => exact op_look hc hρ E hk
  | call cl =>
    obtain ⟨ce, args, ts⟩ := cl
    cases ce with
    | builtin b => exact op_bi hc hρ E hk
    | value f => cases hn
    | invoke => cases hc
  | _ => cases hc
end
end Go.Proofs.YtcpebhdbpkhhiaaGreat.Ev

/- Operations in their order, calls among them. No program here. -/
namespace Go.Proofs.YtcpebhdbpkhhiaaGreat.Ev
open Go Go.RowKit

/-- A fence that lets everything in, in a round or in none. -/
def Fr (r : Option Nat) : Fence := { Fence.wide with round := r }
theorem callsIn_Fr {r : Option Nat} {n : Nat} {P : Program} {f : FuncId} {args : Array Value} {w : World} {R : Ending → World → Prop} (h : CallsIn Fence.wide 0 P f args w R) : CallsIn (Fr r) n P f args w R :=
  ⟨trivial, fun cs _ => h.2 cs (room_wide _)⟩

/-- How a call ends. -/
def Ends (P : Program) (K : Kp) (B : Nat) (m : Mp) (w : World) (k : Value → St → Bool) : Ending → World → Prop
  | .returned u, w' => ∃ v s' m', k v s' = true ∧ m.le m' ∧ Emb P K B m' s' w' ∧ Below B w w' ∧ VR m' v u
  | _, _ => False

/-- Calls of the level below. -/
structure CallOk (P : Program) (K : Kp) (B : Nat) (O : OK) : Prop where
  call : ∀ {f : FuncId} {vs : List Value} {s : St} {k : Value → St → Bool}, O.call f vs s k = true → ∀ {m : Mp} {w : World} {us : List Value}, Emb P K B m s w → LR m vs us →
    (∀ w, (callFunc f ⟨us⟩).run P w = .ok (.enter f ⟨us⟩) w) ∧ CallsIn Fence.wide 0 P f ⟨us⟩ w (Ends P K B m w k)
  round : ∀ {l : Nat} {vs : List Value} {s : St} {k : Value → St → Bool}, roundK O l vs s k = true → ∀ {m : Mp} {w : World} {us : List Value} {x y : Nat}, m l = some (x, y) → Emb P K B m s w → LR m vs us →
    ∃ f tmps assign body, (Instr.yield x ⟨us⟩).run P w = .ok (.round x f tmps assign body) w ∧ ∀ r n, RoundIn (Fr r) n P x f tmps assign body w (Ends P K B m w k)

theorem eval_ok {m : Mp} {T : BT Value} {a : Act} (hT : TR m T a.tmps) {x : Operand} {X : X} {v : Value} (hx : cx x = some X) (hv : XV T X v) : VR m v (a.eval x) := by
  cases x with
  | tmp t =>
    simp only [cx, Option.some.injEq] at hx
    subst hx
    obtain ⟨v', h1, h2⟩ := hT t v hv
    have : a.eval (.tmp t) = v' := by simp [Act.eval, Array.getD_eq_getD_getElem?, h1]
    rw [this]
    exact h2
  | const u =>
    simp only [cx] at hx
    obtain ⟨hf, hx⟩ := sel_inv hx
    cases hx
    simp only [XV] at hv
    subst hv
    exact VR.flat v hf
  | func f =>
    simp only [cx, Option.some.injEq] at hx
    subst hx
    simp only [XV] at hv
    subst hv
    exact VR.flat _ (by simp [flat, flatA, flatL])
  | global g => cases hx
theorem eval_Hρ {m : Mp} {T : BT Value} {a : Act} (hT : TR m T a.tmps) (op : Op) : Hρ m T a.eval op := fun _ _ _ _ hx hv => eval_ok hT hx hv
theorem put_ok {m : Mp} {T : BT Value} {a : Act} (hT : TR m T a.tmps) {d : Option Nat} {v u : Value} {k : BT Value → Bool} (hv : VR m v u) (hk : putTK T d v k = true) : ∃ T', k T' = true ∧ TR m T' (a.put d u).tmps ∧ (a.put d u).defers = a.defers := by
  cases d with
  | none => exact ⟨T, hk, hT, rfl⟩
  | some d =>
    obtain ⟨T', hk, hd, hg⟩ := updK_inv (k := k) hk
    refine ⟨T', hk, fun t x ht => ?_, rfl⟩
    obtain ⟨x0, hx0⟩ := Option.isSome_iff_exists.1 hd
    obtain ⟨x1, h1, _⟩ := hT d x0 hx0
    have hlt : d < a.tmps.size := (Array.getElem?_eq_some_iff.1 h1).1
    rw [hg] at ht
    by_cases h : t = d
    · subst h
      rw [if_pos rfl] at ht
      cases ht
      exact ⟨u, by simp [Act.put, hlt], hv⟩
    · rw [if_neg h] at ht
      obtain ⟨x', h2, h3⟩ := hT t x ht
      exact ⟨x', by simp only [Act.put]; rw [Array.getElem?_setIfInBounds_ne (by omega)]; exact h2, h3⟩

theorem runAny_inv {P : Program} {O : OK} {T : BT Value} {s : St} {c : COp} {k : Value → St → Bool} (h : runAnyK P O T s c k = true) : runOpK P T s c k = true ∨ ∃ f l, c = .call f l ∧ valK T f (fun f => valsK T l (fun l => callVK O s l f k)) = true := by
  cases c <;> first | exact .inl h | exact .inr ⟨_, _, rfl, h⟩
theorem appL_eq (a b : List Value) : appL a b = a ++ b := by
  induction a with
  | nil => rfl
  | cons v l ih => show v :: appL l b = _; rw [ih]; rfl

section
variable {P : Program} {K : Kp} {B : Nat} {m : Mp} {s : St} {w : World} {T : BT Value} {dst : Option Tmp} {ty : TypeId} {pos : String} {af : Array Edge} {gd : Option (Nat × Bool)} {c : COp}
theorem no_call {op : Op} {X : Ev.X} {l : List Ev.X} (hn : noCall op = true) (hc : compOp P ⟨dst, op, ty, pos, af, gd⟩ = some (.call X l)) : False := by
  have hm : ∀ {α : Type} {x : Option α} {f : α → COp}, (∀ a, f a ≠ .call X l) → x.map f = some (.call X l) → False := by
    intro α x f hf h
    obtain ⟨a, _, e⟩ := Option.map_eq_some_iff.1 h
    exact hf a e
  have hs : ∀ {b : Bool} {c : COp}, c ≠ .call X l → sel b (some c) none = some (.call X l) → False := by
    intro b c hc h
    obtain ⟨_, h⟩ := sel_inv h
    exact hc (Option.some.inj h)
  have hs2 : ∀ {b : Bool} {c : COp}, c ≠ .call X l → sel b none (some c) = some (.call X l) → False := by
    intro b c hc h
    cases b with
    | true => cases h
    | false => exact hc (Option.some.inj h)
  cases op with
  | call cl =>
    obtain ⟨ce, args, ts⟩ := cl
    cases ce with
    | value f => cases hn
    | invoke => cases hc
    | builtin b =>
      simp only [compOp] at hc
      repeat' split at hc
      all_goals first | exact hm (by simp) hc | exact hs (by simp) hc | (cases hc; done) | (obtain ⟨_, hc⟩ := sel_inv hc; cases hc; done)
  | makeFunc fn => cases fn with
    | func f =>
      simp only [compOp] at hc
      repeat' split at hc
      all_goals cases hc
    | _ => cases hc
  | makeMap t r => cases r <;> cases hc
  | _ =>
    simp only [compOp] at hc
    repeat' split at hc
    all_goals first | exact hm (by simp) hc | exact hs (by simp) hc | exact hs2 (by simp) hc | (cases hc; done)

/-- What stands behind an operation. -/
def Then (P : Program) (K : Kp) (B : Nat) (m : Mp) (a : Act) (w : World) (k : BT Value → St → Bool) (a' : Act) (w' : World) : Prop :=
  ∃ T' s' m', k T' s' = true ∧ m.le m' ∧ Emb P K B m' s' w' ∧ TR m' T' a'.tmps ∧ a'.defers = a.defers ∧ Below B w w'

/-- What an operation hands on, and how it stands then. -/
def Gives (P : Program) (K : Kp) (B : Nat) (m : Mp) (a : Act) (w : World) (d : Option Tmp) (k : Value → St → Bool) (a' : Act) (w' : World) : Prop :=
  ∃ v u s' m', k v s' = true ∧ m.le m' ∧ Emb P K B m' s' w' ∧ Below B w w' ∧ VR m' v u ∧ a' = a.put d u
theorem oper_val {O : OK} (hO : CallOk P K B O) {r : Option Nat} {n : Nat} {o : Oper} {a : Act} {k : Value → St → Bool} {Q : Exit → Act → World → Prop} (hc : compOp P o = some c) (E : Emb P K B m s w) (hρ : Hρ m T a.eval o.op)
    (hk : runAnyK P O T s c k = true) : o.wpIn (Fr r) n P a w (Gives P K B m a w o.dst k) Q := by
  obtain ⟨dst, op, ty, pos, af, gd⟩ := o
  have hdef : ∀ cl, op ≠ .defer cl := by
    rintro cl rfl
    cases hc
  refine ⟨fun _ _ => trivial, ?_⟩
  have hsem : Oper.semAt (Fr r).round a.eval ⟨dst, op, ty, pos, af, gd⟩ = execOp a.eval ⟨dst, op, ty, pos, af, gd⟩ := Oper.semAt_eq _ _ _ hdef
  rw [hsem]
  have fin : ∀ {v u : Value} {s' : St} {m' : Mp} {w' : World}, k v s' = true → m.le m' → Emb P K B m' s' w' → Below B w w' → VR m' v u → Gives P K B m a w dst k (a.put dst u) w' := by
    intro v u s' m' w' hk hle hE hB hv
    exact ⟨v, u, s', m', hk, hle, hE, hB, hv, rfl⟩
  by_cases hn : noCall op = true
  · rcases runAny_inv hk with hk | ⟨X, l, rfl, _⟩
    · obtain ⟨v, s', hk, m', w', nx, hr, hfi, hle, hE, hB, hv⟩ := op_all hn hc hρ E hk
      rw [hr]
      cases nx with
      | value u => exact fin hk hle hE hB hv
      | skip => exact fin hk hle hE hB hv
      | _ => exact hfi.elim
    · exact (no_call hn hc).elim
  · have : ∃ f args ts, op = .call ⟨.value f, args, ts⟩ := by
      cases op with
      | call cl =>
        obtain ⟨ce, args, ts⟩ := cl
        cases ce with
        | value f => exact ⟨f, args, ts, rfl⟩
        | _ => exact absurd rfl hn
      | _ => exact absurd rfl hn
    obtain ⟨f, args, ts, rfl⟩ := this
    simp only [compOp] at hc
    split at hc
    · rename_i X l h1 h2
      cases hc
      have hk0 : valK T X (fun f => valsK T l (fun l => callVK O s l f k)) = true := hk
      obtain ⟨fv, hf, hk1⟩ := valK_inv hk0
      obtain ⟨vs, hv, hk2⟩ := valsK_inv hk1
      have ef := hρ f (by simp [Op.operands, Call.operands]) X fv h1 hf
      have ea := cxs_ok h2 hv (ρ := a.eval) (fun x hx X v => hρ x (by simp only [Op.operands, Call.operands]; exact Array.mem_append.2 (.inr (by simpa using hx))) X v)
      have ex : execOp a.eval ⟨dst, .call ⟨.value f, args, ts⟩, ty, pos, af, gd⟩ = (do let d ← Deferred.ofValue (a.eval f) ⟨args.toList.map a.eval⟩; invoke d.target d.args) := by
        rw [← map_list]
        rfl
      have ends : ∀ {e : Ending} {w' : World}, Ends P K B m w k e w' → (match (generalizing := false) e, w' with
          | .returned v, w'' => Gives P K B m a w dst k (a.put dst v) w''
          | .panicked chain, w'' => Q (.panic chain) a w''
          | .outgrown, _ => LetsOut Q) := by
        intro e w' h
        cases e with
        | returned u =>
          obtain ⟨v, s', m', hk, hle, hE, hB, hv⟩ := h
          exact fin hk hle hE hB hv
        | panicked => exact h.elim
        | outgrown => exact h.elim
      rcases onFunc_inv hk2 with ⟨g, p, cc, rfl, hk3⟩ | ⟨q, p, cc, rfl, hk3⟩
      · simp only [VR, AR] at ef
        obtain ⟨p', c', hfe, ⟨pl, rfl, hp⟩, ⟨cl, rfl, hcl⟩⟩ := ef
        rw [appL_eq, appL_eq] at hk3
        obtain ⟨hcf, hcall⟩ := hO.call hk3 E (hp.append (ea.append hcl))
        rw [ex, hfe]
        have : (do let d ← Deferred.ofValue (.func (.func g) ⟨pl⟩ ⟨cl⟩) ⟨args.toList.map a.eval⟩; invoke d.target d.args : Sem Next).run P w = .ok (.enter g ⟨pl ++ (args.toList.map a.eval ++ cl)⟩) w := by
          have := hcf w
          show (callFunc g ((⟨pl⟩ ++ ⟨args.toList.map a.eval⟩ : Array Value) ++ ⟨cl⟩)).run P w = _
          have e : ((⟨pl⟩ ++ ⟨args.toList.map a.eval⟩ : Array Value) ++ ⟨cl⟩) = ⟨pl ++ (args.toList.map a.eval ++ cl)⟩ := by
            apply Array.ext'
            simp
          rw [e]
          exact this
        rw [this, Oper.uponIn_enter]
        refine ⟨fun h => (by cases h), CallsIn.mono (callsIn_Fr hcall) (fun e w' h => ?_)⟩
        have := ends h
        cases e <;> exact this
      · simp only [VR, AR] at ef
        obtain ⟨x, y, p', c', hm, hfe, ⟨pl, rfl, hp⟩, ⟨cl, rfl, hcl⟩⟩ := ef
        rw [appL_eq] at hk3
        obtain ⟨fn, tmps, assign, body, hy, hround⟩ := hO.round hk3 hm E (hp.append ea)
        rw [ex, hfe]
        have : (do let d ← Deferred.ofValue (.func (.yield x) ⟨pl⟩ ⟨cl⟩) ⟨args.toList.map a.eval⟩; invoke d.target d.args : Sem Next).run P w = .ok (.round x fn tmps assign body) w := by
          show (Instr.yield x (⟨pl⟩ ++ ⟨args.toList.map a.eval⟩ : Array Value)).run P w = _
          have e : (⟨pl⟩ ++ ⟨args.toList.map a.eval⟩ : Array Value) = ⟨pl ++ args.toList.map a.eval⟩ := by
            apply Array.ext'
            simp
          rw [e]
          exact hy
        rw [this, Oper.uponIn_round]
        refine ⟨fun h => (by cases h), RoundIn.mono (hround r (n - 1)) (fun e w' h => ?_)⟩
        have := ends h
        cases e <;> exact this
    · cases hc
theorem oper_ok {O : OK} (hO : CallOk P K B O) {r : Option Nat} {n : Nat} {o : Oper} {a : Act} {k : BT Value → St → Bool} {Q : Exit → Act → World → Prop} (hc : compOp P o = some c) (E : Emb P K B m s w) (hT : TR m T a.tmps)
    (hk : runAnyK P O T s c (fun v s' => putTK T o.dst v (fun T' => k T' s')) = true) : o.wpIn (Fr r) n P a w (Then P K B m a w k) Q := by
  refine Oper.wpIn_mono ?_ (oper_val hO hc E (eval_Hρ hT o.op) hk)
  rintro a' w' ⟨v, u, s', m', hk, hle, hE, hB, hv, rfl⟩
  obtain ⟨T', h1, h2, h3⟩ := put_ok (hT.mono hle) hv hk
  exact ⟨T', s', m', h1, hle, hE, h2, h3, hB⟩
end
end Go.Proofs.YtcpebhdbpkhhiaaGreat.Ev
